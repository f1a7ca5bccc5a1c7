import PyProof.Rows.All
import Wide.All
import OpenK.AllK
import Wide.FinOn
import Lean
import PyProof.EqAt
import PyProof.EqKinds
import PyProof.TupleCall
import PyProof.ExcInit
import KE.KLam
import KE.KNestM
import KE.KSortTup
import PyProof.Rows.SortBase
import PyProof.Rows.SortWalk
import PyProof.Rows.SortShellK
import PyProof.Rows.SortRuns
import PyProof.SetScanFacts
import PyProof.TupleKey
import PyProof.WalksMore
import KE.KIntText
import PyProof.StrWalks
import PyProof.ExcClass2
import PyProof.InstStore
import PyProof.InstStoreFacts
import PyProof.ExcArgsOwn
import PyProof.ExcAttrAll.ValueError
import PyProof.ExcBaseAll.ValueError
import PyProof.NsDelKeeps
import KE.KTryMore
import PySem.Challenge.RW_sheetlay_k46_books_refused
set_option Elab.async false
set_option linter.all false
set_option maxRecDepth 100000
set_option compiler.extract_closed false
open Option renaming some->aa,none->ae
open Option renaming bind_some->Zu,map_eq_some_iff->adi,map_some->ajd,isSome_iff_exists->ajL,getD_some->akg,getD_none->amk
open PySem.W renaming Frag->aaa,nsIn->aaB,keepIn->aaJ,codeIn->aaM,mg_of->aaN,fnOf->aa2,mg_none_of->abC,kitOne->ads,kia_one->ags,typeIn->agK,clsIn->agZ,findIn->ahn,callWith_K->ajt,methodObj->ajD,kitx_list->ajG,cellsFrom_some->akl,instObj->akt,lookIn->akW,kitAny->akZ,kitx_tuple->alI,kitx_bool->alU,kitx_dict->alV,plainGet->amg,kitx_int->amh,kitx_str->ami,OpenLaw->amG,WalkO->am2,subIn->am5
open PySem renaming wpAny_bind->aab,Shared->aaj,wpAny_pure->aas,mainGlobals->aaA,starEach->aa9,FuncData->abd,wpAny->abo,model->abu,Around->abL,World->abZ,bootBuiltins->ab1,wpAny_mono->acd,Expr->acu,sizeLine_eq->adt,compareOp->agq,wpAny_passesOwn->agr,wpAny_holding->agG,wpAny_truthy_bool->agH,PyData->agI,wpAny_newObj_type->agR,foldedSetIterable->agS,behindInMarks->agX,wpAny_execs_nil->ag1,wpAny_Call_Name_kw->ag4,ClassData->ag8,attributeBase->ahc,wpAny_specialOf->ahq,binaryOp->ahu,mem_of_lookup->ahv,eval->ahx,assignEach->ahA,typeIs_str->ahB,intText?->ahC,tupleKeyHash->ahI,backTo->ahJ,sysModules->ahQ,wpAny_loadPart_at->ahT,wpAny_loadName_local->ah0,codeAny_call_builtin->ah1,wpAny_execs_cons->ah8,NameKind->ah9,swapsWith->aih,wpAny_standAt->aii,Keyword->aik,wpAny_Call_method_late->aip,wpAny_call->aiu,wpAny_field->aix,sliceBounds->aiy,keywordEach->aiz,GenState->aiB,isSubtype_tuple_tuple->aiD,wpAny_typeOf->aiF,isType->aiJ,wpAny_call_entry->aiM,wpAny_forIn_list->aiN,wpAny_isInstance->aiO,isInstance->ai0,builtinsNs->ai2,call_meets->ai3,letOwnedTupleGo->ai8,codeAny->ai9,wpAny_tupleItemsOf->ajm,Paired->ajo,codeAny_mono->ajs,wpAny_rule->ajC,wpAny_Name->ajE,wpAny_pyIter_list->ajF,wpAny_comprehension_free->ajP,holding->aj3,swapsWithSole->aj4,swappedStores->aj5,getItem->aj7,wpAny_callSpecial?_slot->aj8,wpAny_pyNext_ascii_end->akq,wpAny_storeName_local->aku,wpAny_isTrue_Compare1->akv,assign->akw,PassesOwn->akx,noteFrame->akA,builtinLookup_eq_fast->akE,backToKw->akL,unbindBehindTheSuite->akS,wpAny_bindName->akV,IntMulOk->akY,wpAny_loadPart->ak0,wpAny_setField->ak1,codeAny_forLoop_any->ak2,subscripted->ak4,intBits_le_64->ak5,wpAny_isSubtype_exc->ak8,assignInOrder->alG,rawInt->alH,IsPart->alJ,wpAny_attempt->alO,wpAny_pyIter_ascii->alP,BindsTo->alW,typeLookup->alX,callerA->al0,valueAt->al2,Result->amc,seqIndex_neg->amd,bindName->amt,eqIsQuiet->amw,DictEntry->amx,tupleKind->amA,isTrue->amB,standAt->amC,wpAny_BinOp->amD,seqIndex_of->amE,typeOf->amF,excClassObj->amK,call->amT,JoinOk->amU,Builtin->amW,Model->amY,CmpOp->amZ,Within->am8,revObj->anc
open List renaming length_cons->aac,length_append->aaf,getElem?_set->aal,length_nil->aam,getElem?_eq_some_iff->aan,mem_singleton->aaq,getElem?_eq_getElem->aav,mem_cons_of_mem->aay,length_map->aaE,mem_cons->aaI,replicate->aaL,size_toArray->aa3,append_nil->aa5,getElem?_map->aa6,mem_cons_self->aa7,mem_of_getElem?->aa8,prefix_refl->aba,mem_append->abc,getElem?_append_left->abi,map_cons->abk,not_mem_nil->abl,prefix_append->abn,getElem?_set_ne->abt,mem_append_right->abz,length_set->abB,all_eq_true->abD,cons_append->abP,getElem?_set_self->ab0,replicate_succ->ab8,mem_map->adn,eq_of_mem_replicate->agp,map_nil->agy,range->agz,map_append->agF,append_assoc->agJ,length_eq_zero_iff->agN,getElem?_append_right->agP,take_of_length_le->agQ,drop_eq_getElem_cons->agY,take_append_drop->ag2,set_cons_zero->ag5,length_drop->ag6,find?_cons->ahe,replicate_zero->ahf,lookup_cons->ahi,any_eq_true->ahj,getElem_mem->ahk,length_singleton->ahm,mem_of_mem_drop->ahp,length_take->ahz,set_cons_succ->ahG,nodup_cons->ahK,length_replicate->ahL,nil_append->ahO,mem_of_mem_take->ah2,pairwise_iff_getElem->ah6,length->aic,prefix_rfl->aio,drop_of_length_le->air,mem_range->aiA,getElem?_eq_none->aiL,exists_mem_of_length_pos->aiQ,take_append_of_le_length->aiR,drop_append_of_le_length->aiS,mem_append_left->aiT,getElem?_of_mem->aiV,any_cons->aiW,mem_filter->ai5,filterMap_cons->ai6,foldl_cons->aje,mem_map_of_mem->ajg,flatMap_append->ajh,mem_filterMap->ajq,contains_cons->aju,map_map->ajx,getElem?_eq_none_iff->ajB,mem_range'_1->ajU,getElem_append_left->ajV,flatten_cons->ajX,length_filterMap_le->ajY,length_range->ajZ,Nodup->aj0,getElem?_cons_zero->aj9,getElem?_cons_succ->akd,drop_length->akf,drop_append->akk,of_mem_zip->aky,filterMap_append->akJ,getElem?_zipIdx->akO,mem_iff_getElem->akT,getElem?_range->ak6,length_reverse->ald,filter_eq_self->alf,map_eq_nil_iff->alg,length_pos_iff->alh,map_congr_left->ali,zip_cons_cons->alk,flatMap_assoc->alR,getElem?_take->alS,reverse_cons->alZ,ext_getElem?->al6,flatMap_cons->al7,getElem_inj->amf,take_length->amq,take_append->ams,getD->amI,filter->amL,range'->amM,take_succ->amR,drop_zero->amS
open PySem.Heap renaming get?_push_of_some->aap,lt_size->aaK,get?_push_size->abx,get?_update_other->agB,get?_update_self->ahl,SameBut->ahH,get?_none_of_le->ahZ,get?_update_ne->ak9,get?_push_at->al3,MadeExcOf->amQ
open Nat renaming le_refl->aat,lt_of_lt_of_le->aa1,ne_of_lt->abA,le_trans->ab2,zero_le->ab7,lt_irrefl->agu,zero_add->ahd,reduceSub->aim,ne_of_gt->aiE,lt_trans->aiG,add_assoc->aj1,le_of_not_lt->ake,pow_le_pow_right->akM,mul_le_mul_right->akQ,pos_of_ne_zero->alT,lt_trichotomy->al4,le_of_lt->al9,min_le_right->amj,lt_succ_self->amm,log2_lt->amH,le_succ->amJ
open Or renaming inl->abf,inr->ana
open Bool renaming false_ne_true->abh,and_eq_true->abw,false_eq_true->abX,eq_iff_iff->agM,and_eq_true_iff->ag7,not_true->aha,or_eq_false_iff->ah3,false_and->aiC,or_eq_true->ajc,not_eq_true'->ajQ,not_false->akU,and_false->akX,or_false->am0,true_and->am4
open PySem.Value renaming ref->abm,str->ag0,none->ag3,builtin->ag9,type->ahP,int->ah4,bool->ai1,float->amz,isStrOf->amX
open PySem.Txt renaming partition->abp,startswith->abY,split->agx,slice->ail,join->akc,replace->alc
open PySem.F renaming slot_list_append->abq,type_list_append->abr,attrBase_ValueError->ahN,slot_tuple_hash->ais,slot_tuple_eq->ai4,slot_str_startswith->aji,type_str_startswith->ajj,args_str_split_2->ajv,args_tuple_add_2->ajM,entry_str_split->ajR,entry_tuple_add->aj6,plainAttrs_list->akb,slot_str_split->akh,slot_tuple_add->akm,plainAttrs_str->akp,slot_str_split->akr,type_str_split->aks,entry_bexc_ga->akC,slot_str_join->akF,args_bexc_ga->akP,slot_str_replace->alQ,plain_list_iadd->al5,plainAttrs_str->amn
open PySem.Builtin.Str renaming occurrences->abv,tooLong->aid,partsBetween->aif,strSub->ain,strKind->alb
open Option.some renaming inj->abK,injEq->ajO
open PySem.Str renaming ofString->abV,join->ab3,empty->aij,length->alY
open PyProof.Rows renaming slot_tuple_getitem->adl,callWith_type1->agL,envOfC->aja,assignInOrder_cons->ajp,kindOf->ajH,AllBare->aj2,subscriptTail_builtinR->akn,entry_tuple_getitem->ak3,args_tuple_getitem->alK,subscriptTail->alL,IntsAre->am1
open Int renaming emod_lt_of_pos->adm,emod_nonneg->agE,gcd->agO,toNat_natCast->aht,fdiv_eq_ediv_of_nonneg->ahW,gcd_comm->aiH,gcd_pos_of_ne_zero_right->aiX,gcd_sub_mul_right_right->ajb,zero_add->ajy,gcd_dvd_right->ajN,fmod_nonneg_of_pos->ako,mul_fdiv_cancel'->akN,fmod_lt_of_pos->alM,fmod_def->ame,gcd_dvd_left->aml,natCast_zero->amo,ediv_nonneg->amN,natCast_add->amO,natAbs_mul->amP
open PySem.PyData renaming eqv->ado,canLay0->agD,str->ahs,canLayAll0->ahS,eqvAll->aiY,depthAll->akB,none->ala,depth->anb
open Classical renaming propDecidable->adp,choose_spec->aiI,choose->aiP
open PySem.PassesOwn renaming never->adq
open PySem.SeqAt renaming shaped->agt
open PySem.NameKind renaming free->agw,cell->aka
open True renaming intro->agA
open PySem.Builtin.Tuple renaming tupleHashOf->agC,tupleExact->ahr,tupleItemsOf->ahV
open Ne renaming symm->ahb
open Array renaming getElem?_eq_some_iff->ahh,getElem?_eq_getElem->ah7,getElem?_eq_none->aiq,eq_empty_of_size_eq_zero->aiK,length_toList->ai7,toList_append->ajf,forIn_toList->ajn,find?_toList->ajr,size_append->ajS,all_toList->aki,getElem?_toList->akz
open PySem.Builtin.Slice renaming slicePlaces->aho,sliceAdjust->ah5,sliceApplied->ajl
open PySem.Calls renaming callWith_builtin->ahD,Constant_str->ahE,spliced_cons->ahF,spliced_nil->ait,evalArgs_plain->aiU,Name_function_global->ajk
open ForInStep renaming yield->ahM
open False renaming elim->ahR
open PySem.StrLaws renaming subAt_one->ahU,found_iff->ajW,subAt_eq->akj,occ_length_le->akD,strSub_toList->akI,sliceText->al8,occ_head->amr
open Sum renaming inr->ahY,inl->ajz
open PySem.W.Fast renaming te14082659384304107361->aia,te14364793385576792824->aib
open PySem.Builtin.List renaming listTooLong->aie,listSameRef->ajT
open PySem.Obj renaming mapFields->aiZ,data_mapFields->ajw,isFreed_of_fields->akH,mapSeq->akK
open PySem.Builtin.Int renaming intBits->ajA,intBits->ak7
open PySem.Heap.IsRevIter renaming typeIs->akG
open PySem.Around renaming under_plainId->akR,under->ama
open PySem.EntryCells renaming newEntry->ale
open PySem.BindsTo renaming of_defaults->alj
open PySem.Paired renaming length->alm
open PySem.Code renaming quiet_builtin->alN,isFrame->amb
open List.Pairwise renaming nil->al1
open Prod renaming snd->amu
open List.cons renaming injEq->amv
open Sum.inr renaming inj->amy
open Prod.mk renaming injEq->amV
open PySem.IntMulOk renaming of_right->am3,of_bits->am6,of_left->am7
open PyProof.Rows.IsTup renaming new->am9
open PySem.Heap.IsSliceOf renaming new->ane
section
open PySem PySem.W
open PySem.Challenge renaming rw_sheetlay_k46_books_refused->wY
def HY:Program:={ wY.row.toRowW.1 with main:={ wY.row.toRowW.1.main with body:=((((wY.row.toRowW.1.main.body.eraseIdx 36).eraseIdx 23).eraseIdx 17).eraseIdx 14).eraseIdx 12 |>.tail } }
theorem JT{N:Nat}{β:Type}{F:aaj->β}{G:abZ->β}(hN:Nat.ble 600 N=true)
  (h:∀(w:abZ) (os:OsState),(topFrom treeTable wY.row.toRowW.1 w N ⟨boot_heap w.params,Array.mk [],boot_drawn,boot_toks,os⟩).map F=aa (G w)):
  ∀w,(openEnds treeTable wY.row.toRowW.1 w N).map F=aa (G w):=λw=>by
 obtain⟨⟨h1,gs,d,k,os⟩,a,b⟩:=adi.mp (boot_open (p:=wY.row.toRowW.1) (by kernel_rfl) hN (λs=>by kernel_rfl) w);simp only[amV]at b;obtain⟨rfl,rfl,rfl,rfl⟩:=b;unfold openEnds;rw[a];exact h w os
theorem Tn{o:abZ->Option aaj}{β γ:Type}{F:aaj->β}{G:β}{F':aaj->γ}{G':abZ->γ}(A:∀w,(o w).map F=aa G)(B:∀w,(o w).map F'=aa (G' w)):∀w,(o w).map (λs=>(F s,F' s))=aa (G,G' w):=λw=>by
 have a:=A w;have b:=B w;cases e:o w with
 |none=>rw[e]at a;cases a
 |some s=>
  rw[e]at a b;exact congrArg aa (Prod.ext (abK a) (abK b))
set_option maxHeartbeats 0 in
theorem hWS:wY.wellSaid=true:=by kernel_rfl
set_option maxHeartbeats 0 in
theorem hAA:∀w,(openEnds treeTable wY.row.toRowW.1 w 7352).map (openSeen HY [abV "number"] (importedModules (wY.row.toRowW.1).main.body) (λs=>xlAt HY [] s&&recOk (RowW.records (OpenRow.toRowW wY.row)) s) true)=aa (openGood HY [abV "number"]):=by
 refine JT (G:=λ_=>_) (by kernel_rfl) ?_;intro w os;unfold topFrom;rw[aia,aib,PySem.W.Fast.te4187177175401517315]
 kernel_rfl
local macro_rules|`(tactic|o_head $H)=>`(tactic|(refine holds_open (N:=7352) (loose:=[abV "number"]) (q:=HY) (XP:=XL HY []) (Xt:=λs=>xlAt HY [] s&&recOk (RowW.records (OpenRow.toRowW wY.row)) s) (Yf:=Hook.obs $H) (Ya:=Hook.val $H) (YP:=Hook.says $H) ?hl (Hook.of $H) (Hook.keeps $H) (λs e=>xl_of s (ag7.mp e).1) XL.keeps (by rfl) (by rfl) (by rfl) (λs e=>recFacts_of (ag7.mp e).2) (by rfl) (by assumption) (by decide +kernel) ⟨rfl,rfl,rfl,rfl,rfl,by decide +kernel⟩ ?hw ?hc;(case hl=>refine Tn hAA (JT (by kernel_rfl) ?_);intro w os;unfold topFrom;rw[aia,aib];kernel_rfl)))
local macro_rules|`(tactic|o_law)=>`(tactic|refine holds_law hWS λ_=>?_)
set_option maxHeartbeats 0 in
open_top hTT for wY
end
namespace PySem
open Sem (wp)
section
variable{prog:Program}{w:abZ}{K:Type}[DecidableEq K](knd:KeyKind prog w K)
inductive kQ(h:Heap):List (List K)->List Value->Prop
 |nil:kQ h [] []
 |cons {ks:List K}{a:Addr}{i4:List (List K)}{vs:List Value}:IsTupleKey knd h ks a->kQ h i4 vs->kQ h (ks::i4) (.ref a::vs)
def fU(h:Heap)(i4:List (List K))(a:Addr):Prop:=∃ob its m,h.get? a=aa ob/\ob.cls= .type "tuple"/\ob.data= .seq its m/\kQ knd h i4 its.toList
variable{knd}
variable{h:Heap}{x y:List (List K)}
theorem kQ.inj{vs:List Value}(p:kQ knd h x vs):kQ knd h y vs->x=y:=by
 induction p generalizing y with
 |nil=>intro q;cases q;rfl
 |cons h1 _ ih=>
  intro q;cases q with
  |cons h2 t2=>rw[h1.inj h2,ih t2]
variable{i4:List (List K)}{a:Addr}
theorem fU.typeIs{s:aaj}(x:fU knd s.heap i4 a):s.TypeIs (.ref a) "tuple":=by
 obtain⟨ob,_,_,ho,hc,_⟩:=x;exact⟨ob,ho,hc⟩
theorem fU.inj(p:fU knd h x a)(q:fU knd h y a):x=y:=by
 obtain⟨o1,i1,n1,a1,_,b1,c1⟩:=p;obtain⟨o2,i2,n2,a2,_,b2,c2⟩:=q;rw[a1]at a2;cases a2;rw[b1]at b2;injection b2 with b2 _
 subst b2;exact c1.inj c2
theorem kQ.keeps{h':Heap}{vs:List Value}{d:Addr}{ob:Obj}{es ep}(x:kQ knd h i4 vs)(ho:h.get? d=aa ob)(hd:ob.data= .dict es ep)(hs:ahH d h h'):kQ knd h' i4 vs:=by
 induction x with
 |nil=>exact .nil
 |cons h1 _ ih=>exact .cons (h1.keeps ho hd hs) ih
theorem fU.keeps{h':Heap}{d:Addr}{ob:Obj}{es ep}(x:fU knd h i4 a)(ho:h.get? d=aa ob)(hd:ob.data= .dict es ep)(hs:ahH d h h'):fU knd h' i4 a:=by
 obtain⟨o1,i1,n1,a1,c1,b1,r1⟩:=x;have ne:a≠d:=by
  intro e;rw[e,ho]at a1;cases a1;rw[hd]at b1;cases b1
 exact⟨o1,i1,n1,(hs.2 a ne).trans a1,c1,b1,r1.keeps ho hd hs⟩
def ED(knd:KeyKind prog w K)(i4:List (List K)):Int:=reduceHash (agC (i4.map (ahI knd)))
def nK:List (List K)->Nat
 |[]=>0
 |ks::r=>(ks.length+1)+nK r
theorem Ah:∀(x y:List (List K)),nK (x++y)=nK x+nK y
 |[],y=>by simp[nK]
 |a::x,y=>by simp only[abP,nK,Ah x y];omega
variable{A:abL}{E:Value->aaj->Prop}{s:aaj}
theorem JU{Q:Int->aaj->Prop}(hu:A.units+4<cLine)(hk:fU knd s.heap i4 a)(q:Q (ED knd i4) { s with toks:=s.toks+(nK i4+1) }):
  abo (abu prog w) A (pyHash (.ref a)) Q E s:=by
 have ty:=hk.typeIs;obtain⟨ob,its,m,ho,_,hd,hi⟩:=hk;unfold pyHash
 first|unfold pyHashByItsType|skip
 first|refine aab (wpAny_cRoomFor_or (.inr (by omega)) ?_)|skip
 refine aab (ahq ty ais.lookup ?_);show abo _ _ (if (aa (ag9 "tuple.__hash__")==aa ag3)=true then _ else _) Q E s;rw[if_neg (by rw[beq_builtin_none];exact abh)];refine aab (ahq ty ais.lookup ?_);show abo _ _ (callSpecialIfBoundUnlessNone? (.ref a) "__hash__" _ >>= _) Q E s;refine aab (wpAny_callSpecialIfBoundUnlessNone?_slot ty ais (aiM ais ty F.entry_tuple_hash ?_ (F.args_tuple_hash_1 _)));show abo _ _ (ahV (.ref a) >>= _) _ _ s;refine aab (ajm ho hd (aab ?_));rw[<-ajn];refine aiN _ (λrest (b:Array Int) s'=>∃done left,i4=done++left/\kQ knd s.heap left rest/\b.toList=done.map (ahI knd)/\s'= { s with toks:=s.toks+nK done }) _ ?_ ?_ _ _ ⟨[],i4,rfl,hi,rfl,rfl⟩
 .rintro x rest b s' ⟨done,left,rfl,hl,hb,rfl⟩
  cases hl with
  |@cons ks c Cu _ h1 EE=>
   refine aab (wpAny_pyHash_tuple (s:={ s with toks:=s.toks+nK done }) (by show A.units+1<cLine;omega) h1 ?_);have fin:∃dn lf,done++ks::Cu=dn++lf/\kQ knd s.heap lf rest/\(b.push (ahI knd ks)).toList=dn.map (ahI knd)/\({ s with toks:=s.toks+nK done+(ks.length+1) }:aaj)= { s with toks:=s.toks+nK dn }:=
    ⟨done++[ks],Cu,by simp,EE,by simp[hb],by rw[Ah];simp[nK,aj1]⟩
   first
    |exact aas fin
    |exact aab (aas (aas fin))
 .rintro b s' ⟨done,left,rfl,hl,hb,rfl⟩
  cases hl;rw[aa5]at q;show abo _ _ (retInt (agC b.toList)) _ _ _;rw[hb];refine wpAny_ret_mkInt ?_;show abo _ _ (if (decide (-(2:Int) ^ 63<=agC (done.map (ahI knd)))&&decide (agC (done.map (ahI knd))<2 ^ 63))=true then _ else _) Q E _;unfold ED reduceHash at q
  by_cases hr:(decide (-(2:Int) ^ 63<=agC (done.map (ahI knd)))&&decide (agC (done.map (ahI knd))<2 ^ 63))=true
  .rw[if_pos hr]at q |-
   exact aas (by simpa[aj1]using q)
  .rw[if_neg hr]at q |-
   exact aab (ajC (aas (by simpa[aj1]using q)))
theorem JV{b:Addr}{P:Fin->aaj->Prop}(hu:A.units+2<cLine)(hx:fU knd s.heap x a)(hy:fU knd s.heap y b)(q:P (.done (.ret (.bool (decide (x=y))))) s):
  abo (abu prog w) A (amW.«tuple.__eq__» ⟨[.ref a,.ref b],[]⟩) P E s:=by
 have ty:=hy.typeIs;obtain⟨o1,xs,n1,ho1,_,To,hi1⟩:=hx;obtain⟨o2,ys,n2,HZ,_,hd2,Zo⟩:=hy;show abo _ _ (ai0 (.ref b) (.type "tuple") >>= _) _ _ s;refine aab (aiO ty aiD ?_);simp only[aha,abX,if_false];refine aab (ajm ho1 To (aab (ajm HZ hd2 (aab ?_))));refine aiN _ (λrest r s'=>r.1=ae/\s'=s/\∃x' y' mP JW,rest=List.zip mP JW/\kQ knd s.heap x' mP/\kQ knd s.heap y' JW/\decide (x'=y')=decide (x=y)/\(mP.length==JW.length)=(xs.size==ys.size)) _ ?_ ?_ _ _ ⟨rfl,rfl,x,y,xs.toList,ys.toList,rfl,hi1,Zo,rfl,by simp⟩
 .rintro⟨u,v⟩ rest r s' ⟨hr,rfl,x',y',mP,JW,hz,wZ,uf,GI,hlen⟩
  cases wZ with
  |nil=>simp at hz
  |@cons k1 c1 x2 xs2 h1 Zp=>
   cases uf with
   |nil=>simp at hz
   |@cons k2 c2 y2 ys2 h2 hy2=>
    simp only[alk,amv,amV]at hz;obtain⟨⟨rfl,rfl⟩,rfl⟩:=hz;refine aab (wpAny_eqBool_tuple (x:=k1) (y:=k2) (by omega) h1 h2 ?_)
    by_cases hk:k1=k2
    .subst hk
     rw[decide_eq_true rfl];simp only[aha,abX,if_false];refine aas ⟨rfl,rfl,x2,y2,xs2,ys2,rfl,Zp,hy2,?_,by simpa using hlen⟩;rw[<-GI]
     by_cases H_:x2=y2
     .simp[H_]
     .simp[H_]
    .rw[decide_eq_false hk]
     simp only[akU,if_true];have hf:decide (x=y)=false:=by rw[<-GI];simp[hk]
     rw[hf]at q;exact aab (aas (aas (aas q)))
 .rintro⟨r1,r2⟩ s' ⟨hr,rfl,x',y',mP,JW,hz,wZ,uf,GI,hlen⟩
  simp only at hr;subst hr;refine aas ?_;have fin:(xs.size==ys.size)=decide (x=y):=by
   rw[<-GI,<-hlen];cases wZ with
   |nil=>
    cases uf with
    |nil=>simp
    |cons _ _=>simp
   |cons _ _=>
    cases uf with
    |nil=>simp
    |cons _ _=>simp at hz
  show P (.done (.ret (.bool (xs.size==ys.size)))) s';rw[fin];exact q
variable{Q:Bool->aaj->Prop}
theorem JX{b:Addr}(hu:A.units+4<cLine)(hx:fU knd s.heap x a)(hy:fU knd s.heap y b)(q:Q (decide (x=y)) s):
  abo (abu prog w) A (eqBool (.ref a) (.ref b)) Q E s:=by
 unfold eqBool
 try with_reducible refine agG ?_
 show abo _ _ (if (abm a==abm b)=true then _ else _) Q E s
 by_cases JY:(abm a==abm b)=true
 .rw[if_pos JY]
  have e:a=b:=by have:=eq_of_beq JY;injection this
  subst e;obtain rfl:=hx.inj hy;exact aab (ajC (aas (by simpa using q)))
 .rw[if_neg JY]
  exact aab (wpAny_richCompare_same_room (op:=.Eq) hx.typeIs hy.typeIs ai4
   (aiM ai4 hx.typeIs F.entry_tuple_eq (JV (by show A.units+1+2<cLine;omega) hx hy ⟨_,rfl,(λe=>nomatch e),agH q⟩) (F.args_tuple_eq_2 _ _)) (by omega))
theorem NP{ks:List K}{n:Nat}(hk:IsTupleKey knd s.heap ks a)(q:Q true s):abo (abu prog w) A (amw (n+1) (.ref a)) Q E s:=by
 have ty:=hk.typeIs;obtain⟨ob,its,m,ho,_,hd,hi⟩:=hk;unfold amw;refine aab (ahq ty ai4.lookup ?_);show abo _ _ (ai0 (.ref a) (.type "tuple") >>= _) _ _ s;refine aab (aiO ty aiD ?_);simp only[aha,abX,if_false];refine aab (wpAny_seqItems ho hd (aab ?_));show abo _ _ (forIn its _ _) _ _ s;rw[<-ajn];refine aiN _ (λrest r s'=>r.1=ae/\s'=s/\∀v∈rest,carriedByValue v=true) _ ?_ ?_ _ _ ⟨rfl,rfl,hi.byValue⟩
 .rintro v rest r s' ⟨hr,rfl,wk⟩
  rw[eqIsQuiet_byValue _ (wk v aa7)];refine aab (aas ?_);simp only[aha,abX,if_false];exact aas ⟨rfl,rfl,λu xQ=>wk u (aay _ xQ)⟩
 .rintro⟨r1,r2⟩ s' ⟨hr,rfl,_⟩
  simp only at hr;subst hr;exact aas q
theorem NQ(hk:fU knd s.heap i4 a)(q:Q true s):abo (abu prog w) A (amw 8 (.ref a)) Q E s:=by
 have ty:=hk.typeIs;obtain⟨ob,its,m,ho,_,hd,hi⟩:=hk;unfold amw;refine aab (ahq ty ai4.lookup ?_);show abo _ _ (ai0 (.ref a) (.type "tuple") >>= _) _ _ s;refine aab (aiO ty aiD ?_);simp only[aha,abX,if_false];refine aab (wpAny_seqItems ho hd (aab ?_));show abo _ _ (forIn its _ _) _ _ s;rw[<-ajn];refine aiN _ (λrest r s'=>r.1=ae/\s'=s/\∃Cu,kQ knd s.heap Cu rest) _ ?_ ?_ _ _ ⟨rfl,rfl,i4,hi⟩
 .rintro v rest r s' ⟨hr,rfl,Cu,hl⟩
  cases hl with
  |@cons ks c Zq _ h1 EE=>
   refine aab (NP (n:=6) h1 ?_);simp only[aha,abX,if_false];exact aas ⟨rfl,rfl,Zq,EE⟩
 .rintro⟨r1,r2⟩ s' ⟨hr,rfl,_⟩
  simp only at hr;subst hr;exact aas q
end
def Tp{prog:Program}{w:abZ}{K:Type}[DecidableEq K](knd:KeyKind prog w K):HeapKind prog w (List (List K)) where
 is:=fU knd
 hash:=ED knd
 draws:=λi4=>nK i4+1
 room:=λA=>A.units+4<cLine
 inj:=λhx hy=>hx.inj hy
 keeps:=λx ho hd hs=>x.keeps ho hd hs
 pyHash:=λhu hk h=>JU hu hk h
 eqBool:=λhu hx hy h=>JX hu hx hy h
 quiet:=λhk h=>NQ hk h
end PySem
namespace PySem
open Sem (wp)
def xR(h:Heap)(d:Addr)(es:Array amx)(ep:Nat):Prop:=∃ob,h.get? d=aa ob/\ob.ExactDict/\ob.data= .dict es ep
section
variable{prog:Program}{w:abZ}{A:abL}{E:Value->aaj->Prop}{s:aaj}
theorem xR.at{h h':Heap}{d:Addr}{es:Array amx}{ep:Nat}(x:xR h d es ep)(k:∀o,h.get? d=aa o->h'.get? d=aa o):xR h' d es ep:=by
 obtain⟨ob,h1,h2⟩:=x;exact⟨ob,k _ h1,h2⟩
theorem xR.lt{h:Heap}{d:Addr}{es:Array amx}{ep:Nat}(x:xR h d es ep):d<h.objs.size:=by
 obtain⟨ob,h1,_⟩:=x;exact aaK h1
end
end PySem
namespace L2
open PySem PySem.Spec PyProof.Rows
abbrev Key:=Sum Int Str
def vx:Key->Value->Bool
 |.inl k,v=>Value.isInt k v
 |.inr x,v=>amX x v
def Zr(w:abZ):Key->Int
 |.inl k=>hashInt k
 |.inr x=>hashStr w x
theorem d9:∀{k:Key}{v:Value},vx k v=true->(∃i t,k=ajz i/\v=ah4 i t)\/(∃x t,k=ahY x/\v=ag0 x t)
 |.inl i,v,h=>by
  obtain⟨t,e⟩:=Value.isInt_shape (k:=i) (v:=v) h;exact .inl ⟨i,t,rfl,e⟩
 |.inr x,v,h=>by
  obtain⟨t,e⟩:=Value.isStrOf_shape (x:=x) (v:=v) h;exact .inr ⟨x,t,rfl,e⟩
theorem EF(i:Int)(t:Tok):vx (.inl i) (.int i t)=true:=by simp[vx,Value.isInt]
theorem EG(x:Str)(t:Tok):vx (.inr x) (.str x t)=true:=by simp[vx,amX]
theorem NR(a b:Int):decide ((ajz a:Key)=ajz b)=(a==b):=by
 by_cases e:a=b
 .subst e;simp
 .have h:¬(ajz a:Key)=ajz b:=λq=>e (Sum.inl.inj q)
  rw[decide_eq_false h];exact(beq_eq_false_iff_ne.mpr e).symm
theorem NS(a b:Str):decide ((ahY a:Key)=ahY b)=decide (a=b):=by
 by_cases e:a=b
 .subst e;simp
 .have h:¬(ahY a:Key)=ahY b:=λq=>e (amy q)
  rw[decide_eq_false h,decide_eq_false e]
theorem NU(a:Int)(b:Str):decide ((ajz a:Key)=ahY b)=false:=decide_eq_false (λq=>nomatch q)
theorem NV(a:Str)(b:Int):decide ((ahY a:Key)=ajz b)=false:=decide_eq_false (λq=>nomatch q)
def d7(prog:Program)(w:abZ):PySem.KeyKind prog w Key where
 is:=vx
 hash:=Zr w
 inj:=λv a b ha hb=>by
  rcases d9 ha with⟨i,t,rfl,rfl⟩|⟨x,t,rfl,rfl⟩
  .rcases d9 hb with⟨j,u,rfl,e⟩|⟨y,u,rfl,e⟩
   .injection e with e1 _;rw[e1]
   .exact nomatch e
  .rcases d9 hb with⟨j,u,rfl,e⟩|⟨y,u,rfl,e⟩
   .exact nomatch e
   .injection e with e1 _;rw[e1]
 byValue:=λk v h=>by
  rcases d9 h with⟨i,t,rfl,rfl⟩|⟨x,t,rfl,rfl⟩<;>rfl
 pyHash:=λhv h=>by
  rcases d9 hv with⟨i,t,rfl,rfl⟩|⟨x,t,rfl,rfl⟩
  .exact wpAny_pyHash_int h
  .exact wpAny_pyHash_str h
 eqBool:=λhu hv h=>by
  rcases d9 hu with⟨i,t,rfl,rfl⟩|⟨x,t,rfl,rfl⟩
  .rcases d9 hv with⟨j,u,rfl,rfl⟩|⟨y,u,rfl,rfl⟩
   .rw[NR]at h;exact wpAny_eqBool_int h
   .rw[NU]at h;exact SeqAt.EqAt.int_str i t y u _ _ _ _ h
  .rcases d9 hv with⟨j,u,rfl,rfl⟩|⟨y,u,rfl,rfl⟩
   .rw[NV]at h;exact SeqAt.EqAt.str_int x t j u _ _ _ _ h
   .rw[NS]at h;exact wpAny_eqBool_str h
 «strs»:=λk x t v h=>by
  rcases d9 h with⟨i,u,rfl,e⟩|⟨y,u,rfl,e⟩
  .exact nomatch e
  .injection e with e1 _
   subst e1;cases v<;>rfl
theorem A8(prog:Program)(w:abZ)(i:Int)(t:Tok):(d7 prog w).is (.inl i) (.int i t)=true:=EF i t
theorem A9(prog:Program)(w:abZ)(x:Str)(t:Tok):(d7 prog w).is (.inr x) (.str x t)=true:=EG x t
end L2
namespace L2
open PySem PySem.Spec PyProof.Rows
inductive V where
 |aA|bl(b:Bool)|int(i:Int)|str(x:Str)|ug(b:Array UInt8)|EH(b:UInt64)|ref(a:Addr)|ty(n:String)
 deriving DecidableEq
def RelV:V->Value->Prop
 |.aA,u=>u=ag3
 |.bl b,u=>u=ai1 b
 |.int i,u=>∃t,u=ah4 i t
 |.str x,u=>∃t,u=ag0 x t
 |.ug b,u=>∃t,u=Value.bytes b t
 |.EH b,u=>∃t,u=amz b t
 |.ref a,u=>u=abm a
 |.ty n,u=>u=ahP n
abbrev Vals:List V->List Value->Prop:=ajo RelV
theorem Vals.length{xs:List V}{us:List Value}(r:Vals xs us):xs.length=us.length:=alm r
theorem Vals.get:∀{xs:List V}{us:List Value}{i:Nat}{x:V},Vals xs us->xs[i]? =aa x->∃u,us[i]? =aa u/\RelV x u
 |_,_,_,_,.nil,e=>by simp at e
 |_,_,0,_,.cons r _,e=>by simp at e;subst e;exact⟨_,rfl,r⟩
 |_,_,i+1,x,.cons _ t,e=>by
  obtain⟨u,h1,h2⟩:=Vals.get (i:=i) (x:=x) t (by simpa using e);exact⟨u,by simpa using h1,h2⟩
theorem Vals.set{x:V}{u:Value}(r:RelV x u):∀{xs:List V}{us:List Value} (i:Nat),Vals xs us->Vals (xs.set i x) (us.set i u)
 |_,_,_,.nil=>.nil
 |_,_,0,.cons _ t=>.cons r t
 |_,_,i+1,.cons q t=>.cons q (Vals.set r i t)
theorem Vals.append:∀{xs ys:List V}{us ws:List Value},Vals xs us->Vals ys ws->Vals (xs++ys) (us++ws)
 |_,_,_,_,.nil,s=>s
 |_,_,_,_,.cons r t,s=>.cons r (Vals.append t s)
theorem Vals.take:∀{xs:List V}{us:List Value} (n:Nat),Vals xs us->Vals (xs.take n) (us.take n)
 |_,_,0,_=>.nil
 |_,_,_+1,.nil=>.nil
 |_,_,n+1,.cons r t=>.cons r (Vals.take n t)
theorem Vals.drop:∀{xs:List V}{us:List Value} (n:Nat),Vals xs us->Vals (xs.drop n) (us.drop n)
 |_,_,0,r=>r
 |_,_,_+1,.nil=>.nil
 |_,_,n+1,.cons _ t=>Vals.drop n t
def uh:Option V->Option Value->Prop
 |some v,aa u=>RelV v u
 |none,ae=>True
 |_,_=>False
def KV{κ:Type}:List (κ×V)->List (κ×Value)->Prop:=ajo λ(p:κ×V) (q:κ×Value)=>p.1=q.1/\RelV p.2 q.2
def kV:Key->V
 |.inl i=>.int i
 |.inr x=>.str x
inductive HO where
 |lst(xs:List V)
 |tup(xs:List V)
 |dK(aP:List (Key×V))|dT(aP:List (List Key×V))|dU(aP:List (List (List Key)×V))
 |set(S:Int->Bool)(n:Nat)
 |ins(C dx:Addr)(fs:List (Str×V))
 |own(x:Addr)
 |xd(fs:List (Str×V))
 |met(f x:Addr)
 |eU(lo hi:Int)
 |iS(o:Obj)(u:HO)
 |A_(ps:Array Value)
 |ext(φ:Heap->Prop)
abbrev Hp:=Addr->Option HO
def upd(H:Hp)(a:Addr)(o:HO):Hp:=λb=>if b=a then aa o else H b
variable{H:Hp}{a:Addr}
theorem bH{o:HO}:upd H a o a=aa o:=by unfold upd;rw[if_pos rfl]
variable{b:Addr}
theorem aY{o:HO}(h:b≠a):upd H a o b=H b:=by unfold upd;rw[if_neg h]
theorem cM{o:HO}(h:H a=aa o)(h':H b=ae):a≠b:=by
 intro e;subst e;rw[h]at h';cases h'
def Cv(H:Hp)(i4:List (List Key))(b:Addr):Prop:=∃as:List Addr,H b=aa (.tup (as.map V.ref))/\ajo (λ(ks:List Key) (a:Addr)=>H a=aa (.tup (ks.map kV))) i4 as
section
variable(P:Program)(w:abZ)
def cH(H:Hp)(h:Heap)(a:Addr):HO->Prop
 |.lst xs=>xs.length<=sizeLine/\∃(its:List Value) (n:Nat),Vals xs its/\h.get? a=aa { cls:=.type "list",data:=.seq its.toArray n }
 |.tup xs=>xs.length<=sizeLine/\∃its:List Value,Vals xs its/\IsTup h a its.toArray
 |.dK aP=>aP.length<=sizeLine/\(a==ahQ)=false/\∃vs,KV aP vs/\h.DictOf (d7 P w) a vs
 |.dT aP=>aP.length<=sizeLine/\(a==ahQ)=false/\∃xs:List (List Key×Addr×Value),
   ajo (λ(p:List Key×V) (q:List Key×Addr×Value)=>p.1=q.1/\H q.2.1=aa (.tup (p.1.map kV))/\RelV p.2 q.2.2) aP xs/\
   ∃o es ep,h.get? a=aa o/\o.ExactDict/\o.data= .dict es ep/\es.toList=xs.map (entryOfKey (amA (d7 P w)))/\(xs.map (·.1)).Nodup
 |.dU aP=>aP.length<=sizeLine/\(a==ahQ)=false/\∃xs:List (List (List Key)×Addr×Value),
   ajo (λ(p:List (List Key)×V) (q:List (List Key)×Addr×Value)=>p.1=q.1/\Cv H p.1 q.2.1/\RelV p.2 q.2.2) aP xs/\
   ∃o es ep,h.get? a=aa o/\o.ExactDict/\o.data= .dict es ep/\es.toList=xs.map (entryOfKey (Tp (d7 P w)))/\(xs.map (·.1)).Nodup
 |.set S n=>h.SetOf (intKind P w) a S n
 |.ins C dx fs=>H dx=aa (.own a)/\fs.length<=1000/\dx≠a/\h.get? a=aa (akt C dx)/\
   ∃mA,h.Ns1 dx mA/\(∀f,uh (fs.lookup f) (mA f))/\am8 mA (fs.map (·.1))
 |.own _=>∃o,h.get? a=aa o
 |.xd fs=>∃mA,h.Ns1 a mA/\∀f,uh (fs.lookup f) (mA f)
 |.eU lo hi=>∃t u v,h.get? a=aa { cls:=.type "range",data:=.fields #[.int lo t,.int hi u,.int 1 v] }
 |.iS o u=>h.get? a=aa o/\cH H h a u
 |.A_ ps=>h.get? a=aa { cls:=.none,data:=.fields ps }
 |.met f x=>h.get? a=aa (ajD (.ref f) (.ref x))
 |.ext φ=>φ h/\(∃o,h.get? a=aa o)/\∀h1 h2:Heap,φ h1->(∀o,h1.get? a=aa o->h2.get? a=aa o)->φ h2
def ip(H:Hp)(h:Heap):Prop:=∀a o,H a=aa o->cH P w H h a o
end
section
variable{P:Program}{w:abZ}{H H':Hp}{h h':Heap}{a:Addr}{o:HO}
theorem cH.lt(x:cH P w H h a o):a<h.objs.size:=by
 cases o with
 |lst xs=>obtain⟨_,_,_,_,e⟩:=x;exact aaK e
 |tup xs=>obtain⟨_,_,_,p⟩:=x;exact p.lt
 |dK aP=>obtain⟨_,_,_,_,o,_,_,e,_⟩:=x;exact aaK e
 |dT aP=>obtain⟨_,_,_,_,o,_,_,e,_⟩:=x;exact aaK e
 |dU aP=>obtain⟨_,_,_,_,o,_,_,e,_⟩:=x;exact aaK e
 |set S n=>obtain⟨o,_,_,_,e,_⟩:=x;exact aaK e
 |ins C dx fs=>obtain⟨_,_,_,e,_⟩:=x;exact aaK e
 |own y=>obtain⟨_,e⟩:=x;exact aaK e
 |xd fs=>obtain⟨_,⟨_,_,_,e,_⟩,_⟩:=x;exact aaK e
 |eU lo hi=>obtain⟨_,_,_,e⟩:=x;exact aaK e
 |iS ob u=>obtain⟨e,_⟩:=x;exact aaK e
 |A_ ps=>exact aaK (show h.get? a=aa _ from x)
 |met f y=>exact aaK (show h.get? a=aa _ from x)
 |ext φ=>obtain⟨_,⟨_,e⟩,_⟩:=x;exact aaK e
theorem ajo.GJ{α β:Type}{F G:α->β->Prop}:∀{RF:List α}{l₂:List β},ajo F RF l₂->(∀a b,F a b->G a b)->ajo G RF l₂
 |_,_,.nil,_=>.nil
 |_,_,.cons r t,f=>.cons (f _ _ r) (ajo.GJ t f)
theorem Cv.more{H H':Hp}{i4:List (List Key)}{b:Addr}(x:Cv H i4 b)(ht:∀b xs,H b=aa (.tup xs)->H' b=aa (.tup xs)):Cv H' i4 b:=by
 obtain⟨as,h1,h2⟩:=x;exact⟨as,ht _ _ h1,ajo.GJ h2 λ_ _ z=>ht _ _ z⟩
theorem cH.pR(x:cH P w H h a o)(k:∀b u,(b=a\/H b=aa (.own a))->h.get? b=aa u->h'.get? b=aa u)
  (ho:∀b,H b=aa (.own a)->H' b=aa (.own a))(ht:∀b xs,H b=aa (.tup xs)->H' b=aa (.tup xs)):cH P w H' h' a o:=by
 induction o with
 |lst xs=>obtain⟨z,its,n,r,e⟩:=x;exact⟨z,its,n,r,k _ _ (.inl rfl) e⟩
 |tup xs=>obtain⟨z,its,r,ob,e,c⟩:=x;exact⟨z,its,r,ob,k _ _ (.inl rfl) e,c⟩
 |dK aP=>obtain⟨z,y,vs,r,ob,es,ep,e,c⟩:=x;exact⟨z,y,vs,r,ob,es,ep,k _ _ (.inl rfl) e,c⟩
 |dT aP=>
  obtain⟨z,y,xs,r,ob,es,ep,e,c⟩:=x;exact⟨z,y,xs,ajo.GJ r λp q z=>⟨z.1,ht _ _ z.2.1,z.2.2⟩,ob,es,ep,k _ _ (.inl rfl) e,c⟩
 |dU aP=>
  obtain⟨z,y,xs,r,ob,es,ep,e,c⟩:=x;exact⟨z,y,xs,ajo.GJ r λp q z=>⟨z.1,z.2.1.more ht,z.2.2⟩,ob,es,ep,k _ _ (.inl rfl) e,c⟩
 |set S n=>obtain⟨ob,es,ep,t,e,c⟩:=x;exact⟨ob,es,ep,t,k _ _ (.inl rfl) e,c⟩
 |ins C dx fs=>
  obtain⟨d,z,ne,e,mA,⟨od,es,ep,e2,c⟩,r⟩:=x;exact⟨ho _ d,z,ne,k _ _ (.inl rfl) e,mA,⟨od,es,ep,k _ _ (.inr d) e2,c⟩,r⟩
 |own y=>obtain⟨ob,e⟩:=x;exact⟨ob,k _ _ (.inl rfl) e⟩
 |xd fs=>obtain⟨mA,⟨od,es,ep,e,c⟩,r⟩:=x;exact⟨mA,⟨od,es,ep,k _ _ (.inl rfl) e,c⟩,r⟩
 |eU lo hi=>obtain⟨t,u,v,e⟩:=x;exact⟨t,u,v,k _ _ (.inl rfl) e⟩
 |iS ob u ih=>obtain⟨e,q⟩:=x;exact⟨k _ _ (.inl rfl) e,ih q⟩
 |A_ ps=>
  have e:h.get? a=aa { cls:=.none,data:=.fields ps }:=x;show h'.get? a=aa { cls:=.none,data:=.fields ps };exact k a _ (.inl rfl) e
 |met f y=>
  have e:h.get? a=aa (ajD (.ref f) (.ref y)):=x;show h'.get? a=aa (ajD (.ref f) (.ref y));exact k a _ (.inl rfl) e
 |ext φ=>obtain⟨p,⟨o,e⟩,st⟩:=x;exact⟨st _ _ p λo q=>k _ _ (.inl rfl) q,⟨o,k _ _ (.inl rfl) e⟩,st⟩
theorem ip.lt(x:ip P w H h)(e:H a=aa o):a<h.objs.size:=(x a o e).lt
theorem ip.fresh(x:ip P w H h)(e:h.objs.size<=a):H a=ae:=by
 cases q:H a with
 |none=>rfl
 |some u=>exact absurd (aa1 (x.lt q) e) (agu _)
theorem ip.kept(x:ip P w H h)(k:∀b u,h.get? b=aa u->h'.get? b=aa u):ip P w H h':=λa o e=>
 (x a o e).pR (λb u _ q=>k b u q) (λ_ q=>q) λ_ _ q=>q
theorem ip.laid(x:ip P w H h)(k:∀b u,h.get? b=aa u->h'.get? b=aa u)(hp:h.objs.size<=a)(new:cH P w (upd H a o) h' a o):ip P w (upd H a o) h':=λb u e=>by
 have hn:=x.fresh hp
 by_cases hb:b=a
 .subst hb;rw[bH]at e;cases e;exact new
 .rw[aY hb]at e
  exact(x b u e).pR (λc v _ q=>k c v q) (λc q=>by rw[aY (cM q hn)];exact q) λc xs q=>by rw[aY (cM q hn)];exact q
end
def Rd(H:Hp)(a:Addr)(u:HO):Prop:=H a=aa u\/∃o,H a=aa (.iS o u)
theorem Rd.ok{P:Program}{w:abZ}{h:Heap}{u:HO}(r:Rd H a u)(x:ip P w H h):cH P w H h a u:=by
 rcases r with r|⟨o,r⟩
 .exact x a u r
 .obtain⟨_,q⟩:=x a _ r
  exact q
def JZ:Option HO->Prop
 |some (.lst _)=>True
 |some (.dK _)=>True
 |some (.dT _)=>True
 |some (.dU _)=>True
 |some (.set _ _)=>True
 |some (.ins _ _ _)=>True
 |some (.ext _)=>True
 |_=>False
section
variable{P:Program}{w:abZ}{H:Hp}{h h':Heap}{x e:Addr}{o':HO}
theorem ip.write(ok:ip P w H h)(mu:JZ (H x))(he:e=x\/H e=aa (.own x))(k:∀b u,b≠e->h.get? b=aa u->h'.get? b=aa u)(Ia:∃u,h'.get? e=aa u)
  (new:cH P w (upd H x o') h' x o'):ip P w (upd H x o') h':=λb u q=>by
 have RG:∀c y,H c=aa (.own y)->c≠x:=λc y r z=>by subst z;rw[r]at mu;exact mu
 have Zs:∀c xs,H c=aa (.tup xs)->c≠x:=λc xs r z=>by subst z;rw[r]at mu;exact mu
 by_cases hb:b=x
 .subst hb;rw[bH]at q;cases q;exact new
 .rw[aY hb]at q
  by_cases w6:b=e
  .have q':H b=aa (.own x):=by
    rcases he with z|z
    .exact absurd (w6.trans z) hb
    .rw[w6];exact z
   rw[q]at q';cases q';obtain⟨v,hv⟩:=Ia;exact⟨v,by rw[w6];exact hv⟩
  .refine(ok b u q).pR (λc v hc r=>k c v ?_ r) (λc r=>by rw[aY (RG c b r)];exact r) λc xs r=>by rw[aY (Zs c xs r)];exact r
   rcases hc with rfl|hc
   .exact w6
   .rintro rfl
    rcases he with z|z
    .exact RG c b hc z
    .rw[hc]at z;cases z;exact hb rfl
end
structure Un(fs ex:List Addr)(H H':Hp)(h h':Heap):Prop where
 keep:∀b o,h.get? b=aa o->H b=ae->b∉fs->b∉ex->h'.get? b=aa o
 slot:∀b o,h.get? b=aa o->H b=ae->b∈fs->b∉ex->∃sl,h'.get? b=aa { o with slots:=sl }
 free:∀b o,h.get? b=aa o->H b=ae->b∉ex->H' b=ae
 there:∀b o,h.get? b=aa o->b∉ex->∃o',h'.get? b=aa o'
 pS:∀b xs,H b=aa (.tup xs)->H' b=aa (.tup xs)
 kR:∀b o u,H b=aa (.iS o u)->H' b=aa (.iS o u)
 pT:∀b ps,H b=aa (.A_ ps)->∃more,H' b=aa (.A_ (ps++more))
section
variable{fs fs' ex ex':List Addr}{H H1 H2:Hp}{h h1 h2 h':Heap}{a x e:Addr}{o:HO}
theorem Un.any(u:Un fs ex H H1 h h1){b:Addr}{ob:Obj}(q:h.get? b=aa ob)(n:H b=ae)(hx:b∉ex):∃sl,h1.get? b=aa { ob with slots:=sl }:=by
 by_cases hb:b∈fs
 .exact u.slot b ob q n hb hx
 .exact⟨ob.slots,u.keep b ob q n hb hx⟩
theorem Un.kept(k:∀b u,h.get? b=aa u->h'.get? b=aa u):Un fs ex H H h h':=
 ⟨λb ob q _ _ _=>k b ob q,λb ob q _ _ _=>⟨ob.slots,k b ob q⟩,λ_ _ _ n _=>n,λb ob q _=>⟨ob,k b ob q⟩,λ_ _ q=>q,λ_ _ _ q=>q,λ_ ps q=>⟨#[],by rw[q];simp⟩⟩
theorem Un.refl:Un fs ex H H h h:=Un.kept λ_ _ q=>q
theorem Un.laid(k:∀b u,h.get? b=aa u->h'.get? b=aa u)(hp:h.objs.size<=a)(hn:H a=ae):Un fs ex H (upd H a o) h h' where
 keep:=λb u q _ _ _=>k b u q
 slot:=λb u q _ _ _=>⟨u.slots,k b u q⟩
 free:=λb u q n _=>by rw[aY (abA (aa1 (aaK q) hp))];exact n
 there:=λb u q _=>⟨u,k b u q⟩
 pS:=λb xs q=>by rw[aY (cM q hn)];exact q
 kR:=λb u xs q=>by rw[aY (cM q hn)];exact q
 pT:=λb ps q=>⟨#[],by rw[aY (cM q hn),q];simp⟩
theorem Un.write(mu:JZ (H x))(he:e=x\/H e=aa (.own x))(k:∀b u,b≠e->h.get? b=aa u->h'.get? b=aa u)(Ia:∃u,h'.get? e=aa u):Un fs ex H (upd H x o) h h':=by
 have hx:∀b,H b=ae->b≠x:=λb n z=>by subst z;rw[n]at mu;exact mu
 have hb:∀b,H b=ae->b≠e:=λb n z=>by
  subst z;rcases he with r|r
  .exact hx b n r
  .rw[n]at r;cases r
 have hm:∀b u,H b=aa u->¬JZ (aa u)->b≠x:=λb u q nm z=>by subst z;rw[q]at mu;exact nm mu
 refine⟨λb u q n _ _=>k b u (hb b n) q,λb u q n _ _=>⟨u.slots,k b u (hb b n) q⟩,λb u q n _=>by rw[aY (hx b n)];exact n,λb u q _=>?_,
  λb xs q=>by rw[aY (hm b _ q λz=>z)];exact q,λb u xs q=>by rw[aY (hm b _ q λz=>z)];exact q,λb ps q=>⟨#[],by rw[aY (hm b _ q λz=>z),q];simp⟩⟩
 by_cases w6:b=e
 .subst w6;exact Ia
 .exact⟨u,k b u w6 q⟩
end
def NW(h:Heap)(H:Hp):List Addr:=(agz h.objs.size).filter λa=>(H a).isSome
def ui(h:Heap)(H:Hp):Heap:=PySem.W.hideAll h (NW h H)
theorem EI(h:Heap)(H:Hp):(ui h H).objs.size=h.objs.size:=PySem.W.hideAll_size _ _
theorem Ib{h:Heap}{o:Obj}(e:h.get? b=aa o)(n:H b=ae):(ui h H).get? b=aa o:=
 PySem.W.hideAll_get _ e λhm=>by
  have q:(H b).isSome=true:=(ai5.mp hm).2;rw[n]at q;simp at q
theorem J1{h:Heap}{o:Obj}(e:(ui h H).get? b=aa o):h.get? b=aa o/\H b=ae:=by
 have e':h.get? b=aa o:=PySem.W.of_hideAll (NW h H) e;refine⟨e',?_⟩;cases q:H b with
 |none=>rfl
 |some x=>
  have hm:b∈NW h H:=ai5.mpr ⟨aiA.mpr (aaK e'),by simp[q]⟩;have z:(ui h H).get? b=ae:=PySem.W.hideAll_none (NW h H) hm;rw[z]at e;cases e
def J3(g h:Heap)(L:Addr):List (Addr×Obj):=(agz h.objs.size).filterMap λa=>if a=L\/(g.get? a).isSome=true then ae else(h.get? a).map λo=>(a,o)
def rest(g h:Heap)(L d:Addr):List (Addr×Obj):=(J3 g h L).filter λp=>decide (p.1≠d)
end L2
namespace L2
open PySem PySem.Spec PyProof.Rows
structure Mod(K:aaa)(mg:Str->Option Value)(base:Heap):Prop where
 Ba:K.In base
 glob:base.Ns aaA mg
 blt:∃mb,base.Ns ai2 mb/\∀x:Str,x≠"__name__"->mb x=ab1 x
 nolimit:base.NoLimit
 bmain:∃bm ob,mg "__builtins__" =aa (.ref bm)/\bm≠ai2/\base.get? bm=aa ob/\ob.cls= .type "module"/\ob.dict=aa ai2/\ob.data= .plain
structure Cx where
 prog:Program
 w:abZ
 K:aaa
 mg:Str->Option Value
 base:Heap
 A:abL
 N:List Str
 bR:aaj
 dP:Hp
 env:Env
 outer:List Env
 stack:List Env
 ex:List Addr
 fn:Str->Bool
 calm:Bool
 pn:List (Addr×Obj)
 xe:Value->aaj->Prop
def mQ(l:List Env):List Addr:=l.filterMap (·.frame)
abbrev Cx.fs(X:Cx):List Addr:=mQ X.outer
def EJ(sc:Scope)(x:Str):Prop:=sc.names.lookup x=aa .local\/sc.names.lookup x=aa .cell\/sc.names.lookup x=aa .free
def Loc(sc:Scope)(x:Str):Prop:=sc.names.lookup x=aa .local\/sc.names.lookup x=aa .cell
def Look(env:Env)(h:Heap)(m:Str->Option Value)(x:Str)(u:Value):Prop:=
 (env.kindOf x=aa .local/\m x=aa u)\/((env.kindOf x=aa .cell\/env.kindOf x=aa .free)/\∃c,env.cells.lookup x=aa c/\h.IsCell c (aa u))
structure Cx.Ok(X:Cx):Prop where
 mod:Mod X.K X.mg X.base
 kind:X.env.scope.kind= .function
 glob:X.env.globals=aaA
 blt:X.env.builtins=ai2
 above:X.bR.heap.objs.size<=X.env.locals
 inj:∀x y c,X.env.cells.lookup x=aa c->X.env.cells.lookup y=aa c->x=y
 has:∀x,(X.env.kindOf x=aa .cell\/X.env.kindOf x=aa .free)->∃c,X.env.cells.lookup x=aa c
 Ic:∀x c,X.fn x=true->X.env.cells.lookup x=aa c->X.bR.heap.objs.size<=c
 hd:X.calm=true->X.A.handled=ae
 frames:X.A.frames=aa X.stack
 J_:X.stack=X.outer\/(X.stack=X.env::X.outer/\X.env.frame=aa X.env.locals)
 Ka:∀b∈X.ex,b≠X.env.locals/\∀x c,X.env.cells.lookup x=aa c->c≠b
 bs:∀b o,X.base.get? b=aa o->X.bR.heap.get? b=aa o/\X.dP b=ae
 zP:X.base.objs.size<=X.bR.heap.objs.size
 pU:∀b o,X.base.get? b=aa o->b∉X.ex
 Ai:∀b∈X.ex,b∉X.fs
 nL:X.bR.heap.FunFrames X.base X.outer
 Cw:∀b∈X.fs,X.dP b=ae
structure Inv(X:Cx)(pins:List (Addr×Obj))(σ:List (Option V))(H:Hp)(s:aaj):Prop where
 ok:X.Ok
 os:s.os=X.bR.os
 bare:aj2 s.gens
 base:Un X.fs X.ex X.dP H X.bR.heap s.heap
 loc:∃m,s.heap.Ns X.env.locals m/\∀(i:Nat) (x:Str) (v:V),X.N[i]? =aa x->σ[i]? =aa (aa v)->EJ X.env.scope x->∃u,RelV v u/\Look X.env s.heap m x u
 cell:∀x c,X.env.cells.lookup x=aa c->∃v,s.heap.IsCell c v
 free:H X.env.locals=ae
 jE:∀x c,X.env.cells.lookup x=aa c->H c=ae\/(X.fn x=false/\∃o u,H c=aa (.iS o u))
 pin:∀p∈X.pn++pins,s.heap.get? p.1=aa p.2/\H p.1=ae/\p.1≠X.env.locals/\p.1∉X.fs/\∀v,p.2.data≠.cell v
 bB:ip X.prog X.w H s.heap
 len:σ.length=X.N.length
section
variable{X:Cx}{pins:List (Addr×Obj)}{σ:List (Option V)}{H H':Hp}{s:aaj}{h':Heap}
theorem Cx.Ok.Zt(ok:X.Ok){b:Addr}{o:Obj}(e:X.base.get? b=aa o):b∉X.fs:=λhb=>by
 have:=(ok.nL.mem hb).1;rw[e]at this;cases this
theorem Inv.bs(I:Inv X pins σ H s):∀b o,X.base.get? b=aa o->s.heap.get? b=aa o/\H b=ae:=λb o e=>
 ⟨I.base.keep b o (I.ok.bs b o e).1 (I.ok.bs b o e).2 (I.ok.Zt e) (I.ok.pU b o e),I.base.free b o (I.ok.bs b o e).1 (I.ok.bs b o e).2 (I.ok.pU b o e)⟩
theorem Inv.bk(I:Inv X pins σ H s):∀b o,X.base.get? b=aa o->s.heap.get? b=aa o:=λb o e=>(I.bs b o e).1
theorem Inv.mod(I:Inv X pins σ H s):Mod X.K X.mg X.base:=I.ok.mod
theorem Inv.fP(I:Inv X pins σ H s):X.K.In s.heap:=I.ok.mod.Ba.keeps I.bk
theorem Inv.lt(I:Inv X pins σ H s):X.env.locals<s.heap.objs.size:=let ⟨_,hn,_⟩:=I.loc;hn.lt
theorem Inv.sz(I:Inv X pins σ H s):X.bR.heap.objs.size<=s.heap.objs.size:=ab2 I.ok.above (al9 I.lt)
theorem Inv.RH(I:Inv X pins σ H s){a:Addr}(h:s.heap.objs.size<=a):a∉X.fs:=λhb=>by
 obtain⟨_,o,ho,_⟩:=I.ok.nL.mem hb;exact absurd (aa1 (aaK ho) (ab2 I.sz h)) (agu _)
theorem Inv.vy(I:Inv X pins σ H s):∀x c,X.env.cells.lookup x=aa c->c≠X.env.locals:=λx c e z=>by
 obtain⟨v,o,ho,hd⟩:=I.cell x c e;obtain⟨m,⟨o',es,ep,xS,sT,_⟩,_⟩:=I.loc;rw[z,xS]at ho;cases ho;rw[sT]at hd;cases hd
theorem Inv.nL(I:Inv X pins σ H s):s.heap.FunFrames X.base X.outer:=by
 have all:∀(l:List Env),(∀b∈mQ l,b∈X.fs)->X.bR.heap.FunFrames X.base l->s.heap.FunFrames X.base l:=by
  intro l
  induction l with
  |nil=>intro _ _;trivial
  |cons env r ih=>
   intro hs hl;obtain⟨hk,⟨L,o,hf,hn,ho,hd⟩,hr⟩:=hl;have hL:L∈X.fs:=hs L (by unfold mQ;rw[ai6,hf];exact aa7);obtain⟨sl,e⟩:=I.base.slot L o ho (I.ok.Cw L hL) hL λz=>I.ok.Ai L z hL
   exact⟨hk,⟨L,_,hf,hn,e,hd⟩,ih (λb hb=>hs b (by unfold mQ;rw[ai6,hf];exact aay _ hb)) hr⟩
 exact all X.outer (λ_ hb=>hb) I.ok.nL
theorem Inv.stack(I:Inv X pins σ H s):s.heap.FunFrames X.base X.stack:=by
 rcases I.ok.J_ with e|⟨e,hf⟩
 .rw[e];exact I.nL
 .rw[e]
  obtain⟨m,hn,_⟩:=I.loc;refine .cons (by rw[I.ok.kind];decide) hf hn ?_ I.nL;exact ahZ (ab2 I.ok.zP I.ok.above)
theorem Inv.Bb(I:Inv X pins σ H s):∀b∈mQ X.stack,b∈X.env.locals::X.fs:=λb hb=>by
 rcases I.ok.J_ with e|⟨e,hf⟩
 .rw[e]at hb;exact aay _ hb
 .rw[e]at hb
  unfold mQ at hb;rw[ai6,hf]at hb;exact hb
theorem Inv.uj(I:Inv X pins σ H s):∀b∈mQ X.stack,H b=ae:=λb hb=>by
 rcases aaI.mp (I.Bb b hb)with e|hb
 .rw[e];exact I.free
 .obtain⟨_,o,ho,_⟩:=I.ok.nL.mem hb
  exact I.base.free b o ho (I.ok.Cw b hb) λz=>I.ok.Ai b z hb
variable{t':Nat}{ch:List Addr}
theorem Inv.step{g':Array aiB}{d':Drawn}(I:Inv X pins σ H s)
  (jY:∀b∈ch,(b∈X.ex\/X.bR.heap.objs.size<=b)/\b≠X.env.locals/\(∀x c,X.env.cells.lookup x=aa c->c≠b)/\∀p∈X.pn++pins,p.1≠b)
  (keep:∀b o,b≠X.env.locals->b∉X.fs->b∉ch->s.heap.get? b=aa o->H b=ae->h'.get? b=aa o)
  (slot:∀b o,b≠X.env.locals->b∈X.fs->b∉ch->s.heap.get? b=aa o->H b=ae->∃sl,h'.get? b=aa { o with slots:=sl })(free:∀b o,b∉ch->s.heap.get? b=aa o->H b=ae->H' b=ae)
  (there:∀b o,b∉ch->s.heap.get? b=aa o->∃o',h'.get? b=aa o')
  (pS:∀b xs,H b=aa (.tup xs)->H' b=aa (.tup xs))(kR:∀b o u,H b=aa (.iS o u)->H' b=aa (.iS o u))(pT:∀b ps,H b=aa (.A_ ps)->∃more,H' b=aa (.A_ (ps++more)))
  (ns:∀m,s.heap.Ns X.env.locals m->h'.Ns X.env.locals m)(bB:ip X.prog X.w H' h')(hg:aj2 g'):
  Inv X pins σ H' { s with heap:=h',gens:=g',drawn:=d',toks:=t' }:=by
 have Zv:∀b o,X.bR.heap.get? b=aa o->b≠X.env.locals:=λb o e=>abA (aa1 (aaK e) I.ok.above)
 have NX:∀b o,X.bR.heap.get? b=aa o->b∉X.ex->b∉ch:=λb o e hx hb=>by
  rcases(jY b hb).1 with z|z
  .exact hx z
  .exact absurd (aa1 (aaK e) z) (agu _)
 have cellK:∀x c,X.env.cells.lookup x=aa c->∀v,s.heap.IsCell c v->h'.IsCell c v:=by
  rintro x c e v ⟨o,ho,hd⟩;have Kb:c∉ch:=λz=>(jY c z).2.2.1 x c e rfl
  rcases I.jE x c e with nn|⟨_,o',u,nn⟩
  .by_cases hc:c∈X.fs
   .obtain⟨sl,q⟩:=slot c o (I.vy x c e) hc Kb ho nn
    exact⟨_,q,hd⟩
   .exact⟨o,keep c o (I.vy x c e) hc Kb ho nn,hd⟩
  .have e1:s.heap.get? c=aa o':=(I.bB c _ nn).1
   have e2:h'.get? c=aa o':=(bB c _ (kR c o' u nn)).1;rw[ho]at e1;cases e1;exact⟨o,e2,hd⟩
 refine⟨I.ok,I.os,hg,⟨λb o e n hb hx=>?_,λb o e n hb hx=>?_,λb o e n hx=>?_,λb o e hx=>?_,λb xs e=>pS b xs (I.base.pS b xs e),λb o xs e=>kR b o xs (I.base.kR b o xs e),λb ps e=>?_⟩,?_,λx c e=>?_,?_,λx c e=>?_,λp hp=>?_,bB,I.len⟩
 .exact keep b o (Zv b o e) hb (NX b o e hx) (I.base.keep b o e n hb hx) (I.base.free b o e n hx)
 .obtain⟨sl,e1⟩:=I.base.slot b o e n hb hx
  obtain⟨Zw,e2⟩:=slot b _ (Zv b o e) hb (NX b o e hx) e1 (I.base.free b o e n hx);exact⟨Zw,e2⟩
 .obtain⟨o',e1⟩:=I.base.there b o e hx
  exact free b o' (NX b o e hx) e1 (I.base.free b o e n hx)
 .obtain⟨o',e1⟩:=I.base.there b o e hx
  exact there b o' (NX b o e hx) e1
 .obtain⟨m1,e1⟩:=I.base.pT b ps e
  obtain⟨m2,e2⟩:=pT b _ e1;exact⟨m1++m2,by rw[e2,Array.append_assoc]⟩
 .obtain⟨m,hn,hl⟩:=I.loc
  refine⟨m,ns m hn,λi x v e1 e2 e3=>?_⟩;obtain⟨u,r,l⟩:=hl i x v e1 e2 e3;refine⟨u,r,?_⟩;rcases l with l|⟨k,c,e,z⟩
  .exact .inl l
  .exact .inr ⟨k,c,e,cellK x c e _ z⟩
 .obtain⟨v,z⟩:=I.cell x c e
  exact⟨v,cellK x c e v z⟩
 .obtain⟨m,⟨o,_,_,ho,_⟩,_⟩:=I.loc
  exact free _ o (λz=>(jY _ z).2.1 rfl) ho I.free
 .obtain⟨v,o,ho,hd⟩:=I.cell x c e
  rcases I.jE x c e with nn|⟨hf,o',u,nn⟩
  .exact .inl (free c o (λz=>(jY c z).2.2.1 x c e rfl) ho nn)
  .exact .inr ⟨hf,o',u,kR c o' u nn⟩
 .obtain⟨e,n,ne,nf,d⟩:=I.pin p hp
  have Kb:p.1∉ch:=λz=>(jY p.1 z).2.2.2 p hp rfl
  exact⟨keep p.1 p.2 ne nf Kb e n,free p.1 p.2 Kb e n,ne,nf,d⟩
theorem Inv.un(I:Inv X pins σ H s)(u:Un X.fs [] H H' s.heap h')(bB:ip X.prog X.w H' h'):Inv X pins σ H' { s with heap:=h',toks:=t' }:=by
 obtain⟨m,⟨o,es,ep,ho,r⟩,_⟩:=id I.loc;obtain⟨sl,hL⟩:=u.any ho I.free (by simp);exact I.step (g':=s.gens) (d':=s.drawn) (ch:=[]) (λ_ z=>nomatch z) (λb o _ hb _ e n=>u.keep b o e n hb (by simp)) (λb o _ hb _ e n=>u.slot b o e n hb (by simp)) (λb o _ e n=>u.free b o e n (by simp)) (λb o _ e=>u.there b o e (by simp)) u.pS u.kR u.pT (λm' hm=>by
  obtain⟨o',Ie,Tq,xS,r'⟩:=hm;rw[ho]at xS;cases xS;exact⟨_,Ie,Tq,hL,r'⟩) bB I.bare
theorem Inv.call{g':Array aiB}{d':Drawn}(I:Inv X pins σ H s)(u:Un (mQ X.stack) ch H H' s.heap h')(bB:ip X.prog X.w H' h')(hg:aj2 g')
  (jY:∀b∈ch,(b∈X.ex\/X.bR.heap.objs.size<=b)/\b≠X.env.locals/\(∀x c,X.env.cells.lookup x=aa c->c≠b)/\∀p∈X.pn++pins,p.1≠b):
  Inv X pins σ H' { s with heap:=h',gens:=g',drawn:=d',toks:=t' }:=by
 obtain⟨m,⟨o,es,ep,ho,r⟩,_⟩:=id I.loc;obtain⟨sl,hL⟩:=u.any ho I.free λz=>(jY _ z).2.1 rfl
 exact I.step (ch:=ch) jY (λb o hL hb hc e n=>u.keep b o e n (λz=>(aaI.mp (I.Bb b z)).elim hL hb) hc) (λb o _ _ hc e n=>u.any e n hc) (λb o hc e n=>u.free b o e n hc) (λb o hc e=>u.there b o e hc) u.pS u.kR u.pT (λm' hm=>by
  obtain⟨o',Ie,Tq,xS,r'⟩:=hm;rw[ho]at xS;cases xS;exact⟨_,Ie,Tq,hL,r'⟩) bB hg
theorem Inv.turned{it:Addr}(I:Inv X pins σ H s)(k:∀b o,b≠it->s.heap.get? b=aa o->h'.get? b=aa o)(hn:H it=ae)(hL:it≠X.env.locals)
  (h1:it∈X.ex\/X.bR.heap.objs.size<=it)(h2:∀x c,X.env.cells.lookup x=aa c->c≠it)(h3:∀p∈X.pn++pins,p.1≠it):Inv X pins σ H { s with heap:=h',toks:=t' }:=by
 have Zx:∀b u,H b=aa u->b≠it:=λb u e z=>by rw[z,hn]at e;cases e
 refine I.step (g':=s.gens) (d':=s.drawn) (ch:=[it]) (λb hb=>?_) (λb o _ _ hc e _=>k b o (λz=>hc (by simp[z])) e) (λb o _ _ hc e _=>⟨o.slots,k b o (λz=>hc (by simp[z])) e⟩) (λ_ _ _ _ n=>n)
  (λb o hc e=>⟨o,k b o (λz=>hc (by simp[z])) e⟩) (λ_ _ e=>e) (λ_ _ _ e=>e) (λb ps e=>⟨#[],by rw[e];simp⟩) (λm hm=>?_) (λb u e=>?_) I.bare
 .have e:b=it:=by simpa using hb
  subst e;exact⟨h1,hL,h2,h3⟩
 .obtain⟨o,es,ep,ho,r⟩:=hm
  exact⟨o,es,ep,k _ o (ahb hL) ho,r⟩
 .refine(I.bB b u e).pR (λc v hc q=>k c v ?_ q) (λ_ q=>q) λ_ _ q=>q
  rcases hc with z|z
  .rw[z];exact Zx b u e
  .exact Zx c _ z
theorem Inv.tok(I:Inv X pins σ H s)(t:Nat):Inv X pins σ H { s with toks:=t }:=I.un (h':=s.heap) (t':=t) Un.refl I.bB
theorem Inv.kept(I:Inv X pins σ H s)(k:∀b u,s.heap.get? b=aa u->h'.get? b=aa u):Inv X pins σ H { s with heap:=h',toks:=t' }:=I.un (Un.kept k) (I.bB.kept k)
theorem Inv.laid{a:Addr}{o:HO}(I:Inv X pins σ H s)(k:∀b u,s.heap.get? b=aa u->h'.get? b=aa u)(hp:s.heap.objs.size<=a)(new:cH X.prog X.w (upd H a o) h' a o):
  Inv X pins σ (upd H a o) { s with heap:=h',toks:=t' }:=I.un (Un.laid k hp (I.bB.fresh hp)) (I.bB.laid k hp new)
theorem Inv.write{x e:Addr}{o:HO}(I:Inv X pins σ H s)(mu:JZ (H x))(he:e=x\/H e=aa (.own x))(k:∀b u,b≠e->s.heap.get? b=aa u->h'.get? b=aa u)(Ia:∃u,h'.get? e=aa u)
  (new:cH X.prog X.w (upd H x o) h' x o):Inv X pins σ (upd H x o) { s with heap:=h',toks:=t' }:=I.un (Un.write mu he k Ia) (I.bB.write mu he k Ia new)
theorem Inv.xT{Kc:List (Addr×Obj)}(I:Inv X pins σ H s)(h:∀p∈Kc,s.heap.get? p.1=aa p.2/\H p.1=ae/\p.1≠X.env.locals/\p.1∉X.fs/\∀v,p.2.data≠.cell v):Inv X Kc σ H s:=
 ⟨I.ok,I.os,I.bare,I.base,I.loc,I.cell,I.free,I.jE,λp hp=>(abc.mp hp).elim (λz=>I.pin p (aiT _ z)) (h p),I.bB,I.len⟩
theorem vz{N:List Str}(hN:N.Nodup){i j:Nat}{x:Str}(a:N[i]? =aa x)(b:N[j]? =aa x):i=j:=by
 obtain⟨h1,e1⟩:=aan.mp a;obtain⟨h2,e2⟩:=aan.mp b;exact(amf hN).mp (e1.trans e2.symm)
variable{E:Value->aaj->Prop}{Q:Unit->aaj->Prop}
theorem EK{M:amY}{A:abL}{i:Nat}{x:Str}{v:V}{u:Value}(I:Inv X pins σ H s)(hN:X.N.Nodup)(hi:X.N[i]? =aa x)(hx:Loc X.env.scope x)(r:RelV v u)
  (h:∀s',Inv X pins (σ.set i (aa v)) H s'->(∃a,ahH a s.heap s'.heap/\(a=X.env.locals\/X.env.cells.lookup x=aa a))->Q () s')(hf:X.fn x=true\/X.env.scope.names.lookup x=aa .local:=by first|exact .inl rfl|exact .inr rfl|assumption):abo M A (storeName X.env x u) Q E s:=by
 obtain⟨m,hn,hl⟩:=id I.loc;have Cy:(X.env.scope.kind==.class||(X.env.scope.kind==.module&&X.env.locals != X.env.globals))=false:=by rw[I.ok.kind];rfl
 have GK:i<σ.length:=by rw[I.len];exact(aan.mp hi).1
 have vy:=I.vy;have tracked:∀{a:Addr}{h':Heap},(∃o,s.heap.get? a=aa o/\H a=ae)->ahH a s.heap h'->ip X.prog X.w H h':=λ{a h'} ha hs b ob e=>by
  obtain⟨_,_,oy⟩:=ha;refine(I.bB b ob e).pR (λc w' hc q=>(hs.2 c ?_).trans q) (λ_ q=>q) λ_ _ q=>q
  rintro rfl;rcases hc with rfl|hc
  .rw[oy]at e;cases e
  .rw[oy]at hc;cases hc
 rcases hx with hk|hk
 .refine aku hk hn (λh' xU hs=>?_) Cy
  obtain⟨oL,_,_,NY,_⟩:=id hn;refine h _ ⟨I.ok,I.os,I.bare,⟨λb o e n hb hx=>?_,λb o e n hb hx=>?_,I.base.free,λb o e hx=>?_,I.base.pS,I.base.kR,I.base.pT⟩,⟨_,xU,λj y v' e1 e2 e3=>?_⟩,λy c e=>?_,I.free,I.jE,λp hp=>?_,tracked ⟨oL,NY,I.free⟩ hs,by simpa using I.len⟩ ⟨_,hs,.inl rfl⟩
  .exact(hs.2 b (abA (aa1 (aaK e) I.ok.above))).trans (I.base.keep b o e n hb hx)
  .obtain⟨sl,e1⟩:=I.base.slot b o e n hb hx
   exact⟨sl,(hs.2 b (abA (aa1 (aaK e) I.ok.above))).trans e1⟩
  .obtain⟨o',e1⟩:=I.base.there b o e hx
   exact⟨o',(hs.2 b (abA (aa1 (aaK e) I.ok.above))).trans e1⟩
  .by_cases hj:j=i
   .subst hj
    rw[hi]at e1;cases e1;rw[ab0 GK]at e2;cases e2;exact⟨u,r,.inl ⟨hk,by simp⟩⟩
   .rw[abt (ahb hj)]at e2
    obtain⟨u',r',q⟩:=hl j y v' e1 e2 e3;refine⟨u',r',?_⟩;rcases q with⟨k,e⟩|⟨k,c,e,z⟩
    .refine .inl ⟨k,?_⟩
     have:y≠x:=λe=>hj (vz hN e1 (e ▸ hi))
     simp[this,e]
    .exact .inr ⟨k,c,e,z.sameBut hs (vy y c e)⟩
  .obtain⟨w',z⟩:=I.cell y c e
   exact⟨w',z.sameBut hs (vy y c e)⟩
  .obtain⟨e,n,ne,nf,d⟩:=I.pin p hp
   exact⟨(hs.2 p.1 ne).trans e,n,ne,nf,d⟩
 .have NZ:X.fn x=true:=by
   rcases hf with z|z
   .exact z
   .rw[z]at hk;cases hk
  obtain⟨c,hc⟩:=I.ok.has x (.inl hk);obtain⟨w',z⟩:=I.cell x c hc;refine wpAny_storeName_cell I.ok.kind hk hc z (λh' i5 hs=>?_);obtain⟨oc,Ig,Zy⟩:=id z;refine h { s with heap:=h' } ⟨I.ok,I.os,I.bare,⟨λb o e n hb hx=>?_,λb o e n hb hx=>?_,I.base.free,λb o e hx=>?_,I.base.pS,I.base.kR,I.base.pT⟩,⟨m,hn.sameBut hs (ahb (vy x c hc)),λj y v' e1 e2 e3=>?_⟩,λy c' e=>?_,I.free,I.jE,λp hp=>?_,tracked ⟨oc,Ig,(I.jE x c hc).resolve_right λz=>by rw[NZ]at z;cases z.1⟩ hs,by simpa using I.len⟩ ⟨c,hs,.inr hc⟩
  .exact(hs.2 b (abA (aa1 (aaK e) (I.ok.Ic x c NZ hc)))).trans (I.base.keep b o e n hb hx)
  .obtain⟨sl,e1⟩:=I.base.slot b o e n hb hx
   exact⟨sl,(hs.2 b (abA (aa1 (aaK e) (I.ok.Ic x c NZ hc)))).trans e1⟩
  .obtain⟨o',e1⟩:=I.base.there b o e hx
   exact⟨o',(hs.2 b (abA (aa1 (aaK e) (I.ok.Ic x c NZ hc)))).trans e1⟩
  .by_cases hj:j=i
   .subst hj
    rw[hi]at e1;cases e1;rw[ab0 GK]at e2;cases e2;exact⟨u,r,.inr ⟨.inl hk,c,hc,i5⟩⟩
   .rw[abt (ahb hj)]at e2
    obtain⟨u',r',q⟩:=hl j y v' e1 e2 e3;refine⟨u',r',?_⟩;rcases q with q|⟨k,c',e,z'⟩
    .exact .inl q
    .refine .inr ⟨k,c',e,z'.sameBut hs ?_⟩
     rintro rfl;exact hj (vz hN e1 (I.ok.inj _ _ _ e hc ▸ hi))
  .by_cases Ih:c'=c
   .subst Ih;exact⟨_,i5⟩
   .obtain⟨w2,z2⟩:=I.cell y c' e
    exact⟨w2,z2.sameBut hs Ih⟩
  .obtain⟨e,n,ne,nf,d⟩:=I.pin p hp
   refine⟨(hs.2 p.1 ?_).trans e,n,ne,nf,d⟩;intro q;rw[q,Ig]at e;have q':oc=p.2:=abK e;exact d w' (by rw[<-q'];exact Zy)
theorem kL{M:amY}{A:abL}{i:Nat}{x:Str}{v:V}{u:Value}(I:Inv X pins σ H s)(hN:X.N.Nodup)(hi:X.N[i]? =aa x)(hx:Loc X.env.scope x)(r:RelV v u)
  (h:∀s',Inv X pins (σ.set i (aa v)) H s'->Q () s')(hf:X.fn x=true\/X.env.scope.names.lookup x=aa .local:=by first|exact .inl rfl|exact .inr rfl|assumption):abo M A (storeName X.env x u) Q E s:=
 EK I hN hi hx r (λs' I' _=>h s' I') hf
theorem Inv.EL{s':aaj}(I:Inv X pins σ H s)(ho:s'.os=s.os)(u:Un (mQ X.stack) ch H H' s.heap s'.heap)(bB:ip X.prog X.w H' s'.heap)(hg:aj2 s'.gens)
  (jY:∀b∈ch,(b∈X.ex\/X.bR.heap.objs.size<=b)/\b≠X.env.locals/\(∀x c,X.env.cells.lookup x=aa c->c≠b)/\∀p∈X.pn++pins,p.1≠b):Inv X pins σ H' s':=by
 obtain⟨h',g',d',t',o'⟩:=s';have e:o'=s.os:=ho;subst e;exact I.call (g':=g') (t':=t') (d':=d') u bB hg jY
end
abbrev XK:=Value->Option Addr->Hp->Prop
abbrev St:=List (Option V)
abbrev VK:=V->Hp->Prop
abbrev TE:=St->Hp->VK->Prop
abbrev TT:=St->Hp->(Bool->Hp->Prop)->Prop
abbrev TA:=St->Hp->(List V->Hp->Prop)->Prop
structure Ends where
 nx:St->Hp->Prop
 rt:VK
 bk:St->Hp->Prop:=λ_ _=>False
 ct:St->Hp->Prop:=λ_ _=>False
abbrev TS:=Ends->St->Hp->Prop
def EP(X:Cx)(pins:List (Addr×Obj))(σ:St)(Q:VK)(u:Value)(s':aaj):Prop:=∃v H',Inv X pins σ H' s'/\RelV v u/\Q v H'
def TP(X:Cx)(pins:List (Addr×Obj))(σ:St)(Q:Bool->Hp->Prop)(b:Bool)(s':aaj):Prop:=∃H',Inv X pins σ H' s'/\Q b H'
def AP(X:Cx)(pins:List (Addr×Obj))(σ:St)(Q:List V->Hp->Prop)(us:List Value)(s':aaj):Prop:=∃vs H',Inv X pins σ H' s'/\Vals vs us/\Q vs H'
def SP(X:Cx)(pins:List (Addr×Obj))(D:Ends)(f:Flow)(s':aaj):Prop:=
 match f with
 |.next=>∃σ' H',Inv X pins σ' H' s'/\D.nx σ' H'
 |.brk=>∃σ' H',Inv X pins σ' H' s'/\D.bk σ' H'
 |.cont=>∃σ' H',Inv X pins σ' H' s'/\D.ct σ' H'
 |.ret u=>∃v σ' H',Inv X pins σ' H' s'/\RelV v u/\D.rt v H'
namespace Zu
set_option allowUnsafeReducibility true in
@[scoped irreducible] def _root_.L2.PE(X:Cx)(e:acu)(t:TE):Prop:=
 ∀(pins:List (Addr×Obj)) (s:aaj) (σ:St) (H:Hp) (Q:VK),Inv X pins σ H s->t σ H Q->abo (abu X.prog X.w) X.A (ahx e X.env) (EP X pins σ Q) X.xe s
end Zu
namespace Zu
set_option allowUnsafeReducibility true in
@[scoped irreducible] def _root_.L2.PT(X:Cx)(e:acu)(t:TT):Prop:=
 ∀(pins:List (Addr×Obj)) (s:aaj) (σ:St) (H:Hp) (Q:Bool->Hp->Prop),Inv X pins σ H s->t σ H Q->abo (abu X.prog X.w) X.A (amB e X.env (ahx e X.env)) (TP X pins σ Q) X.xe s
end Zu
namespace Zu
set_option allowUnsafeReducibility true in
@[scoped irreducible] def _root_.L2.PW(X:Cx)(e:acu)(t:TT):Prop:=
 ∀(whole:Sem Value) (pins:List (Addr×Obj)) (s:aaj) (σ:St) (H:Hp) (Q:Bool->Hp->Prop),Inv X pins σ H s->t σ H Q->abo (abu X.prog X.w) X.A (amB e X.env whole) (TP X pins σ Q) X.xe s
end Zu
theorem PW.pt{X:Cx}{e:acu}{t:TT}(h:PW X e t):PT X e t:=h _
namespace Zu
set_option allowUnsafeReducibility true in
@[scoped irreducible] def _root_.L2.PA(X:Cx)(es:List acu)(t:TA):Prop:=
 ∀(pos:Pos) (pins:List (Addr×Obj)) (s:aaj) (σ:St) (H:Hp) (Q:List V->Hp->Prop),Inv X pins σ H s->t σ H Q->abo (abu X.prog X.w) X.A (spliced (ahJ pos (aa9 es X.env))) (AP X pins σ Q) X.xe s
end Zu
namespace Zu
set_option allowUnsafeReducibility true in
@[scoped irreducible] def _root_.L2.PS(X:Cx)(st:Stmt)(t:TS):Prop:=
 ∀(pins:List (Addr×Obj)) (s:aaj) (σ:St) (H:Hp) (D:Ends),Inv X pins σ H s->t D σ H->abo (abu X.prog X.w) X.A (exec st X.env) (SP X pins D) X.xe s
end Zu
namespace Zu
set_option allowUnsafeReducibility true in
@[scoped irreducible] def _root_.L2.nM(X:Cx)(st:List Stmt)(t:TS):Prop:=
 ∀(pins:List (Addr×Obj)) (s:aaj) (σ:St) (H:Hp) (D:Ends),Inv X pins σ H s->t D σ H->abo (abu X.prog X.w) X.A (execs st X.env) (SP X pins D) X.xe s
end Zu
theorem cF{α:Type}{t:Sem α}{Q Q':α->aaj->Prop}{M:amY}{A:abL}{E:Value->aaj->Prop}{s:aaj}(h:abo M A t Q E s)(hQ:∀a s,Q a s->Q' a s):abo M A t Q' E s:=acd h hQ λ_ _ x=>x
end L2
namespace L2
open PySem PySem.Spec PyProof.Rows
section
variable{X:Cx}
variable{pins:List (Addr×Obj)}
theorem bin{a b:acu}{ta tb:TE}(ha:PE X a ta)(hb:PE X b tb){s:aaj}{σ:St}{H:Hp}{R:V->V->Hp->Prop}(I:Inv X pins σ H s)(h:ta σ H λx H1=>tb σ H1 λy H2=>R x y H2)
  {α:Type}{Q:α->aaj->Prop}{f:Value->Value->Sem α}
  (hf:∀v u s2 x y H2,Inv X pins σ H2 s2->RelV x v->RelV y u->R x y H2->abo (abu X.prog X.w) X.A (f v u) Q X.xe s2):
  abo (abu X.prog X.w) X.A (ahx a X.env) (λv cA=>abo (abu X.prog X.w) X.A (ahx b X.env) (λu nN=>abo (abu X.prog X.w) X.A (f v u) Q X.xe nN) X.xe cA) X.xe s:=by
 refine cF (ha pins s σ H _ I h) λv s1 cg=>?_
 obtain⟨x,H1,I1,r1,q1⟩:=cg;refine cF (hb pins s1 σ H1 _ I1 q1) λu s2 cg=>?_
 obtain⟨y,H2,I2,r2,q2⟩:=cg;exact hf v u s2 x y H2 I2 r1 r2 q2
def Cz(i:Nat):TE:=λσ H Q=>∃v,σ[i]? =aa (aa v)/\Q v H
def tC(v:V):TE:=λ_ H Q=>Q v H
variable{x:Str}
theorem xx{i:Nat}{pos:Pos}(hN:X.N[i]? =aa x)(hv:EJ X.env.scope x)(hd:(x==("__debug__":Str))=false:=by decide)(sV:(x==("__classdict__":Str))=false:=by decide):PE X (.Name x pos) (Cz i):=by
 intro pins s σ H Q I h;obtain⟨v,e,h⟩:=h;obtain⟨m,hn,hl⟩:=I.loc;obtain⟨u,r,l⟩:=hl i x v hN e hv;have fin:EP X pins σ Q u s:=⟨v,H,I,r,h⟩;rcases l with⟨hk,hm⟩|⟨hk,c,hc,oz⟩
 .exact ajE (ah0 I.ok.kind hk hn hm fin) hd
 .rcases hk with hk|hk
  .exact ajE (wpAny_loadName_cell I.ok.kind hk hc oz fin) hd
  .exact ajE (wpAny_loadName_free I.ok.kind hk hc oz fin sV) hd
theorem GL{i j pos}:PE X (.Constant (.int i) j pos) (tC (.int i)):=λ_ _ _ H _ I h=>wpAny_Constant_int ⟨.int i,H,I.tok _,⟨_,rfl⟩,h⟩
theorem Tt{b j pos}:PE X (.Constant (.bool b) j pos) (tC (.bl b)):=λ_ _ _ H _ I h=>Constant_bool ⟨.bl b,H,I,rfl,h⟩
theorem N1{j pos}:PE X (.Constant .none j pos) (tC .aA):=λ_ _ _ H _ I h=>Constant_none ⟨.aA,H,I,rfl,h⟩
theorem rE{x j pos}:PE X (.Constant (.str x) j pos) (tC (.str x)):=λ_ _ _ H _ I h=>ahE ⟨.str x,H,I.tok _,⟨_,rfl⟩,h⟩
def Gl(X:Cx)(x:Str):Prop:=X.env.kindOf x=aa .globalImplicit
variable{E Q:Value->aaj->Prop}{u:Value}
theorem qg{s:aaj}{σ:St}{H:Hp}{pos:Pos}(I:Inv X pins σ H s)(hg:Gl X x)(hm:X.mg x=aa u)(h:Q u s)
  (hd:(x==("__debug__":Str))=false:=by decide):abo (abu X.prog X.w) X.A (ahx (.Name x pos) X.env) Q E s:=
 ajk I.ok.kind hg (Calls.loadGlobal_global (by rw[I.ok.glob];exact I.mod.glob.keeps I.bk) hm h) hd
theorem oA{s:aaj}{σ:St}{H:Hp}{pos:Pos}(I:Inv X pins σ H s)(hg:Gl X x)(hm:X.mg x=ae)(hv:ab1 x=aa u)(h:Q u s)
  (hn:x≠"__name__":=by decide)(hd:(x==("__debug__":Str))=false:=by decide):abo (abu X.prog X.w) X.A (ahx (.Name x pos) X.env) Q E s:=by
 obtain⟨mb,h1,h2⟩:=I.mod.blt;exact ajk I.ok.kind hg (Calls.loadGlobal_builtin (by rw[I.ok.glob];exact I.mod.glob.keeps I.bk) hm (by rw[I.ok.blt];exact h1.keeps I.bk) ((h2 x hn).trans hv) h) hd
theorem qh{v:V}{pos:Pos}(hg:Gl X x)(hm:X.mg x=aa u)(r:RelV v u)(hd:(x==("__debug__":Str))=false:=by decide):PE X (.Name x pos) (tC v):=
 λ_ _ _ H _ I h=>qg I hg hm ⟨v,H,I,r,h⟩ hd
theorem qi{v:V}{pos:Pos}(hg:Gl X x)(hm:X.mg x=ae)(hv:ab1 x=aa u)(r:RelV v u)(hn:x≠"__name__":=by decide)(hd:(x==("__debug__":Str))=false:=by decide):PE X (.Name x pos) (tC v):=
 λ_ _ _ H _ I h=>oA I hg hm hv ⟨v,H,I,r,h⟩ hn hd
variable{a b:acu}{ta tb:TE}{pos:Pos}
def PC(X:Cx)(op:amZ)(a b:acu)(t:TE):Prop:=
 ∀(pins:List (Addr×Obj)) (s:aaj) (σ:St) (H:Hp) (Q:VK),Inv X pins σ H s->t σ H Q->
  abo (abu X.prog X.w) X.A (ahx a X.env) (λv cA=>abo (abu X.prog X.w) X.A (ahx b X.env) (λu nN=>abo (abu X.prog X.w) X.A (agq op v u) (EP X pins σ Q) X.xe nN) X.xe cA) X.xe s
theorem Ii(b:acu){op:amZ}(h:op≠.In)(h2:op≠.NotIn):agX op b=false:=by
 have e1:(op==CmpOp.In)=false:=by cases op<;>first|rfl|exact absurd rfl h
 have e2:(op==CmpOp.NotIn)=false:=by cases op<;>first|rfl|exact absurd rfl h2
 cases b<;>simp[agX,e1,e2]
def tB(t:TE):TT:=λσ H Q=>t σ H λx H1=>∃c,x= .bl c/\Q c H1
theorem agT{op:amZ}{t:TE}(h:PC X op a b t)(h1:agX op b=false:=by first|exact Ii _ (by decide) (by decide)|rfl):PT X (.Compare a [op] [b] pos) (tB t):=by
 intro pins s σ H Q I hw;refine akv (cF (h pins s σ H _ I hw) λv s1 h1=>cF h1 λu s2 h2=>cF h2 λc s3 cg=>?_) h1;obtain⟨x,H1,I1,r1,q1⟩:=cg;obtain⟨d,rfl,q⟩:=q1;cases r1;exact agH ⟨H1,I1,q⟩
theorem N2{e:acu}{t:TE}(h:PE X e t)(he:∀whole,amB e X.env whole=(do let v <-whole;amC e.pos;aj3 [v] (truthy v)):=by intro _;rfl):PT X e (tB t):=by
 intro pins s σ H Q I hw;refine isTrue_plain (cF (h pins s σ H _ I hw) λv s1 cg=>?_) (he _);obtain⟨x,H1,I1,r1,q1⟩:=cg;obtain⟨d,rfl,q⟩:=q1;cases r1;exact agH ⟨H1,I1,q⟩
variable{tA N3:TT}{rest:List acu}
def dI(t u:TT):TT:=λσ H Q=>t σ H λc H1=>if c=true then u σ H1 Q else Q false H1
def oB(t u:TT):TT:=λσ H Q=>t σ H λc H1=>if c=true then Q true H1 else u σ H1 Q
def sy(t:TT):TT:=λσ H Q=>t σ H λc H1=>Q (!c) H1
theorem Kd(ha:PT X a tA):PW X (.BoolOp .And [a] pos) tA:=by
 intro wh pins s σ H Q I h;refine isTrue_and (cF (ha pins s σ H Q I h) λc s1 e=>?_);cases c with
 |true=>exact isTrue_and_nil e
 |false=>exact e
theorem N4(ha:PT X a tA):PW X (.BoolOp .Or [a] pos) tA:=by
 intro wh pins s σ H Q I h;refine isTrue_or (cF (ha pins s σ H Q I h) λc s1 e=>?_);cases c with
 |false=>exact isTrue_or_nil e
 |true=>exact e
theorem N5(ha:PT X a tA)(hb:PW X (.BoolOp .And (b::rest) pos) N3):PW X (.BoolOp .And (a::b::rest) pos) (dI tA N3):=by
 intro wh pins s σ H Q I h;refine isTrue_and (cF (ha pins s σ H _ I h) λc s1 cg=>?_);obtain⟨H1,I1,q1⟩:=cg;cases c with
 |true=>exact hb wh pins s1 σ H1 Q I1 q1
 |false=>exact⟨H1,I1,q1⟩
theorem Tu(ha:PT X a tA)(hb:PW X (.BoolOp .Or (b::rest) pos) N3):PW X (.BoolOp .Or (a::b::rest) pos) (oB tA N3):=by
 intro wh pins s σ H Q I h;refine isTrue_or (cF (ha pins s σ H _ I h) λc s1 cg=>?_);obtain⟨H1,I1,q1⟩:=cg;cases c with
 |true=>exact⟨H1,I1,q1⟩
 |false=>exact hb wh pins s1 σ H1 Q I1 q1
theorem N6(ha:PT X a tA):PT X (.UnaryOp .Not a pos) (sy tA):=by
 intro pins s σ H Q I h;exact isTrue_not (ha pins s σ H (λc H1=>Q (!c) H1) I h)
def Tv(ta tb:TE):TE:=λσ H Q=>ta σ H λx H1=>∃c,x= .bl c/\if c=true then tb σ H1 Q else Q (.bl false) H1
def Tw(ta:TE):TE:=λσ H Q=>ta σ H λx H1=>∃c,x= .bl c/\Q (.bl (!c)) H1
theorem N7{op}{t:TE}(h:PE X a t):PE X (.BoolOp op [a] pos) t:=λpins s σ H Q I hw=>BoolOp_one (h pins s σ H Q I hw)
theorem N8(ha:PE X a ta)(hb:PE X (.BoolOp .And (b::rest) pos) tb):PE X (.BoolOp .And (a::b::rest) pos) (Tv ta tb):=by
 intro pins s σ H Q I h;refine BoolOp_and (cF (ha pins s σ H _ I h) λv s1 cg=>?_);obtain⟨x,H1,I1,r1,q1⟩:=cg;obtain⟨c,rfl,q1⟩:=q1;cases r1;refine agH ?_;cases c with
 |true=>exact hb pins s1 σ H1 Q I1 q1
 |false=>exact⟨.bl false,H1,I1,rfl,q1⟩
theorem N9(ha:PE X a ta):PE X (.UnaryOp .Not a pos) (Tw ta):=by
 intro pins s σ H Q I h;refine UnaryOp_ (cF (ha pins s σ H _ I h) λv s1 cg=>?_);obtain⟨x,H1,I1,r1,q1⟩:=cg;obtain⟨c,rfl,q1⟩:=q1;cases r1;exact not_of (agH ⟨.bl (!c),H1,I1,rfl,q1⟩)
def tIf(t:TT)(ta tb:TE):TE:=λσ H Q=>t σ H λc H1=>if c=true then ta σ H1 Q else tb σ H1 Q
theorem Ij{c:acu}(hc:PT X c tA)(ha:PE X a ta)(hb:PE X b tb):PE X (.IfExp c a b pos) (tIf tA ta tb):=by
 intro pins s σ H Q I h;refine wpAny_IfExp (cF (hc pins s σ H _ I h) λd s1 cg=>?_);obtain⟨H1,I1,q1⟩:=cg;cases d with
 |true=>exact ha pins s1 σ H1 Q I1 q1
 |false=>exact hb pins s1 σ H1 Q I1 q1
end
end L2
namespace L2
open PySem PySem.Spec PyProof.Rows
def dX(K:aaa)(H:Hp)(a:Addr)(xs:List V):Prop:=
 Rd H a (.lst xs)\/
  ∃(o:Obj) (its:Array Value) (n:Nat),K.lookup a=aa o/\o.cls= .type "list"/\o.dict=ae/\o.data= .seq its n/\its.size<=sizeLine/\Vals xs its.toList
def ja(K:aaa)(H:Hp)(a:Addr)(xs:List V):Prop:=
 Rd H a (.tup xs)\/
  ∃(o:Obj) (its:Array Value) (n:Nat),K.lookup a=aa o/\o.cls= .type "tuple"/\o.data= .seq its n/\its.size<=sizeLine/\Vals xs its.toList
def Zz:Value->Option V
 |.none=>aa .aA
 |.bool b=>aa (.bl b)
 |.int i _=>aa (.int i)
 |.str x _=>aa (.str x)
 |.bytes b _=>aa (.ug b)
 |.float b _=>aa (.EH b)
 |.ref a=>aa (.ref a)
 |.type n=>aa (.ty n)
 |_=>ae
variable{u:Value}
theorem RelV.abs{x:V}(r:RelV x u):Zz u=aa x:=by
 cases x with
 |aA=>cases r;rfl
 |bl _=>cases r;rfl
 |int _=>obtain⟨t,rfl⟩:=r;rfl
 |str _=>obtain⟨t,rfl⟩:=r;rfl
 |ug _=>obtain⟨t,rfl⟩:=r;rfl
 |EH _=>obtain⟨t,rfl⟩:=r;rfl
 |ref _=>cases r;rfl
 |ty _=>cases r;rfl
theorem RelV.inj{x y:V}(r:RelV x u)(q:RelV y u):x=y:=abK (r.abs.symm.trans q.abs)
theorem Vals.inj:∀{xs ys:List V}{us:List Value},Vals xs us->Vals ys us->xs=ys
 |_,_,_,.nil,.nil=>rfl
 |_,_,_,.cons r t,.cons r' t'=>by rw[r.inj r',Vals.inj t t']
section
variable{X:Cx}{pins:List (Addr×Obj)}{σ:St}{H:Hp}{s:aaj}{a:Addr}{xs ys:List V}
theorem dX.of{K:aaa}(h:H a=aa (.lst xs)):dX K H a xs:=.inl (.inl h)
theorem ja.of{K:aaa}(h:H a=aa (.tup xs)):ja K H a xs:=.inl (.inl h)
theorem Inv.list(I:Inv X pins σ H s)(h:dX X.K H a xs):∃its:List Value,Vals xs its/\PlainL s.heap a its.toArray/\xs.length<=sizeLine:=by
 rcases h with h|⟨o,its,n,hk,hc,hd,hs,hz,r⟩
 .obtain⟨z,its,n,r,e⟩:=h.ok I.bB
  exact⟨its,r,⟨_,n,e,rfl,rfl,rfl⟩,z⟩
 .refine⟨its.toList,r,⟨o,n,I.fP a o hk,hc,hd,by simpa using hs⟩,?_⟩
  have e:=r.length;simp only[ai7]at e;omega
theorem Inv.tuple(I:Inv X pins σ H s)(h:ja X.K H a xs):∃its:List Value,Vals xs its/\IsTup s.heap a its.toArray/\xs.length<=sizeLine:=by
 rcases h with h|⟨o,its,n,hk,hc,hs,hz,r⟩
 .obtain⟨z,its,r,p⟩:=h.ok I.bB
  exact⟨its,r,p,z⟩
 .refine⟨its.toList,r,⟨o,I.fP a o hk,hc,n,by simpa using hs⟩,?_⟩
  have e:=r.length;simp only[ai7]at e;omega
theorem Inv.Aj(I:Inv X pins σ H s)(h:dX X.K H a xs)(h':dX X.K H a ys):xs=ys:=by
 obtain⟨its,r,⟨o,n,e,_,_,d⟩,_⟩:=I.list h;obtain⟨its',r',⟨o',n',e',_,_,d'⟩,_⟩:=I.list h';rw[e]at e';cases e';rw[d]at d';injection d' with d1 _
 have:its=its':=by simpa using congrArg Array.toList d1
 subst this;exact r.inj r'
end
abbrev Cx.nO(X:Cx)(E:Value->aaj->Prop):Cx:={ X with xe:=E }
abbrev Cx.CA(X:Cx):Cx:=X.nO λ_ _=>False
theorem Cx.Ok.nO{X:Cx}(ok:X.Ok)(E:Value->aaj->Prop):(X.nO E).Ok:=
 ⟨ok.mod,ok.kind,ok.glob,ok.blt,ok.above,ok.inj,ok.has,ok.Ic,ok.hd,ok.frames,ok.J_,ok.Ka,ok.bs,ok.zP,ok.pU,ok.Ai,ok.nL,ok.Cw⟩
variable{E:Value->aaj->Prop}
theorem Cx.Ok.lZ{X:Cx}(ok:(X.nO E).Ok):X.Ok:=
 ⟨ok.mod,ok.kind,ok.glob,ok.blt,ok.above,ok.inj,ok.has,ok.Ic,ok.hd,ok.frames,ok.J_,ok.Ka,ok.bs,ok.zP,ok.pU,ok.Ai,ok.nL,ok.Cw⟩
section
variable{X:Cx}{pins:List (Addr×Obj)}{σ:St}{H:Hp}{s:aaj}{E:Value->aaj->Prop}
theorem Inv.nO(I:Inv X pins σ H s)(E:Value->aaj->Prop):Inv (X.nO E) pins σ H s:=⟨I.ok.nO E,I.os,I.bare,I.base,I.loc,I.cell,I.free,I.jE,I.pin,I.bB,I.len⟩
theorem Inv.lZ(I:Inv (X.nO E) pins σ H s):Inv X pins σ H s:=⟨I.ok.lZ,I.os,I.bare,I.base,I.loc,I.cell,I.free,I.jE,I.pin,I.bB,I.len⟩
theorem SP.lZ{D:Ends}{f:Flow}{s':aaj}(h:SP (X.nO E) pins D f s'):SP X pins D f s':=by
 cases f with
 |next=>obtain⟨σ',H',I,q⟩:=h;exact⟨σ',H',I.lZ,q⟩
 |brk=>obtain⟨σ',H',I,q⟩:=h;exact⟨σ',H',I.lZ,q⟩
 |cont=>obtain⟨σ',H',I,q⟩:=h;exact⟨σ',H',I.lZ,q⟩
 |ret u=>obtain⟨v,σ',H',I,r,q⟩:=h;exact⟨v,σ',H',I.lZ,r,q⟩
theorem nM.CA{st:List Stmt}{t:TS}(h:nM X.CA st t):nM X st t:=λpins s σ H D I hw=>
 acd (h pins s σ H D (I.nO _) hw) (λ_ _ q=>q.lZ) λ_ _ z=>ahR z
end
section
variable{X:Cx}{st:Stmt}{rest:List Stmt}{t u:TS}{e:acu}{te:TE}{pos:Pos}
def Tz:TS:=λD σ H=>D.nx σ H
def ZA(t u:TS):TS:=λD σ H=>t { D with nx:=u D } σ H
theorem Ke:nM X [] Tz:=λ_ _ σ H _ I h=>ag1 ⟨σ,H,I,h⟩
theorem Ak(h1:PS X st t)(h2:nM X rest u):nM X (st::rest) (ZA t u):=by
 intro pins s σ H D I h;refine ah8 (cF (h1 pins s σ H { D with nx:=u D } I h) λf s1 q=>?_);cases f with
 |next=>
  obtain⟨σ',H',I',q⟩:=q;exact h2 pins s1 σ' H' D I' q
 |ret v=>exact q
 |brk=>exact q
 |cont=>exact q
theorem xV(h1:PS X st t):nM X [st] t:=by
 intro pins s σ H D I h;refine ah8 (cF (h1 pins s σ H D I h) λf s1 q=>?_);cases f with
 |next=>exact ag1 q
 |ret v=>exact q
 |brk=>exact q
 |cont=>exact q
theorem Inv.quiet{pins:List (Addr×Obj)}{σ:St}{H:Hp}{s:aaj}(I:Inv X pins σ H s):interactive X.env=false:=by simp[interactive,I.ok.kind]
def TB(te:TE):TS:=λD σ H=>te σ H λ_ H1=>D.nx σ H1
theorem Kf(he:PE X e te)(hs:aih e ae pos.line X.env=pure false:=by rfl):PS X (.Expr e pos) (TB te):=by
 intro pins s σ H D I h;exact wpAny_Expr_any (cF (he pins s σ H _ I h) λv s1 ⟨x,H1,I1,r1,q1⟩=>⟨σ,H1,I1,q1⟩) I.quiet hs
def ZC(te:TE):TS:=λD σ H=>te σ H D.rt
theorem GN(he:PE X e te):PS X (.Return (aa e) pos) (ZC te):=by
 intro pins s σ H D I h;exact wpAny_Return_some (cF (he pins s σ H _ I h) λv s1 ⟨x,H1,I1,r1,q1⟩=>⟨x,σ,H1,I1,r1,q1⟩)
def ZD(c:TT)(t u:TS):TS:=λD σ H=>c σ H λb H1=>if b=true then t D σ H1 else u D σ H1
theorem Kg{c:acu}{a b:List Stmt}{tc:TT}(hc:PT X c tc)(ha:nM X a t)(hb:nM X b u):PS X (.If c a b pos) (ZD tc t u):=by
 intro pins s σ H D I h;refine wpAny_If (cF (hc pins s σ H _ I h) λd s1 cg=>?_);obtain⟨H1,I1,q1⟩:=cg;cases d with
 |true=>exact ha pins s1 σ H1 D I1 q1
 |false=>exact hb pins s1 σ H1 D I1 q1
end
abbrev TG:=V->St->Hp->(St->Hp->Prop)->Prop
abbrev Bc:=List V->St->Hp->(St->Hp->Prop)->Prop
namespace Zu
set_option allowUnsafeReducibility true in
@[scoped irreducible] def _root_.L2.PG(X:Cx)(target:acu)(t:TG):Prop:=
 ∀(pins:List (Addr×Obj)) (s:aaj) (σ:St) (H:Hp) (v:V) (u:Value) (Q:St->Hp->Prop),Inv X pins σ H s->RelV v u->t v σ H Q->
  abo (abu X.prog X.w) X.A (akw target X.env u) (λ_ s'=>∃σ' H',Inv X pins σ' H' s'/\Q σ' H') X.xe s
end Zu
namespace Zu
set_option allowUnsafeReducibility true in
@[scoped irreducible] def _root_.L2.CB(X:Cx)(ts:List acu)(t:Bc):Prop:=
 ∀(pins:List (Addr×Obj)) (s:aaj) (σ:St) (H:Hp) (vs:List V) (us:List Value) (Q:St->Hp->Prop),Inv X pins σ H s->Vals vs us->t vs σ H Q->
  abo (abu X.prog X.w) X.A (alG ((ahA ts X.env).map (·.2)) us) (λ_ s'=>∃σ' H',Inv X pins σ' H' s'/\Q σ' H') X.xe s
end Zu
abbrev Kh:=V->V->V->Hp->(Hp->Prop)->Prop
def RI(X:Cx)(t:Kh):Prop:=
 ∀(pins:List (Addr×Obj)) (s:aaj) (σ:St) (H:Hp) (o i v:V) (ov iv u:Value) (Q:Hp->Prop),Inv X pins σ H s->RelV o ov->RelV i iv->RelV v u->t o i v H Q->
  abo (abu X.prog X.w) X.A (setItem ov iv u) (λ_ s'=>∃H',Inv X pins σ H' s'/\Q H') X.xe s
section
variable{X:Cx}{pos:Pos}
def aM(i:Nat):TG:=λv σ H Q=>Q (σ.set i (aa v)) H
theorem CC{i:Nat}{x:Str}(hN:X.N.Nodup)(hi:X.N[i]? =aa x)(hx:Loc X.env.scope x)(hf:X.fn x=true\/X.env.scope.names.lookup x=aa .local:=by first|exact .inl rfl|exact .inr rfl|assumption):PG X (.Name x pos) (aM i):=by
 intro pins s σ H v u Q I r h;exact wpAny_assign_Name (kL I hN hi hx r (λs' I'=>⟨_,H,I',h⟩) hf)
def kS:Bc:=λvs σ H Q=>vs=[]/\Q σ H
def dY(t:TG)(u:Bc):Bc:=λvs σ H Q=>∃v r,vs=v::r/\t v σ H λσ' H'=>u r σ' H' Q
theorem Ki:CB X [] kS:=by
 intro pins s σ H vs us Q I r h;obtain⟨e,h⟩:=h;subst e;cases r;exact assignInOrder_nil ⟨σ,H,I,h⟩
theorem Ik{e:acu}{es:List acu}{t:TG}{u:Bc}(h1:PG X e t)(h2:CB X es u)
  (hs:(ahA (e::es) X.env).map (·.2)=akw e X.env::(ahA es X.env).map (·.2):=by rfl):CB X (e::es) (dY t u):=by
 intro pins s σ H vs us Q I r h;obtain⟨v,vr,e1,h⟩:=h;subst e1;cases r with
 |cons r rr=>
  rw[hs];refine ajp (cF (h1 pins s σ H _ _ _ I r h) λ_ s1 cg=>?_);obtain⟨σ1,H1,I1,q1⟩:=cg;exact h2 pins s1 σ1 H1 _ _ Q I1 rr q1
def kT(K:aaa)(n:Nat)(t:Bc):TG:=λv σ H Q=>∃a xs,v= .ref a/\ja K H a xs/\xs.length=n/\t xs σ H Q
theorem N_{es:List acu}{k:Nat}{t:Bc}{n:Nat}(hc:X.calm=true)(h:CB X es t)
  (hn:(ahA es X.env).length=n:=by rfl)(i6:(ahA es X.env).findIdx? (·.1)=ae:=by rfl):PG X (.Tuple es k pos) (kT X.K n t):=by
 intro pins s σ H v u Q I r hw;obtain⟨a,xs,e1,hq,hl,hw⟩:=hw;subst e1;cases r;obtain⟨its,rv,ht,hz⟩:=I.tuple hq;refine assign_Tuple_tuple (I.ok.hd hc) ht (by simp[hn,<-hl,rv.length]) i6 λh' hx=>?_
 have I1:Inv X pins σ H { s with heap:=h' }:=I.kept (t':=s.toks) λb o e=>hx b o (abA (aaK e)) e
 exact h pins _ σ H xs _ Q I1 (by simpa using rv) hw
def iC(to ti:TE)(t:Kh):TG:=λv σ H Q=>to σ H λo H1=>ti σ H1 λi H2=>t o i v H2 λH3=>Q σ H3
theorem Oa{o i:acu}{to ti:TE}{t:Kh}(ho:PE X o to)(hi:PE X i ti)(hs:RI X t)
  (ha:∀v,akw (.Subscript o i pos) X.env v=(do
   let ov <-aj3 [v] (ahx o X.env)
   let iv <-aj3 [v,ov] (ahx i X.env)
   amC pos
   aj3 [v,ov,iv] (setItem ov iv v)
   release [v,ov,iv] []):=by intro _;rfl):PG X (.Subscript o i pos) (iC to ti t):=by
 intro pins s σ H v u Q I r h;rw[ha];refine aab (agG (cF (ho pins s σ H _ I h) λov s1 cg=>?_));obtain⟨x,H1,I1,r1,q1⟩:=cg;refine aab (agG (cF (hi pins s1 σ H1 _ I1 q1) λiv s2 cg=>?_));obtain⟨y,H2,I2,r2,q2⟩:=cg;refine aab (aii (aab (agG (cF (hs pins s2 σ H2 x y v ov iv u _ I2 r1 r2 r q2) λ_ s3 cg=>?_))));obtain⟨H3,I3,q3⟩:=cg;exact wpAny_release ⟨σ,H3,I3,q3⟩
def Kj(te:TE)(g:TG):TS:=λD σ H=>te σ H λx H1=>g x σ H1 D.nx
theorem Ob{tg e:acu}{te:TE}{g:TG}(he:PE X e te)(hg:PG X tg g)(hs:aj4 [tg] e pos.line X.env=pure false:=by rfl)(hw:aj5 [tg] e X.env=pure ae:=by rfl)
  (h1:(ahA [tg] X.env).map (·.2)=[akw tg X.env]:=by rfl):PS X (.Assign [tg] e pos) (Kj te g):=by
 intro pins s σ H D I h;refine wpAny_Assign_stores (cF (he pins s σ H _ I h) λv s1 cg=>?_) hs hw;obtain⟨x,H1,I1,r1,q1⟩:=cg;rw[h1];exact cF (hg pins s1 σ H1 x v _ I1 r1 q1) λ_ s2 q=>q
theorem GO{i:Nat}{x:Str}{e:acu}{te:TE}{pos':Pos}(hN:X.N.Nodup)(hi:X.N[i]? =aa x)(hx:Loc X.env.scope x)(he:PE X e te)(hs:aih e (aa (.Name x pos')) pos.line X.env=pure false:=by rfl)(hf:X.fn x=true\/X.env.scope.names.lookup x=aa .local:=by first|exact .inl rfl|exact .inr rfl|assumption):
  PS X (.Assign [.Name x pos'] e pos) (Kj te (aM i)):=by
 intro pins s σ H D I h;refine wpAny_Assign_Name (cF (he pins s σ H _ I h) λv s1 cg=>?_) hs;obtain⟨y,H1,I1,r1,q1⟩:=cg;exact kL I1 hN hi hx r1 (λs2 I2=>⟨_,H1,I2,q1⟩) hf
def ZE(i j:Nat)(ta:TA):TS:=λD σ H=>ta σ H λvs H1=>∃v w,vs=[v,w]/\D.nx ((σ.set i (aa v)).set j (aa w)) H1
theorem Oc{i j:Nat}{x y:Str}{a b:acu}{ta:TA}{px py pt:Pos}{kt k2 EM}(hc:X.calm=true)(hN:X.N.Nodup)(hi:X.N[i]? =aa x)(hj:X.N[j]? =aa y)(w_:i≠j)
  (hx:X.env.scope.names.lookup x=aa .local)(hy:X.env.scope.names.lookup y=aa .local)(ha:PA X [a,b] ta)
  (hw:aj5 [.Tuple [.Name x px,.Name y py] kt pt] (.Tuple [a,b] k2 EM) X.env=pure (aa [x,y]))
  (hs:aj4 [.Tuple [.Name x px,.Name y py] kt pt] (.Tuple [a,b] k2 EM) pos.line X.env=pure false:=by rfl):
  PS X (.Assign [.Tuple [.Name x px,.Name y py] kt pt] (.Tuple [a,b] k2 EM) pos) (ZE i j ta):=by
 intro pins s σ H D I h;rw[exec_Assign_arm];refine aab (aii ?_);rw[hs];refine aab (aas ?_);rw[if_neg (by decide)];refine aab (Tuple_ (cF (ha _ pins s σ H _ I h) λus s1 cg=>?_));obtain⟨vs,H1,I1,r1,q1⟩:=cg;obtain⟨v,w,e1,q1⟩:=q1;subst e1;obtain⟨u1,u2,rfl,rv,qc⟩:∃u1 u2,us=[u1,u2]/\RelV v u1/\RelV w u2:=by
  cases r1 with
  |cons p q=>
   cases q with
   |cons p' q'=>
    cases q';exact⟨_,_,rfl,p,p'⟩
 refine agR ?_ (by show 2<=sizeLine;decide);have I2:Inv X pins σ H1 { s1 with heap:=s1.heap.push { cls:=.type "tuple",data:=.seq [u1,u2].toArray } }:=I1.kept (t':=s1.toks) λb o e=>aap _ e
 rw[hw];refine aab (aas ?_);show abo (abu X.prog X.w) X.A (do rule "assign.swapped-stores";let items <-unpackItems (.ref s1.heap.objs.size) 2 ae;alG [λv=>amt X.env y v,λv=>amt X.env x v] items.reverse;pure Flow.next) _ _ _;refine aab (ajC (aab (unpackItems_tuple (items:=#[u1,u2]) (I.ok.hd hc) (am9 s1.heap _) λh' wZ=>?_)));have I3:=I2.kept (h':=h') (t':=s1.toks) λb o e=>wZ b o (abA (aaK e)) e
 show abo _ _ (alG [λv=>amt X.env y v,λv=>amt X.env x v] [u2,u1] >>= λ_=>pure Flow.next) _ _ _;refine aab (ajp (akV (kL I3 hN hj (.inl hy) qc (λs2 I4=>?_) (.inr hy))));refine ajp (akV (kL I4 hN hi (.inl hx) rv (λs3 I5=>assignInOrder_nil (aas ?_)) (.inr hx)));rw[List.set_comm _ _ (ahb w_)]at I5;exact⟨_,H1,I5,q1⟩
end
section
variable{X:Cx}{pos:Pos}
def Od(c:TT)(tb:TS):TS:=λD σ H=>∃W:Nat->St->Hp->Prop,(∃m,W m σ H)/\∀m σ H,W m σ H->
 c σ H λb H1=>if b=true then ∃N:St->Hp->Prop,(∀σ' H',N σ' H'->∃m',m'<m/\W m' σ' H')/\tb { D with nx:=N,ct:=N,bk:=D.nx } σ H1 else D.nx σ H1
theorem Il{c:acu}{body:List Stmt}{tc:TT}{tb:TS}(hp:akx (abu X.prog X.w) X.A X.env X.xe)(hc:PT X c tc)(hb:nM X body tb):PS X (.While c body [] pos) (Od tc tb):=by
 intro pins s σ H D I h;obtain⟨W,⟨m0,w0⟩,turn⟩:=h;refine wpAny_While (codeAny_whileLoop (λn s'=>∃σ' H',Inv X pins σ' H' s'/\W n σ' H') ?_ m0 ⟨σ,H,I,w0⟩);rintro n s1 ⟨σ1,H1,I1,w1⟩;refine agr hp (cF (hc pins s1 σ1 H1 _ I1 (turn n σ1 H1 w1)) λb s2 cg=>?_);obtain⟨H2,I2,q2⟩:=cg;cases b with
 |true=>
  obtain⟨N,hN,q2⟩:=q2;rw[if_pos rfl];refine agr hp (cF (hb pins s2 σ1 H2 _ I2 q2) λf s3 q3=>?_);cases f with
  |next=>
   obtain⟨oC,H3,I3,n3⟩:=q3;obtain⟨m',hm,w3⟩:=hN oC H3 n3;exact⟨m',hm,oC,H3,I3,w3⟩
  |cont=>
   obtain⟨oC,H3,I3,n3⟩:=q3;obtain⟨m',hm,w3⟩:=hN oC H3 n3;exact⟨m',hm,oC,H3,I3,w3⟩
  |brk=>exact q3
  |ret v=>exact q3
 |false=>
  rw[if_neg abh];exact ag1 ⟨σ1,H2,I2,q2⟩
end
structure It where
 go:Nat->Hp->Prop
 Kk:Nat->Hp->V->Hp->Prop
 stop:Nat->Hp->Prop
def kU(X:Cx)(pins:List (Addr×Obj))(H:Hp)(b:Addr):Prop:=
 H b=ae/\b≠X.env.locals/\b∉X.fs/\(b∈X.ex\/X.bR.heap.objs.size<=b)/\(∀x c,X.env.cells.lookup x=aa c->c≠b)/\∀p∈X.pn++pins,p.1≠b
theorem Inv.CD{X:Cx}{pins:List (Addr×Obj)}{σ:St}{H H':Hp}{s:aaj}{b:Addr}(I:Inv X pins σ H s)(hb:s.heap.objs.size<=b)(hn:H' b=ae):kU X pins H' b:=by
 refine⟨hn,aiE (aa1 I.lt hb),I.RH hb,.inr (ab2 I.sz hb),λx c e z=>?_,λp hp z=>?_⟩
 .obtain⟨v,q⟩:=I.cell x c e
  exact absurd (aa1 q.lt (by rw[z];exact hb)) (agu _)
 .exact absurd (aa1 (aaK (I.pin p hp).1) (by rw[z];exact hb)) (agu _)
structure Turn(P:Program)(w:abZ)(K:aaa)(tg:acu)(J:It)(fp:List Addr)(it:Addr)(tn:Nat->Heap->Prop):Prop where
 mem:it∈fp
 obj:∀i h,tn i h->∀b∈fp,∃o,h.get? b=aa o/\∀v,o.data≠.cell v
 keep:∀i h h',tn i h->(∀b∈fp,∀o,h.get? b=aa o->h'.get? b=aa o)->tn i h'
 item:∀(X:Cx),X.prog=P->X.w=w->X.K=K->X.calm=true->∀(i:Nat) (pins:List (Addr×Obj)) (s:aaj) (σ:St) (H:Hp) (E:Value->aaj->Prop),Inv X pins σ H s->(∀b∈fp,kU X pins H b)->tn i s.heap->J.go i H->
  abo (abu P w) X.A (pyNext (.ref it)) (λr s1=>∃u,r=aa u/\
   abo (abu P w) X.A (ai8 tg (.ref it) u) (λ_ s2=>∃x H',Inv X pins σ H' s2/\RelV x u/\J.Kk i H x H'/\tn (i+1) s2.heap/\∀b∈fp,H' b=ae) E s1) E s
 done:∀(X:Cx),X.prog=P->X.w=w->X.K=K->X.calm=true->∀(i:Nat) (pins:List (Addr×Obj)) (s:aaj) (σ:St) (H:Hp) (E:Value->aaj->Prop),Inv X pins σ H s->(∀b∈fp,kU X pins H b)->tn i s.heap->J.stop i H->
  abo (abu P w) X.A (pyNext (.ref it)) (λr s1=>r=ae/\Inv X pins σ H s1) E s
 self:∀(A:abL) (i:Nat) (s:aaj) (Q:Value->aaj->Prop) (E:Value->aaj->Prop),tn i s.heap->Q (.ref it) s->abo (abu P w) A (pyIter (.ref it)) Q E s
abbrev TI:=St->Hp->(It->Hp->Prop)->Prop
def ZF(X:Cx)(pins:List (Addr×Obj))(σ:St)(tg:acu)(R:It->Hp->Prop)(Oe:Value)(s2:aaj):Prop:=
 ∃(it:Addr) (fp:List Addr) (tn:Nat->Heap->Prop) (J:It) (H':Hp),Oe= .ref it/\Inv X pins σ H' s2/\Turn X.prog X.w X.K tg J fp it tn/\tn 0 s2.heap/\(∀b∈fp,kU X pins H' b)/\R J H'
namespace Zu
set_option allowUnsafeReducibility true in
@[scoped irreducible] def _root_.L2.PI(X:Cx)(tg iter:acu)(wi:TI):Prop:=
 ∀(pins:List (Addr×Obj)) (s:aaj) (σ:St) (H:Hp) (R:It->Hp->Prop),Inv X pins σ H s->wi σ H R->
  abo (abu X.prog X.w) X.A (ahx iter X.env) (λv s1=>abo (abu X.prog X.w) X.A (pyIter v) (ZF X pins σ tg R) X.xe s1) X.xe s
end Zu
variable{tg:acu}
theorem Be{M:amY}{A:abL}{s:aaj}{it:Addr}{o:Obj}{n:String}{vs:Array Value}{Q:Unit->aaj->Prop}(ho:s.heap.get? it=aa o)(hc:o.cls= .type n)(hd:o.data= .fields vs)
  (hn: ["enumerate","zip","dict_itemiterator","dict_reverseitemiterator","odict_iterator","itertools.zip_longest","itertools.pairwise"].contains n=false)(hQ:Q () s):abo M A (ai8 tg (.ref it) u) Q E s:=by
 unfold ai8;cases tg<;>first
  |exact aas hQ
  |(cases u<;>first
    |exact aas hQ
    |(refine aab (wpAny_load ho ?_)
      rw[hc,hd];show abo M A (if (["enumerate","zip","dict_itemiterator","dict_reverseitemiterator","odict_iterator","itertools.zip_longest","itertools.pairwise"].contains n&&vs[0]?==aa (alH _))=true then _ else _) Q E s;rw[if_neg (by intro h;rw[hn,aiC]at h;cases h)];exact aas hQ))
def ZG(K:aaa)(a:Addr):It:=
 ⟨λi H=>∃xs x,dX K H a xs/\xs[i]? =aa x,λi H x H'=>H'=H/\∀xs,dX K H a xs->xs[i]? =aa x,λi H=>∃xs,dX K H a xs/\xs.length<=i⟩
def Kl(lo:Int)(n:Nat):It:=⟨λi _=>i<n,λi H x H'=>H'=H/\x= .int (lo+i),λi _=>n<=i⟩
theorem EN{P:Program}{w:abZ}{K:aaa}(a it:Addr):Turn P w K tg (ZG K a) [it] it (λi h=>h.IsListIter it a i) where
 mem:=by simp
 obj:=λi h st b hb=>by
  have e:b=it:=by simpa using hb
  subst e;obtain⟨o,e,c,d⟩:=st;exact⟨o,e,λv z=>by rw[d]at z;cases z⟩
 keep:=λi h h' st k=>st.at λo e=>k it (by simp) o e
 item:=by
  intro X hP hw hK hc i pins s σ H E I hf st hg;subst hP hw hK;obtain⟨xs,x,hq,hx⟩:=hg;obtain⟨its,rv,p,hz⟩:=I.list hq;obtain⟨u,hu,ru⟩:=rv.get hx;obtain⟨f0,f1,f2,f3,f4,f5⟩:=hf it (by simp);refine wpAny_pyNext_list_item st p.isList (x:=u) (by simpa using hu) λh' zQ sb=>?_
  have I1:Inv X pins σ H { s with heap:=h' }:=I.turned (t':=s.toks) (λb o hb e=>(sb.2 b hb).trans e) f0 f1 f3 f4 f5;obtain⟨o,e,c,d⟩:=id zQ;exact⟨u,rfl,Be (s:={ s with heap:=h' }) e c d (by decide) ⟨x,H,I1,ru,⟨rfl,λys hy=>by rw[I.Aj hy hq];exact hx⟩,zQ,λb hb=>(hf b hb).1⟩⟩
 done:=by
  intro X hP hw hK hc i pins s σ H E I hf st hg;subst hP hw hK;obtain⟨xs,hq,hx⟩:=hg;obtain⟨its,rv,p,hz⟩:=I.list hq;obtain⟨f0,f1,f2,f3,f4,f5⟩:=hf it (by simp);have hl:=rv.length;exact wpAny_pyNext_list_end (I.ok.hd hc) st p.isList (by simp;omega) λh' eb=>⟨rfl,I.turned (t':=s.toks) (λb o hb e=>eb b o hb e) f0 f1 f3 f4 f5⟩
 self:=λ_ _ _ _ _ st h=>wpAny_pyIter_listiter st h
theorem CF{P:Program}{w:abZ}{K:aaa}(it:Addr)(lo:Int)(n:Nat):Turn P w K tg (Kl lo n) [it] it (λi h=>IsRangeIter h it (lo+(i:Nat)*1) ((n:Int) - (i:Nat)) 1) where
 mem:=by simp
 obj:=λi h st b hb=>by
  have e:b=it:=by simpa using hb
  subst e;exact⟨_,st,λv z=>by
   have z':Data.fields _=Data.cell v:=z;cases z'⟩
 keep:=λi h h' st k=>k it (by simp) _ st
 item:=by
  intro X hP hw hK hc i pins s σ H E I hf st hg;subst hP hw hK;obtain⟨f0,f1,f2,f3,f4,f5⟩:=hf it (by simp);have W:=Walks.range (prog:=X.prog) (w:=X.w) (I.ok.hd hc) it lo 1 n;refine W.item i s _ _ hg st λv h' tk hv zQ kk=>?_
  obtain⟨t,rfl⟩:=hv;have I1:Inv X pins σ H { s with heap:=h',toks:=tk }:=I.turned (λb o hb e=>kk b o (by simpa using hb) e) f0 f1 f3 f4 f5;refine⟨_,rfl,Be (s:={ s with heap:=h',toks:=tk }) (n:="range_iterator") zQ rfl rfl (by decide) ⟨.int (lo+i),H,I1,⟨t,?_⟩,⟨rfl,rfl⟩,zQ,λb hb=>(hf b hb).1⟩⟩;rw[Int.mul_one]
 done:=by
  intro X hP hw hK hc i pins s σ H E I hf st hg;subst hP hw hK;obtain⟨f0,f1,f2,f3,f4,f5⟩:=hf it (by simp);exact wpAny_pyNext_range_end (I.ok.hd hc) st (by have:n<=i:=hg;omega) λh' eb=>⟨rfl,I.turned (t':=s.toks) (λb o hb e=>eb b o hb e) f0 f1 f3 f4 f5⟩
 self:=λ_ _ _ _ _ st h=>wpAny_pyIter_rangeiter st h
end L2
namespace L2
open PySem PySem.Spec PyProof.Rows
section
variable{X:Cx}{tg:acu}
def TC(K:aaa)(tl:TE):TI:=λσ H R=>tl σ H λx H1=>∃a,x= .ref a/\(∃xs,dX K H1 a xs)/\R (ZG K a) H1
theorem Km{l:acu}{tl:TE}(hl:PE X l tl):PI X tg l (TC X.K tl):=by
 intro pins s σ H R I h;refine cF (hl pins s σ H _ I h) λv s1 cg=>?_
 obtain⟨x,H1,I1,r1,q1⟩:=cg;obtain⟨a,e,⟨xs,hq⟩,q⟩:=q1;subst e;cases r1;obtain⟨its,rv,p,hz⟩:=I1.list hq;refine ajF p.isList ?_;refine⟨s1.heap.objs.size,[s1.heap.objs.size],_,_,H1,rfl,I1.kept (t':=s1.toks) λb o e=>aap _ e,EN a _,⟨_,abx _ rfl,rfl,rfl⟩,λb hb=>?_,q⟩;have e:b=s1.heap.objs.size:=by simpa using hb
 subst e;exact I1.CD (aat _) (I1.bB.fresh (aat _))
variable{pins:List (Addr×Obj)}
theorem Al{σ:St}{H:Hp}{s:aaj}{R:It->Hp->Prop}{E:Value->aaj->Prop}{lo hi:Int}{t u v:Tok}{tk:Nat}(I:Inv X pins σ H s)(h1: -(2 ^ 62)<=lo)(h2:lo<2 ^ 62)(h3: -(2 ^ 62)<=hi)(h4:hi<2 ^ 62)
  (q:R (Kl lo (hi - lo).toNat) H):abo (abu X.prog X.w) X.A (pyIter (.ref s.heap.objs.size)) (ZF X pins σ tg R) E { s with heap:=s.heap.push { cls:=.type "range",data:=.fields #[.int lo t,.int hi u,.int 1 v] },toks:=tk }:=by
 refine wpAny_pyIter_range (IsRange.new ..) (small_one h1 h2 h3 h4) ?_;have I1:Inv X pins σ H { s with heap:=s.heap.push { cls:=.type "range",data:=.fields #[.int lo t,.int hi u,.int 1 v] },toks:=tk }:=I.kept λb o e=>aap _ e
 refine⟨(s.heap.push { cls:=.type "range",data:=.fields #[.int lo t,.int hi u,.int 1 v] }).objs.size,[(s.heap.push { cls:=.type "range",data:=.fields #[.int lo t,.int hi u,.int 1 v] }).objs.size],_,_,H,rfl,
  I1.kept (t':=tk) λb o e=>aap _ e,CF _ lo (hi - lo).toNat,?_,λb hb=>?_,q⟩
 .have e1:lo+((0:Nat):Int)*1=lo:=by simp
  have e2:(((hi - lo).toNat:Nat):Int) - ((0:Nat):Int)=Builtin.Range.rangeSize lo hi 1:=by rw[rangeSize_one];split<;>omega
  show IsRangeIter _ _ (lo+((0:Nat):Int)*1) ((((hi - lo).toNat:Nat):Int) - ((0:Nat):Int)) 1;rw[e1,e2];exact abx _ rfl
 .have e:b=(s.heap.push { cls:=.type "range",data:=.fields #[.int lo t,.int hi u,.int 1 v] }).objs.size:=by simpa using hb
  subst e;exact I1.CD (aat _) (I1.bB.fresh (aat _))
def dZ(ta:TA):TI:=λσ H R=>ta σ H λvs H1=>∃j:Int,vs=[.int j]/\-(2 ^ 62)<=j/\j<2 ^ 62/\R (Kl 0 j.toNat) H1
def sW(ta:TA):TI:=λσ H R=>ta σ H λvs H1=>∃i j:Int,vs=[.int i,.int j]/\(-(2 ^ 62)<=i/\i<2 ^ 62/\-(2 ^ 62)<=j/\j<2 ^ 62)/\R (Kl i (j - i).toNat) H1
variable{pos:Pos}
theorem EO{a:acu}{ta:TA}{p:Pos}(hg:Gl X "range")(hm:X.mg "range" =ae)(ha:PA X [a] ta)(hs:aa9 [a] X.env=[(false,ahx a X.env)]:=by rfl):PI X tg (.Call (.Name "range" p) [a] [] pos) (dZ ta):=by
 intro pins s σ H R I h;refine Call_ (oA I hg hm boot_range (agL (cF (ha pos pins s σ H _ I h) λus s1 cg=>?_) hs rfl));obtain⟨vs,H1,I1,r1,q1⟩:=cg;obtain⟨j,e,q1,q2,q⟩:=q1;subst e;cases r1 with
 |cons r rr=>
  cases rr;obtain⟨t,rfl⟩:=r;exact call_range_1 (Al I1 (by omega) (by omega) q1 q2 (by simpa using q))
theorem ER{a b:acu}{ta:TA}{p:Pos}(hg:Gl X "range")(hm:X.mg "range" =ae)(ha:PA X [a,b] ta)(hs:aa9 [a,b] X.env=[(false,ahx a X.env),(false,ahx b X.env)]:=by rfl)(nP:aa9 [b] X.env=[(false,ahx b X.env)]:=by rfl):
  PI X tg (.Call (.Name "range" p) [a,b] [] pos) (sW ta):=by
 intro pins s σ H R I h;refine Call_ (oA I hg hm boot_range (agL (cF (ha pos pins s σ H _ I h) λus s1 cg=>?_) (by rw[hs,nP]) (by rw[nP];rfl)));obtain⟨vs,H1,I1,r1,q1⟩:=cg;obtain⟨i,j,e,⟨q1,q2,q3,q4⟩,q⟩:=q1;subst e;cases r1 with
 |cons r rr=>
  cases rr with
  |cons r' rr=>
   cases rr;obtain⟨t,rfl⟩:=r;obtain⟨t',rfl⟩:=r';exact call_range_2 (Al I1 q1 q2 q3 q4 q)
def ZH(wi:TI)(g:TG)(tb:TS):TS:=λD σ H=>wi σ H λJ H1=>∃W:Nat->Nat->St->Hp->Prop,(∃m,W 0 m σ H1)/\∀i m σ H,W i m σ H->
 (J.stop i H/\D.nx σ H)\/(J.go i H/\∃N:St->Hp->Prop,(∀σ' H',N σ' H'->∃m',m'<m/\W (i+1) m' σ' H')/\∀x H',J.Kk i H x H'->g x σ H' λσ2 H2=>tb { D with nx:=N,ct:=N,bk:=D.nx } σ2 H2)
def uk(fp:List Addr)(h:Heap):List (Addr×Obj):=fp.filterMap λb=>(h.get? b).map λo=>(b,o)
variable{fp:List Addr}
theorem l_{h:Heap}{b:Addr}{o:Obj}(hb:b∈fp)(e:h.get? b=aa o):(b,o)∈uk fp h:=ajq.mpr ⟨b,hb,by rw[e];rfl⟩
theorem ES{h:Heap}{p:Addr×Obj}(hp:p∈uk fp h):p.1∈fp/\h.get? p.1=aa p.2:=by
 obtain⟨b,hb,e⟩:=ajq.mp hp;cases q:h.get? b with
 |none=>rw[q]at e;cases e
 |some o=>
  rw[q]at e;have e':(b,o)=p:=abK e;subst e';exact⟨hb,q⟩
theorem Inv.pinned{σ:St}{H:Hp}{s:aaj}(I:Inv X pins σ H s)(hf:∀b∈fp,kU X pins H b)(ho:∀b∈fp,∃o,s.heap.get? b=aa o/\∀v,o.data≠.cell v):Inv X (pins++uk fp s.heap) σ H s:=
 I.xT λp hp=>(abc.mp hp).elim (λz=>I.pin p (abz _ z)) λz=>by
  obtain⟨hb,e⟩:=ES z;obtain⟨f0,f1,f2,_⟩:=hf p.1 hb;obtain⟨o,e',d⟩:=ho p.1 hb;rw[e]at e';cases e';exact⟨e,f0,f1,f2,d⟩
theorem Inv.nQ{pl:List (Addr×Obj)}{σ:St}{H:Hp}{s:aaj}(I:Inv X (pins++pl) σ H s):Inv X pins σ H s:=I.xT λp hp=>I.pin p (abz _ (aiT _ hp))
theorem GP{iter:acu}{body:List Stmt}{wi:TI}{g:TG}{tb:TS}(hp:akx (abu X.prog X.w) X.A X.env X.xe)(hc:X.calm=true)(hi:PI X tg iter wi)(hg:PG X tg g)(hb:nM X body tb)
  (hs:∀x,agS iter X.env x=pure x:=by intro _;rfl):PS X (.For tg iter body [] pos) (ZH wi g tb):=by
 intro pins s σ H D I h;refine wpAny_For (cF (hi pins s σ H _ I h) λv s1 h1=>cF h1 λOe s2 h2=>?_) hs;obtain⟨it,fp,tn,J,H2,e,I2,T,oE,f2,W,⟨m0,w0⟩,turn⟩:=h2;subst e
 -- aln stays true of oF RJ objects through oF loop
 have Kn:∀{H':Hp},(∀b∈fp,H' b=ae)->∀b∈fp,kU X pins H' b:=λhn b hb=>⟨hn b hb,(f2 b hb).2⟩
 refine ak2 (λn s'=>∃i σ' H',Inv X pins σ' H' s'/\tn i s'.heap/\(∀b∈fp,H' b=ae)/\W i n σ' H') ?_ m0 ⟨0,σ,H2,I2,oE,λb hb=>(f2 b hb).1,w0⟩;rintro n s3 ⟨i,oC,H3,I3,Ko,ZI,w3⟩;rcases turn i n oC H3 w3 with⟨stop,qn⟩|⟨go,N,hN,step⟩
 .refine agr hp (cF (T.done X rfl rfl rfl hc i pins s3 oC H3 X.xe I3 (Kn ZI) Ko stop) λr s4 cg=>?_)
  obtain⟨hr,I4⟩:=cg;subst hr;exact ag1 ⟨oC,H3,I4,qn⟩
 .refine agr hp (cF (T.item X rfl rfl rfl hc i pins s3 oC H3 X.xe I3 (Kn ZI) Ko go) λr s4 cg=>?_)
  obtain⟨u,hr,h4⟩:=cg;subst hr;refine agr hp (cF h4 λ_ s5 cg=>?_);obtain⟨x,H5,I5,r5,y5,ET,fr5⟩:=cg;have TF:=I5.pinned (Kn fr5) (T.obj _ _ ET);refine agr hp (cF (hg _ s5 oC H5 x u _ TF r5 (step x H5 y5)) λ_ s6 cg=>?_);obtain⟨TH,H6,I6,q6⟩:=cg;refine agr hp (cF (hb _ s6 TH H6 _ I6 q6) λf s7 q7=>?_);have again:∀{xa:St}{H7:Hp},Inv X (pins++uk fp s5.heap) xa H7 s7->N xa H7->∃m,m<n/\∃i σ' H',Inv X pins σ' H' s7/\tn i s7.heap/\(∀b∈fp,H' b=ae)/\W i m σ' H':=λ{xa H7} I7 n7=>by
   obtain⟨m',hm,w7⟩:=hN xa H7 n7;refine⟨m',hm,i+1,xa,H7,I7.nQ,T.keep _ _ _ ET λb hb o e=>(I7.pin (b,o) (abz _ (abz _ (l_ hb e)))).1,λb hb=>?_,w7⟩;obtain⟨o,e,d⟩:=T.obj _ _ ET b hb;exact(I7.pin (b,o) (abz _ (abz _ (l_ hb e)))).2.1
  cases f with
  |next=>obtain⟨xa,H7,I7,n7⟩:=q7;exact again I7 n7
  |cont=>obtain⟨xa,H7,I7,n7⟩:=q7;exact again I7 n7
  |brk=>obtain⟨xa,H7,I7,q7⟩:=q7;exact⟨xa,H7,I7.nQ,q7⟩
  |ret v=>obtain⟨x7,xa,H7,I7,r7,q7⟩:=q7;exact⟨x7,xa,H7,I7.nQ,r7,q7⟩
end
end L2
namespace L2
open PySem PySem.Spec PyProof.Rows
abbrev R2:=V->V->Hp->VK->Prop
def eW(X:Cx)(f:Value->Value->Sem Value)(r:R2):Prop:=
 ∀(pins:List (Addr×Obj)) (s:aaj) (σ:St) (H:Hp) (x y:V) (v u:Value) (Q:VK),Inv X pins σ H s->RelV x v->RelV y u->r x y H Q->
  abo (abu X.prog X.w) X.A (f v u) (EP X pins σ Q) X.xe s
def TJ(X:Cx)(f:Value->Sem Value)(r:V->Hp->VK->Prop):Prop:=
 ∀(pins:List (Addr×Obj)) (s:aaj) (σ:St) (H:Hp) (x:V) (v:Value) (Q:VK),Inv X pins σ H s->RelV x v->r x H Q->
  abo (abu X.prog X.w) X.A (f v) (EP X pins σ Q) X.xe s
def fV(X:Cx)(f:Value)(r:List V->Hp->VK->Prop):Prop:=
 ∀(pins:List (Addr×Obj)) (s:aaj) (σ:St) (H:Hp) (xs:List V) (us:List Value) (Q:VK),Inv X pins σ H s->Vals xs us->r xs H Q->
  abo (abu X.prog X.w) X.A (call f us) (EP X pins σ Q) X.xe s
def ZJ(X:Cx)(r:V->Hp->(Bool->Hp->Prop)->Prop):Prop:=
 ∀(pins:List (Addr×Obj)) (s:aaj) (σ:St) (H:Hp) (x:V) (v:Value) (Q:Bool->Hp->Prop),Inv X pins σ H s->RelV x v->r x H Q->
  abo (abu X.prog X.w) X.A (truthy v) (TP X pins σ Q) X.xe s
def Kp(r:R2)(ta tb:TE):TE:=λσ H Q=>ta σ H λx H1=>tb σ H1 λy H2=>r x y H2 Q
def tUn(r:V->Hp->VK->Prop)(ta:TE):TE:=λσ H Q=>ta σ H λx H1=>r x H1 Q
def rI(C:Int->Int->Prop)(g:Int->Int->V):R2:=λx y H Q=>∃i j,x= .int i/\y= .int j/\C i j/\Q (g i j) H
def sk(g:Int->Int->V):R2:=λx y H Q=>∃i j,x= .int i/\y= .int j/\Q (g i j) H
def rU(g:Int->V):V->Hp->VK->Prop:=λx H Q=>∃i,x= .int i/\Q (g i) H
section
variable{X:Cx}{a b c:acu}{ta tb tc:TE}{pos:Pos}
variable{f:Value->Value->Sem Value}
theorem Kr(ha:PE X a ta)(hb:PE X b tb){pins:List (Addr×Obj)}{s:aaj}{σ:St}{H:Hp}{R:V->V->Hp->Prop}(I:Inv X pins σ H s)
  (h:ta σ H λx H1=>tb σ H1 λy H2=>R x y H2){Q:Value->aaj->Prop}
  (hf:∀v u s2 x y H2,Inv X pins σ H2 s2->RelV x v->RelV y u->R x y H2->abo (abu X.prog X.w) X.A (f v u) Q X.xe s2):
  abo (abu X.prog X.w) X.A (ahx a X.env) (λv cA=>abo (abu X.prog X.w) X.A (ahx b X.env) (λu nN=>abo (abu X.prog X.w) X.A (f v u) Q X.xe nN) X.xe cA) X.xe s:=by
 refine cF (ha pins s σ H _ I h) λv s1 cg=>?_
 obtain⟨x,H1,I1,r1,q1⟩:=cg;refine cF (hb pins s1 σ H1 _ I1 q1) λu s2 cg=>?_
 obtain⟨y,H2,I2,r2,q2⟩:=cg;exact hf v u s2 x y H2 I2 r1 r2 q2
theorem TK{op:Operator}{r:R2}(ho:eW X (ahu op) r)(ha:PE X a ta)(hb:PE X b tb):PE X (.BinOp a op b pos) (Kp r ta tb):=by
 intro pins s σ H Q I h;exact amD (Kr ha hb I h λv u s2 x y H2 I2 rx ry q=>ho pins s2 σ H2 x y v u Q I2 rx ry q)
theorem TL{op:UnaryOp}{r:V->Hp->VK->Prop}(ho:TJ X (unaryOp op) r)(ha:PE X a ta):PE X (.UnaryOp op a pos) (tUn r ta):=by
 intro pins s σ H Q I h;exact UnaryOp_ (cF (ha pins s σ H _ I h) λv s1 ⟨x,H1,I1,r1,q1⟩=>ho pins s1 σ H1 x v Q I1 r1 q1)
variable{g:Int->Int->Int}
theorem Ks{C:Int->Int->Prop}
  (rule:∀(i j:Int) (t u:Tok) (s:aaj) (Q:Value->aaj->Prop) (E:Value->aaj->Prop),C i j->Q (.int (g i j) s.toks) { s with toks:=s.toks+1 }->abo (abu X.prog X.w) X.A (f (.int i t) (.int j u)) Q E s):
  eW X f (rI C λi j=>.int (g i j)):=by
 intro pins s σ H x y v u Q I rx ry h;obtain⟨i,j,rfl,rfl,hc,q⟩:=h;obtain⟨t,rfl⟩:=rx;obtain⟨t',rfl⟩:=ry;exact rule i j t t' s _ _ hc ⟨.int (g i j),H,I.tok _,⟨_,rfl⟩,q⟩
theorem RL
  (rule:∀(i j:Int) (t u:Tok) (s:aaj) (Q:Value->aaj->Prop) (E:Value->aaj->Prop),Q (.int (g i j) s.toks) { s with toks:=s.toks+1 }->abo (abu X.prog X.w) X.A (f (.int i t) (.int j u)) Q E s):
  eW X f (sk λi j=>.int (g i j)):=by
 intro pins s σ H x y v u Q I rx ry h;obtain⟨i,j,rfl,rfl,q⟩:=h;obtain⟨t,rfl⟩:=rx;obtain⟨t',rfl⟩:=ry;exact rule i j t t' s _ _ ⟨.int (g i j),H,I.tok _,⟨_,rfl⟩,q⟩
theorem GR{g:Int->Int->Bool}
  (rule:∀(i j:Int) (t u:Tok) (s:aaj) (Q:Value->aaj->Prop) (E:Value->aaj->Prop),Q (.bool (g i j)) s->abo (abu X.prog X.w) X.A (f (.int i t) (.int j u)) Q E s):
  eW X f (sk λi j=>.bl (g i j)):=by
 intro pins s σ H x y v u Q I rx ry h;obtain⟨i,j,rfl,rfl,q⟩:=h;obtain⟨t,rfl⟩:=rx;obtain⟨t',rfl⟩:=ry;exact rule i j t t' s _ _ ⟨.bl (g i j),H,I,rfl,q⟩
def RM(i j:Int):Prop:=0<=j/\j<=1000000/\i.natAbs<2 ^ 64
theorem Of:eW X (ahu .Add) (sk λi j=>.int (i+j)):=RL λ_ _ _ _ _ _ _ q=>add_int q
theorem ma:eW X (ahu .Sub) (sk λi j=>.int (i - j)):=RL λ_ _ _ _ _ _ _ q=>sub_int q
theorem cV:eW X (ahu .Mod) (rI (λ_ j=>j≠0) λi j=>.int (i.fmod j)):=Ks λ_ _ _ _ _ _ _ hc q=>mod_int' hc q
theorem Bf:eW X (ahu .Pow) (rI RM λi j=>.int (i ^ j.toNat)):=Ks λ_ _ _ _ _ _ _ hc q=>pow_int_small hc.1 hc.2.1 hc.2.2 q
theorem unI{f:Value->Sem Value}{g:Int->Int}
  (rule:∀(i:Int) (t:Tok) (s:aaj) (Q:Value->aaj->Prop) (E:Value->aaj->Prop),Q (.int (g i) s.toks) { s with toks:=s.toks+1 }->abo (abu X.prog X.w) X.A (f (.int i t)) Q E s):
  TJ X f (rU λi=>.int (g i)):=by
 intro pins s σ H x v Q I rx h;obtain⟨i,rfl,q⟩:=h;obtain⟨t,rfl⟩:=rx;exact rule i t s _ _ ⟨.int (g i),H,I.tok _,⟨_,rfl⟩,q⟩
theorem Og:TJ X (unaryOp .USub) (rU λi=>.int (-i)):=unI λ_ _ _ _ _ q=>neg_int q
end
def RN:V->V->Bool
 |.aA,.aA=>true|.aA,.int _=>true|.int _,.aA=>true|.aA,.bl _=>true|.bl _,.aA=>true|.aA,.str _=>true|.str _,.aA=>true
 |.int _,.int _=>true|.bl _,.bl _=>true|.str _,.str _=>true|.ug _,.ug _=>true
 |.int _,.str _=>true|.str _,.int _=>true|.bl _,.str _=>true|.str _,.bl _=>true
 |_,_=>false
def Oh:R2:=λx y H Q=>RN x y=true/\Q (.bl (decide (x=y))) H
def TM:R2:=λx y H Q=>RN x y=true/\Q (.bl (!decide (x=y))) H
theorem CG{i j:Int}:decide (V.int i=V.int j)=(i==j):=by
 rw[agM];simp
theorem xy{i j:Bool}:decide (V.bl i=V.bl j)=(i==j):=by
 rw[agM];simp
theorem CH{i j:Str}:decide (V.str i=V.str j)=(i==j):=by
 rw[agM];simp
theorem CI{i j:Array UInt8}:decide (V.ug i=V.ug j)=(i.toList==j.toList):=by
 rw[agM];cases i;cases j;simp
section
variable{X:Cx}{a b c:acu}{ta tb tc:TE}{pos:Pos}
theorem cD{pins:List (Addr×Obj)}{σ:St}{H:Hp}{s:aaj}{Q:VK}{k k':Bool}(I:Inv X pins σ H s)(q:Q (.bl k) H)(e:k=k'):EP X pins σ Q (.bool k') s:=by
 subst e;exact⟨.bl k,H,I,rfl,q⟩
theorem TN:eW X (agq .Eq) Oh:=by
 intro pins s σ H x y v u Q I rx ry h;obtain⟨hs,q⟩:=h;cases x with
 |aA=>
  cases rx;cases y with
  |aA=>cases ry;exact PySem.EqNone.eq_none_none (cD I q (by simp))
  |bl j=>cases ry;exact PySem.EqNone.eq_none_bool (cD I q (by simp))
  |int j=>obtain⟨t',rfl⟩:=ry;exact PySem.EqNone.eq_none_int (cD I q (by simp))
  |str j=>obtain⟨t',rfl⟩:=ry;exact PySem.EqNone.eq_none_str (cD I q (by simp))
  |_=>exact absurd (show false=true from hs) abh
 |bl i=>
  cases rx;cases y with
  |aA=>cases ry;exact PySem.EqNone.eq_bool_none (cD I q (by simp))
  |bl j=>cases ry;exact eq_bool (cD I q xy)
  |str j=>obtain⟨t',rfl⟩:=ry;exact PySem.EqMixed.eq_bool_str (cD I q (by simp))
  |_=>exact absurd (show false=true from hs) abh
 |int i=>
  obtain⟨t,rfl⟩:=rx;cases y with
  |aA=>cases ry;exact PySem.EqNone.eq_int_none (cD I q (by simp))
  |int j=>obtain⟨t',rfl⟩:=ry;exact eq_int (cD I q CG)
  |str j=>obtain⟨t',rfl⟩:=ry;exact PySem.EqMixed.eq_int_str (cD I q (by simp))
  |_=>exact absurd (show false=true from hs) abh
 |str i=>
  obtain⟨t,rfl⟩:=rx;cases y with
  |aA=>cases ry;exact PySem.EqNone.eq_str_none (cD I q (by simp))
  |bl j=>cases ry;exact PySem.EqMixed.eq_str_bool (cD I q (by simp))
  |int j=>obtain⟨t',rfl⟩:=ry;exact PySem.EqMixed.eq_str_int (cD I q (by simp))
  |str j=>obtain⟨t',rfl⟩:=ry;exact eq_str (cD I q CH)
  |_=>exact absurd (show false=true from hs) abh
 |ug i=>
  obtain⟨t,rfl⟩:=rx;cases y with
  |ug j=>obtain⟨t',rfl⟩:=ry;exact PySem.W.eq_bytes (cD I q CI)
  |_=>exact absurd (show false=true from hs) abh
 |_=>cases y<;>exact absurd (show false=true from hs) abh
theorem TR:eW X (agq .NotEq) TM:=by
 intro pins s σ H x y v u Q I rx ry h;obtain⟨hs,q⟩:=h;cases x with
 |aA=>
  cases rx;cases y with
  |aA=>cases ry;exact PySem.EqNone.ne_none_none (cD I q (by simp))
  |bl j=>cases ry;exact PySem.EqNone.ne_none_bool (cD I q (by simp))
  |int j=>obtain⟨t',rfl⟩:=ry;exact PySem.EqNone.ne_none_int (cD I q (by simp))
  |str j=>obtain⟨t',rfl⟩:=ry;exact PySem.EqNone.ne_none_str (cD I q (by simp))
  |_=>exact absurd (show false=true from hs) abh
 |bl i=>
  cases rx;cases y with
  |aA=>cases ry;exact PySem.EqNone.ne_bool_none (cD I q (by simp))
  |bl j=>cases ry;exact ne_bool (cD I q (congrArg not xy))
  |str j=>obtain⟨t',rfl⟩:=ry;exact PySem.EqMixed.ne_bool_str (cD I q (by simp))
  |_=>exact absurd (show false=true from hs) abh
 |int i=>
  obtain⟨t,rfl⟩:=rx;cases y with
  |aA=>cases ry;exact PySem.EqNone.ne_int_none (cD I q (by simp))
  |int j=>obtain⟨t',rfl⟩:=ry;exact ne_int (cD I q (congrArg not CG))
  |str j=>obtain⟨t',rfl⟩:=ry;exact PySem.EqMixed.ne_int_str (cD I q (by simp))
  |_=>exact absurd (show false=true from hs) abh
 |str i=>
  obtain⟨t,rfl⟩:=rx;cases y with
  |aA=>cases ry;exact PySem.EqNone.ne_str_none (cD I q (by simp))
  |bl j=>cases ry;exact PySem.EqMixed.ne_str_bool (cD I q (by simp))
  |int j=>obtain⟨t',rfl⟩:=ry;exact PySem.EqMixed.ne_str_int (cD I q (by simp))
  |str j=>obtain⟨t',rfl⟩:=ry;exact ne_str (cD I q (congrArg not CH))
  |_=>exact absurd (show false=true from hs) abh
 |ug i=>
  obtain⟨t,rfl⟩:=rx;cases y with
  |ug j=>obtain⟨t',rfl⟩:=ry;exact PySem.W.ne_bytes (cD I q (congrArg not CI))
  |_=>exact absurd (show false=true from hs) abh
 |_=>cases y<;>exact absurd (show false=true from hs) abh
theorem oG:eW X (agq .Lt) (sk λi j=>.bl (decide (i<j))):=GR λ_ _ _ _ _ _ _ q=>lt_int q
theorem Kt:eW X (agq .LtE) (sk λi j=>.bl (decide (i<=j))):=GR λ_ _ _ _ _ _ _ q=>le_int q
theorem EU:eW X (agq .Gt) (sk λi j=>.bl (decide (j<i))):=GR λ_ _ _ _ _ _ _ q=>gt_int q
theorem TU:eW X (agq .GtE) (sk λi j=>.bl (decide (j<=i))):=GR λ_ _ _ _ _ _ _ q=>ge_int q
theorem xW:eW X (agq .In) (λx y H Q=>∃i j,x= .str i/\y= .str j/\Q (.bl (!(abv j i 0 j.length 1).isEmpty)) H):=by
 intro pins s σ H x y v u Q I rx ry h;obtain⟨i,j,rfl,rfl,q⟩:=h;obtain⟨t,rfl⟩:=rx;obtain⟨t',rfl⟩:=ry;exact in_str (cD I q rfl)
theorem rF:eW X (agq .Is) (λx y H Q=>y= .aA/\Q (.bl (decide (x= .aA))) H):=by
 intro pins s σ H x y v u Q I rx ry h;obtain⟨rfl,q⟩:=h;cases ry;refine is_none_gen (cD I q ?_);cases x<;>first
  |(cases rx;rfl)
  |(obtain⟨t,rfl⟩:=rx;rfl)
variable{r:R2}
theorem eW.or{f:Value->Value->Sem Value}{r':R2}(h:eW X f r)(h':eW X f r'):eW X f (λx y H Q=>r x y H Q\/r' x y H Q):=by
 intro pins s σ H x y v u Q I rx ry q;rcases q with q|q
 .exact h pins s σ H x y v u Q I rx ry q
 .exact h' pins s σ H x y v u Q I rx ry q
variable{op:amZ}
theorem aR(b:acu)(h:op≠.In:=by decide)(h2:op≠.NotIn:=by decide):agX op b=false:=by
 have e1:(op==CmpOp.In)=false:=by cases op<;>first|rfl|exact absurd rfl h
 have e2:(op==CmpOp.NotIn)=false:=by cases op<;>first|rfl|exact absurd rfl h2
 cases b<;>simp[agX,e1,e2]
theorem CJ(ho:eW X (agq op) r)(ha:PE X a ta)(hb:PE X b tb)(hm:agX op b=false):PE X (.Compare a [op] [b] pos) (Kp r ta tb):=by
 intro pins s σ H Q I h;exact wpAny_Compare1 (Kr ha hb I h λv u s2 x y H2 I2 rx ry q=>ho pins s2 σ H2 x y v u Q I2 rx ry q) hm
def TV(t:TE):TT:=λσ H Q=>t σ H λx H'=>∃k,x= .bl k/\Q k H'
theorem Ku(ho:eW X (agq op) r)(ha:PE X a ta)(hb:PE X b tb)(hm:agX op b=false):PT X (.Compare a [op] [b] pos) (TV (Kp r ta tb)):=by
 intro pins s σ H Q I h;refine akv (cF (ha pins s σ H _ I h) λv s1 ⟨x,H1,I1,r1,q1⟩=>cF (hb pins s1 σ H1 _ I1 q1) λu s2 ⟨y,H2,I2,r2,q2⟩=>
  cF (ho pins s2 σ H2 x y v u _ I2 r1 r2 q2) λc s3 ⟨z,H3,I3,r3,k,e,q3⟩=>?_) hm
 subst e;cases r3;exact agH ⟨H3,I3,q3⟩
def GS(r r':R2)(ta tb tc:TE):TE:=λσ H Q=>ta σ H λx H1=>tb σ H1 λy H2=>r x y H2 λz H3=>∃k,z= .bl k/\
 (if k=true then tc σ H3 λw' H4=>r' y w' H4 Q else Q (.bl false) H3)
theorem Io{EV:amZ}{r':R2}(ho:eW X (agq op) r)(xS:eW X (agq EV) r')(ha:PE X a ta)(hb:PE X b tb)(hc:PE X c tc)
  (hm:lastMarks [op,EV] [b,c]=false:=by with_unfolding_all rfl):PE X (.Compare a [op,EV] [b,c] pos) (GS r r' ta tb tc):=by
 intro pins s σ H Q I h;refine Compare_chain (cF (ha pins s σ H _ I h) λv s1 ⟨x,H1,I1,r1,q1⟩=>chain_link (cF (hb pins s1 σ H1 _ I1 q1) λu s2 ⟨y,H2,I2,r2,q2⟩=>
  cF (ho pins s2 σ H2 x y v u _ I2 r1 r2 q2) λd s3 ⟨z,H3,I3,r3,k,e,q3⟩=>?_)) hm
 subst e;cases r3;refine agH ?_;cases k with
 |false=>exact ite_ff ⟨.bl false,H3,I3,rfl,q3⟩
 |true=>exact ite_tt (chain_last (cF (hc pins s3 σ H3 _ I3 q3) λw' s4 ⟨z',H4,I4,r4,q4⟩=>xS pins s4 σ H4 y z' u w' Q I4 r2 r4 q4))
def RO(K:aaa)(x:V)(H:Hp)(k:Bool):Prop:=
 match x with
 |.aA=>k=false
 |.bl b=>k=b
 |.int i=>k=(i != 0)
 |.str y=>y.length<=sizeLine/\k=((y.length:Int) != 0)
 |.ug y=>y.size<=sizeLine/\k=((y.size:Int) != 0)
 |.ref p=>(∃xs,dX K H p xs/\k= !xs.isEmpty)\/(∃xs,ja K H p xs/\k= !xs.isEmpty)\/∃aP,H p=aa (.dK aP)/\k= !aP.isEmpty
 |_=>False
theorem CK{κ:Type}{aP:List (κ×V)}{vs:List (κ×Value)}(r:KV aP vs):(!vs.isEmpty)= !aP.isEmpty:=by
 cases r<;>rfl
theorem wm{xs:List V}{its:List Value}(r:Vals xs its):(!its.toArray.isEmpty)= !xs.isEmpty:=by
 cases r<;>simp
theorem oH:(sizeLine:Nat)<2 ^ 63:=by rw[adt];decide
theorem Oi:ZJ X (λx H Q=>∃k,RO X.K x H k/\Q k H):=by
 intro pins s σ H x v Q I rx h;obtain⟨k,e,q⟩:=h;have hl:=oH;have hs:sizeLine=16777216:=adt;cases x with
 |aA=>
  cases rx;have e':k=false:=e;subst e';exact truthy_none ⟨H,I,q⟩
 |bl b=>
  cases rx;have e':k=b:=e;subst e';exact agH ⟨H,I,q⟩
 |int i=>
  obtain⟨t,rfl⟩:=rx;have e':k=(i != 0):=e;subst e';exact PySem.P.truthy_int ⟨H,I,q⟩
 |str y=>
  obtain⟨t,rfl⟩:=rx;obtain⟨hy,e'⟩:y.length<=sizeLine/\k=((y.length:Int) != 0):=e;subst e';exact PySem.P.truthy_str (by omega) ⟨H,I.tok _,q⟩
 |ug y=>
  obtain⟨t,rfl⟩:=rx;obtain⟨hy,e'⟩:y.size<=sizeLine/\k=((y.size:Int) != 0):=e;subst e';exact PySem.W.truthy_bytes (by omega) ⟨H,I.tok _,q⟩
 |ref p=>
  cases rx;have e':(∃xs,dX X.K H p xs/\k= !xs.isEmpty)\/(∃xs,ja X.K H p xs/\k= !xs.isEmpty)\/∃aP,H p=aa (.dK aP)/\k= !aP.isEmpty:=e;rcases e' with⟨xs,hx,e'⟩|⟨xs,hx,e'⟩|⟨aP,hx,e'⟩
  .subst e'
   obtain⟨its,r,pl,hz⟩:=I.list hx;have hlen:=r.length;exact wpAny_truthy_list pl.isList (by simp only[aa3];omega) ⟨H,I.tok _,by rw[wm r];exact q⟩
  .subst e'
   obtain⟨its,r,pl,hz⟩:=I.tuple hx;have hlen:=r.length;exact truthy_tuple pl (by simp only[aa3];omega) ⟨H,I.tok _,by rw[wm r];exact q⟩
  .subst e'
   obtain⟨hz,hS,vs,r,m⟩:aP.length<=sizeLine/\(p==ahQ)=false/\∃vs,KV aP vs/\s.heap.DictOf (d7 X.prog X.w) p vs:=I.bB p _ hx;have hlen:aP.length=vs.length:=alm r;exact wpAny_truthy_dict hS m (by omega) ⟨H,I.tok _,by rw[CK r];exact q⟩
 |_=>exact(show False from e).elim
theorem Ip(ha:PE X a ta)(he:∀whole,amB a X.env whole=(do let v <-whole;amC a.pos;aj3 [v] (truthy v))):
  PT X a (λσ H Q=>ta σ H λx H'=>∃k,RO X.K x H' k/\Q k H'):=by
 intro pins s σ H Q I h;exact isTrue_plain (cF (ha pins s σ H _ I h) λv s1 ⟨x,H1,I1,r1,q1⟩=>Oi pins s1 σ H1 x v Q I1 r1 q1) (he _)
theorem eu:eW X (ahu .Add) (λx y H Q=>∃i j,x= .str i/\y= .str j/\i.length+j.length<=sizeLine/\Q (.str (i++j)) H):=by
 intro pins s σ H x y v u Q I rx ry h;obtain⟨i,j,rfl,rfl,hz,q⟩:=h;obtain⟨t,rfl⟩:=rx;obtain⟨t',rfl⟩:=ry;exact add_str (λt' tk=>⟨.str (i++j),H,I.tok _,⟨_,rfl⟩,q⟩) hz
theorem vals1{x:V}{us:List Value}(r:Vals [x] us):∃u,us=[u]/\RelV x u:=by
 cases r with
 |cons r1 r2=>cases r2;exact⟨_,rfl,r1⟩
theorem vals2{x y:V}{us:List Value}(r:Vals [x,y] us):∃u w',us=[u,w']/\RelV x u/\RelV y w':=by
 cases r with
 |cons r1 r2=>
  cases r2 with
  |cons r3 r4=>cases r4;exact⟨_,_,rfl,r1,r3⟩
theorem rG:fV X (.builtin "abs") (λxs H Q=>∃i,xs=[.int i]/\Q (.int (if i<0 then -i else i)) H):=by
 intro pins s σ H xs us Q I r h;obtain⟨i,rfl,q⟩:=h;obtain⟨u,rfl,t,rfl⟩:=vals1 r;exact call_abs_int λu tk=>⟨.int (if i<0 then -i else i),H,I.tok _,⟨_,rfl⟩,q⟩
theorem EW(hc:X.calm=true):fV X (.builtin "max") (λxs H Q=>∃i j,xs=[.int i,.int j]/\Q (.int (if j > i then j else i)) H):=by
 intro pins s σ H xs us Q I r h;obtain⟨i,j,rfl,q⟩:=h;obtain⟨u,w',rfl,⟨t,rfl⟩,⟨t',rfl⟩⟩:=vals2 r;refine max_two_ints (I.ok.hd hc) λh' tk k=>⟨_,H,I.kept k,?_,q⟩
 by_cases hj:j > i
 .rw[if_pos hj,if_pos hj];exact⟨_,rfl⟩
 .rw[if_neg hj,if_neg hj];exact⟨_,rfl⟩
theorem EX(hc:X.calm=true):fV X (.builtin "min") (λxs H Q=>∃i j,xs=[.int i,.int j]/\Q (.int (if j<i then j else i)) H):=by
 intro pins s σ H xs us Q I r h;obtain⟨i,j,rfl,q⟩:=h;obtain⟨u,w',rfl,⟨t,rfl⟩,⟨t',rfl⟩⟩:=vals2 r;refine min_two_ints (I.ok.hd hc) λh' tk k=>⟨_,H,I.kept k,?_,q⟩
 by_cases hj:j<i
 .rw[if_pos hj,if_pos hj];exact⟨_,rfl⟩
 .rw[if_neg hj,if_neg hj];exact⟨_,rfl⟩
theorem sX:fV X (.type "int") (λxs H Q=>(∃i,xs=[.int i]/\Q (.int i) H)\/∃k,xs=[.bl k]/\Q (.int (if k then 1 else 0)) H):=by
 intro pins s σ H xs us Q I r h;rcases h with⟨i,rfl,q⟩|⟨k,rfl,q⟩
 .obtain⟨u,rfl,t,rfl⟩:=vals1 r
  exact call_int_int ⟨.int i,H,I,⟨_,rfl⟩,q⟩
 .obtain⟨u,rfl,r1⟩:=vals1 r
  cases r1;exact call_int_bool ⟨.int (if k then 1 else 0),H,I.tok _,⟨_,rfl⟩,q⟩
theorem jO:fV X (.type "str") (λxs H Q=>∃i,xs=[.int i]/\i.natAbs.log2<1920/\Q (.str (toString i)) H):=by
 intro pins s σ H xs us Q I r h;obtain⟨i,rfl,hz,q⟩:=h;obtain⟨u,rfl,t,rfl⟩:=vals1 r;exact PySem.P.str_of_int hz ⟨.str _,H,I.tok _,⟨_,rfl⟩,q⟩
end
end L2
namespace L2
open PySem PySem.Spec PyProof.Rows
structure Kv(h:Heap)(x dx C:Addr)(mA:Str->Option Value):Prop where
 obj:h.get? x=aa (akt C dx)
 ns:h.Ns1 dx mA
 ne:dx≠x
variable{mA:Str->Option Value}
theorem EY{h:Heap}{dx:Addr}(n:h.Ns1 dx mA):∃od,h.get? dx=aa od/\∀name,akW name od=aa (mA name):=by
 obtain⟨o,es,ep,ho,hd,hk,_,hm⟩:=n;refine⟨o,ho,λname=>?_⟩;have e:=hm name;unfold nsFind findBy at e;rw[<-ajr]at e;unfold akW;rw[hd];dsimp only
 split
 .rename_i y q
  rw[q]at e;exact congrArg aa e
 .rename_i q
  rw[q]at e;have a:es.toList.any (·.refKey)=false:=by
   rw[List.any_eq_false];intro y hy;obtain⟨z,t,ZK⟩:=hk y (Array.mem_toList_iff.mp hy);simp[DictEntry.refKey,ZK]
  have a':¬es.toList.any (·.refKey)=true:=by rw[a];exact abh
  rw[if_neg a'];exact congrArg aa e
theorem Kv.look{h:Heap}{x dx C:Addr}(I:Kv h x dx C mA):∃od,PySem.W.InstAt h x (akt C dx) C (aa od)/\∀name,akW name od=aa (mA name):=
 let ⟨od,ho,hl⟩:=EY I.ns
 ⟨od,⟨I.obj,rfl,rfl,ho⟩,hl⟩
section
variable{prog:Program}{w:abZ}{A:abL}{E:Value->aaj->Prop}{s:aaj}{K:aaa}{x dx C f:Addr}{mA:Str->Option Value}{name:Str}{v:Value}
end
theorem uh.some_of{v:V}{o:Option Value}(r:uh (aa v) o):∃u,o=aa u/\RelV v u:=by
 cases o with
 |none=>exact(show False from r).elim
 |some u=>exact⟨u,rfl,r⟩
theorem EZ{v:V}{u:Value}(r:RelV v u):PySem.W.handedIn u=true:=by
 cases v with
 |aA=>cases (show u=ag3 from r);rfl
 |bl b=>cases (show u=ai1 b from r);rfl
 |int i=>obtain⟨t,e⟩:=(show ∃t,u=ah4 i t from r);cases e;rfl
 |str x=>obtain⟨t,e⟩:=(show ∃t,u=ag0 x t from r);cases e;rfl
 |ug b=>obtain⟨t,e⟩:=(show ∃t,u=Value.bytes b t from r);cases e;rfl
 |EH b=>obtain⟨t,e⟩:=(show ∃t,u=amz b t from r);cases e;rfl
 |ref a=>cases (show u=abm a from r);rfl
 |ty n=>cases (show u=ahP n from r);rfl
section
variable{P:Program}{w:abZ}{H H':Hp}{h h':Heap}{a C dx:Addr}{fs fs':List (Str×V)}
theorem Kw(bB:ip P w H h)(e:H a=aa (.ins C dx fs)):∃mA,Kv h a dx C mA/\(∀f,uh (fs.lookup f) (mA f))/\am8 mA (fs.map (·.1))/\fs.length<=1000/\H dx=aa (.own a):=by
 obtain⟨d,z,ne,ob,mA,n,r,q⟩:=(show cH P w H h a (.ins C dx fs)from bB a _ e);exact⟨mA,⟨ob,n,ne⟩,r,q,z,d⟩
end
structure TX(K:aaa)(C:Addr):Prop where
 pg:amg K C aij=true
 hd:PySem.W.hasDictIn K C=true
 po:PySem.W.plainOver K C=true
 sa:ahn K (.ref C) "__setattr__" =aa (aa (.builtin "object.__setattr__"))
theorem TX.get{K:aaa}{C:Addr}(c:TX K C)(f:Str):amg K C f=true:=c.pg
section
variable{X:Cx}{pins:List (Addr×Obj)}{σ:St}{H:Hp}{s:aaj}{a C dx:Addr}{fs:List (Str×V)}{f:Str}{v:V}{A:abL}{E:Value->aaj->Prop}
theorem Kx{prog:Program}{w:abZ}{env:Env}{e:acu}{f:Str}{pos:Pos}{s:aaj}{Q:Value->aaj->Prop}(hb:ahc e f env (ahx e env)=ahx e env)
  (h:abo (abu prog w) A (ahx e env) (λo cA=>abo (abu prog w) A (getAttr o f true) Q E cA) E s):abo (abu prog w) A (ahx (.Attribute e f pos) env) Q E s:=
 Attribute_any_ h (by rw[arm_eval_Attribute,hb])
end
section
variable{X:Cx}{o e value:acu}{f:Str}{pos pos' Ky:Pos}{ta tv:TE}
end
section
variable{X:Cx}{pins:List (Addr×Obj)}{σ:St}{H:Hp}{s:aaj}{A:abL}{E:Value->aaj->Prop}{Q:Value->aaj->Prop}{c:Value}{b:Bool}
inductive me(K:aaa)(H:Hp):V->Value->Prop where
 |aA:me K H .aA (.type "NoneType")
 |bl (x:Bool):me K H (.bl x) (.type "bool")
 |int (i:Int):me K H (.int i) (.type "int")
 |str (x:Str):me K H (.str x) (.type "str")
 |EH (x:UInt64):me K H (.EH x) (.type "float")
 |lst {a:Addr}{xs:List V} (e:H a=aa (.lst xs)):me K H (.ref a) (.type "list")
 |iS {a:Addr}{o:Obj}{xs:List V} (e:H a=aa (.iS o (.lst xs))):me K H (.ref a) (.type "list")
 |tup {a:Addr}{xs:List V} (e:H a=aa (.tup xs)):me K H (.ref a) (.type "tuple")
 |dK {a:Addr}{aP:List (Key×V)} (e:H a=aa (.dK aP)):me K H (.ref a) (.type "dict")
 |dT {a:Addr}{aP:List (List Key×V)} (e:H a=aa (.dT aP)):me K H (.ref a) (.type "dict")
 |ins {a C dx:Addr}{fs:List (Str×V)} (e:H a=aa (.ins C dx fs)) (cl:TX K C) (ha:ahn K (.ref C) "__class__" =aa (aa (.builtin "object.__class__")))
   (hn:PySem.W.specialIn K (.builtin "object.__class__") "__get__" =aa (aa (.builtin "getset_descriptor.__get__"))) (ZL:PySem.W.takesIn K (.builtin "object.__class__")=aa true)
   (hm:PySem.W.mroIn K C (.type "object")=aa true):me K H (.ref a) (.ref C)
theorem E1{x:V}{u t:Value}(I:Inv X pins σ H s)(rx:RelV x u)(ty:me X.K H x t)(e:ads X.K t c=aa b)(h:∀tk,Q (.bool b) { s with toks:=tk }):
  abo (abu X.prog X.w) A (call (.builtin "isinstance") [u,c]) Q E s:=by
 cases ty with
 |aA=>cases (show u=ag3 from rx);exact ags PySem.W.kitx_none I.fP agA e (λz=>nomatch z) h
 |bl y=>cases (show u=ai1 y from rx);exact ags alU I.fP agA e (λz=>nomatch z) h
 |int i=>obtain⟨t,q⟩:=(show ∃t,u=ah4 i t from rx);cases q;exact ags amh I.fP agA e (λz=>nomatch z) h
 |str y=>obtain⟨t,q⟩:=(show ∃t,u=ag0 y t from rx);cases q;exact ags ami I.fP agA e (λz=>nomatch z) h
 |EH y=>obtain⟨t,q⟩:=(show ∃t,u=amz y t from rx);cases q;exact ags PySem.W.kitx_float I.fP agA e (λz=>nomatch z) h
 |@lst a xs ea=>
  cases (show u=abm a from rx);obtain⟨_,_,n,_,h1⟩:=(show cH X.prog X.w H s.heap a (.lst xs)from I.bB a _ ea);exact ags ajG I.fP ⟨_,h1,rfl⟩ e (λz=>nomatch z) h
 |@iS a ob xs ea=>
  cases (show u=abm a from rx);obtain⟨_,_,_,n,_,h1⟩:=(show cH X.prog X.w H s.heap a (.iS ob (.lst xs))from I.bB a _ ea);exact ags ajG I.fP ⟨_,h1,rfl⟩ e (λz=>nomatch z) h
 |@tup a xs ea=>
  cases (show u=abm a from rx);obtain⟨_,_,_,p⟩:=(show cH X.prog X.w H s.heap a (.tup xs)from I.bB a _ ea);obtain⟨o,h1,h2,_⟩:=p;exact ags alI I.fP ⟨o,h1,h2⟩ e (λz=>nomatch z) h
 |@dK a aP ea=>
  cases (show u=abm a from rx);obtain⟨_,_,vs,_,p⟩:=(show cH X.prog X.w H s.heap a (.dK aP)from I.bB a _ ea);obtain⟨o,es,ep,h1,h2,_⟩:=p;exact ags alV I.fP ⟨o,h1,h2.1⟩ e (λz=>nomatch z) h
 |@dT a aP ea=>
  cases (show u=abm a from rx);obtain⟨_,_,xs,_,o,es,ep,h1,h2,_⟩:=(show cH X.prog X.w H s.heap a (.dT aP)from I.bB a _ ea);exact ags alV I.fP ⟨o,h1,h2.1⟩ e (λz=>nomatch z) h
 |@ins a C dx fs ea cl ha hn ZL hm=>
  cases (show u=abm a from rx);obtain⟨mA,O,_⟩:=Kw I.bB ea;obtain⟨od,J,_⟩:=O.look;exact ags (PySem.W.kitx_own (cl.get _) cl.hd ha hn ZL hm) I.fP J e (λz=>nomatch z) h
end
end L2
namespace L2
open PySem PySem.Spec PyProof.Rows
structure eX(k:Nat)(A:abL):Prop where
 hd:A.handled=ae
 dp:A.depth+3*k+5<recursionLimit
 un:A.units+16*k+200<cLine
variable{A:abL}
theorem eX.mono{j k:Nat}(r:eX k A)(h:j<=k):eX j A:=⟨r.hd,by have:=r.dp;omega,by have:=r.un;omega⟩
theorem eX.deeper{k:Nat}(r:eX (k+1) A)(env:Env):eX k (A.deeper env):=
 ⟨r.hd,by have:=r.dp;show A.depth+1+3*k+5<_;omega,by have:=r.un;show A.units+3+16*k+200<_;omega⟩
variable{us:List Value}
theorem CL{C:Addr}{kw:List (Str×Value)}:(A.under (.builtin "type.__call__" ⟨.ref C::us,kw⟩)).depth=A.depth+1:=by
 first|rfl|simp[ama,Code.weight,Code.isCreation,Code.isGuard,Code.isCaller,Code.frames,amb,guardIds]
theorem CM{C:Addr}{kw:List (Str×Value)}:(A.under (.builtin "type.__call__" ⟨.ref C::us,kw⟩)).units=A.units+1:=by
 first|rfl|simp[ama,Code.cUnits,Code.frames,amb]
theorem eX.make{k:Nat}(r:eX (k+1) A)(C:Addr)(us:List Value)(kw:List (Str×Value)):eX k (A.under (.builtin "type.__call__" ⟨.ref C::us,kw⟩)):=
 ⟨r.hd,by have:=r.dp;rw[CL];omega,by have:=r.un;rw[CM];omega⟩
theorem eX.depth{k:Nat}(r:eX k A):A.depth<recursionLimit:=by have:=r.dp;omega
theorem eX.units{k:Nat}(r:eX k A):A.units+64<cLine:=by have:=r.un;omega
def ZM:TA:=λ_ H Q=>Q [] H
def TY(ta:TE)(tr:TA):TA:=λσ H Q=>ta σ H λx H1=>tr σ H1 λxs H2=>Q (x::xs) H2
section
variable{X:Cx}{e:acu}{es:List acu}{te:TE}{t:TA}{pos:Pos}
theorem GU:PA X [] ZM:=λ_ _ _ _ H Q I h=>ait ⟨[],H,I,.nil,h⟩
theorem CN(ha:PE X e te)(hr:PA X es t)(hs:aa9 (e::es) X.env=(false,ahx e X.env)::aa9 es X.env:=by rfl):PA X (e::es) (TY te t):=by
 intro pos pins s σ H Q I h;rw[hs];show abo _ _ (spliced ((false,ahx e X.env)::ahJ pos (aa9 es X.env))) _ _ s;refine ahF (cF (ha pins s σ H _ I h) λu s1 cg=>?_);obtain⟨x,H1,I1,r1,q1⟩:=cg;exact cF (hr pos pins s1 σ H1 _ I1 q1) λus s2 ⟨xs,H2,I2,r2,q2⟩=>⟨x::xs,H2,I2,.cons r1 r2,q2⟩
def ZN(t:TA):TE:=λσ H Q=>t σ H λxs H1=>xs.length<=sizeLine/\∀p,H1 p=ae->Q (.ref p) (upd H1 p (.tup xs))
def ZO(t:TA):TE:=λσ H Q=>t σ H λxs H1=>xs.length<=sizeLine/\∀p,H1 p=ae->Q (.ref p) (upd H1 p (.lst xs))
theorem Oj{x1}(h:PA X es t):PE X (.Tuple es x1 pos) (ZN t):=by
 intro pins s σ H Q I hq;refine wpAny_Tuple_spliced (cF (h pos pins s σ H _ I hq) λus s1 ⟨xs,H1,I1,r,z,q⟩=>⟨by rw[<-r.length];exact z,?_⟩);have hf:H1 s1.heap.objs.size=ae:=I1.bB.fresh (aat _);refine⟨.ref s1.heap.objs.size,upd H1 s1.heap.objs.size (.tup xs),I1.laid (t':=s1.toks) (λb u e=>aap _ e) (aat _) ?_,rfl,q _ hf⟩;exact⟨z,us,r,⟨_,abx _ rfl,rfl,_,rfl⟩⟩
theorem Ol(h:PA X es t):PE X (.List es pos) (ZO t):=by
 intro pins s σ H Q I hq;refine wpAny_List_spliced (cF (h pos pins s σ H _ I hq) λus s1 ⟨xs,H1,I1,r,z,q⟩=>⟨by rw[<-r.length];exact z,?_⟩);have hf:H1 s1.heap.objs.size=ae:=I1.bB.fresh (aat _);refine⟨.ref s1.heap.objs.size,upd H1 s1.heap.objs.size (.lst xs),I1.laid (t':=s1.toks) (λb u e=>aap _ e) (aat _) ?_,rfl,q _ hf⟩;exact⟨z,us,0,r,abx _ rfl⟩
end
abbrev Sp:=List V->Hp->VK->XK->Prop
abbrev vC:=List Env->Hp->aaj->XK->Value->aaj->Prop
structure xX(P:Program)(w:abZ)(K:aaa)(mg:Str->Option Value)(base:Heap)(A:abL)(outer:List Env)(s:aaj)(H:Hp):Prop where
 frames:A.frames=aa outer
 mod:Mod K mg base
 bs:∀b o,base.get? b=aa o->s.heap.get? b=aa o/\H b=ae
 zP:base.objs.size<=s.heap.objs.size
 nL:s.heap.FunFrames base outer
 Cw:∀b∈mQ outer,H b=ae
 bB:ip P w H s.heap
 bare:aj2 s.gens
def CE(outer:List Env)(P:Program)(w:abZ)(H:Hp)(s:aaj)(Q:VK)(u:Value)(s':aaj):Prop:=
 ∃v H',s'.os=s.os/\aj2 s'.gens/\Un (mQ outer) [] H H' s.heap s'.heap/\ip P w H' s'.heap/\RelV v u/\Q v H'
def CR(CX:vC)(outer:List Env)(P:Program)(w:abZ)(H:Hp)(s:aaj)(Q:VK)(E:XK)(r:amc)(s':aaj):Prop:=
 match r with
 |.ok (.ret u)=>CE outer P w H s Q u s'
 |.ok _=>False
 |.error e=>CX outer H s E e s'
structure bX(P:Program)(w:abZ)(K:aaa)(mg:Str->Option Value)(base:Heap)(CX:vC)(k:Nat)(f:Addr)(fd:abd)(ps:List Str)(sp:Sp):Prop where
 len:∀vs H Q E,sp vs H Q E->vs.length=ps.length
 run:∀(A:abL) (outer:List Env) (s:aaj) (H:Hp) (args:Args) (us:List Value) (vs:List V) (Q:VK) (E:XK),eX k A->xX P w K mg base A outer s H->alW s fd args (ps.zip us)->Vals vs us->sp vs H Q E->
  ai9 (abu P w) A (.call (.ref f) args) (CR CX outer P w H s Q E) s
variable{P:Program}{w:abZ}{K:aaa}{mg:Str->Option Value}{base:Heap}{ps:List Str}
theorem bX.imp{CX:vC}{k:Nat}{f:Addr}{fd:abd}{sp ZP:Sp}(F:bX P w K mg base CX k f fd ps sp)
  (h:∀vs H Q E,ZP vs H Q E->sp vs H Q E):bX P w K mg base CX k f fd ps ZP:=
 ⟨λvs H Q E q=>F.len vs H Q E (h _ _ _ _ q),λA outer s H args us vs Q E hr he hb hv hs=>F.run A outer s H args us vs Q E hr he hb hv (h _ _ _ _ hs)⟩
variable{outer:List Env}
theorem xX.make{s:aaj}{H:Hp}(e:xX P w K mg base A outer s H)(C:Addr)(us:List Value)(kw:List (Str×Value)):
  xX P w K mg base (A.under (.builtin "type.__call__" ⟨.ref C::us,kw⟩)) outer s H:=⟨by first|exact e.frames|(simpa[ama,Code.envs,amb,pushEnvs]using e.frames),e.mod,e.bs,e.zP,e.nL,e.Cw,e.bB,e.bare⟩
section
variable{X:Cx}{pins:List (Addr×Obj)}{σ:St}{H:Hp}{s s':aaj}
theorem Inv.Kz(I:Inv X pins σ H s):xX X.prog X.w X.K X.mg X.base X.A X.stack s H:=
 ⟨I.ok.frames,I.ok.mod,I.bs,ab2 I.ok.zP I.sz,I.stack,I.uj,I.bB,I.bare⟩
theorem Inv.after{Q:VK}{u:Value}(I:Inv X pins σ H s)(h:CE X.stack X.prog X.w H s Q u s'):EP X pins σ Q u s':=by
 obtain⟨v,H',os,bare,un,bB,r,q⟩:=h;obtain⟨hh,g,d,t,os'⟩:=s';obtain rfl:os'=s.os:=os;exact⟨v,H',I.call (h':=hh) (g':=g) (d':=d) (t':=t) (ch:=[]) un bB bare (λb z=>absurd z (by simp)),r,q⟩
end
def KA(sp:Sp)(sY:List V)(E:XK)(t:TA):TE:=λσ H Q=>t σ H λvs H1=>sp (vs++sY) H1 Q E
def Binds(K:aaa)(fd:abd)(ps:List Str)(ds:List Value):Prop:=
 ∀(s:aaj) (us:List Value),K.In s.heap->(us++ds).length=ps.length->alW s fd ⟨us,[]⟩ (ps.zip (us++ds))
theorem Binds.all{fd:abd}(h:∀us:List Value,us.length=ps.length->bindArgs fd ⟨us,[]⟩=pure (ps.zip us)):Binds K fd ps []:=λs us _ hl=>by
 rw[aa5]at hl |-
 exact .of_eq (h us hl)
def Passes(CX:vC)(X:Cx)(E:XK):Prop:=∀(pins:List (Addr×Obj)) (σ:St) (H:Hp) (s:aaj) (e:Value) (s':aaj),Inv X pins σ H s->CX X.stack H s E e s'->X.xe e s'
section
variable{X:Cx}{CX:vC}{k:Nat}{f C:Addr}{fd:abd}{ps:List Str}{sp:Sp}{sY:List V}{ds:List Value}{E:XK}{x m:Str}{p pos apos:Pos}{e o:acu}{es:List acu}{ta:TE}{t:TA}
theorem Om{pins:List (Addr×Obj)}{σ:St}{H:Hp}{s:aaj}{Q:VK}{us:List Value}{vs:List V}(F:bX X.prog X.w X.K X.mg X.base CX k f fd ps sp)(hr:eX k X.A)(hb:Binds X.K fd ps ds)(hd:Vals sY ds)(hx:Passes CX X E)
  (I:Inv X pins σ H s)(r:Vals vs us)(h:sp (vs++sY) H Q E):abo (abu X.prog X.w) X.A (call (.ref f) us) (EP X pins σ Q) X.xe s:=by
 have r2:Vals (vs++sY) (us++ds):=r.append hd;have hl:(us++ds).length=ps.length:=by rw[<-r2.length];exact F.len _ _ _ _ h
 refine aiu (ajs (F.run X.A X.stack s H ⟨us,[]⟩ (us++ds) (vs++sY) Q E hr I.Kz (hb s us I.fP hl) r2 h) λr s' hq=>?_);cases r with
 |error e=>exact hx pins σ H s e s' I hq
 |ok fl=>
  cases fl with
  |ret u=>exact I.after hq
  |next=>exact ahR hq
  |brk=>exact ahR hq
  |cont=>exact ahR hq
theorem CP(F:bX X.prog X.w X.K X.mg X.base CX k f fd ps sp)(hr:eX k X.A)(hg:Gl X x)(hm:X.mg x=aa (.ref f))(hk:aaJ X.K (.ref f)=true)(hb:Binds X.K fd ps ds)(hd:Vals sY ds)(hx:Passes CX X E)
  (ha:PA X (e::es) t)(mR:(x==("__debug__":Str))=false:=by decide)(he:aa9 (e::es) X.env=(false,ahx e X.env)::aa9 es X.env:=by rfl)(jZ:(ahJ pos (aa9 es X.env)).any (·.1)=false:=by rfl):
  PE X (.Call (.Name x p) (e::es) [] pos) (KA sp sY E t):=by
 intro pins s σ H Q I h;refine ag4 (qg I hg hm ?_ mR);refine ajt (h₀:=X.base) I.ok.mod.Ba hk (cF (ha pos pins s σ H _ I h) λus s1 ⟨vs,H1,I1,r,q⟩=>⟨I1.fP,?_⟩) he jZ;exact Om F hr hb hd hx I1 r q
end
section
variable{X:Cx}{CX:vC}{k:Nat}{f C:Addr}{fd:abd}{ps ks:List Str}{sp:Sp}{E:XK}{x m:Str}{p pos apos alo:Pos}{e o:acu}{es:List acu}{kws:List aik}{te ta:TE}{t tk:TA}{nm:Option Str}
variable{g:List Value->List Value->List Value}{gV:List V->List V->List V}
end
structure bg(N P:List Str)(sc:Scope):Prop where
 kind:sc.kind= .function
 co:sc.isCoroutine=false
 gen:sc.isGenerator=false
 nd:N.Nodup
 pre:N.take P.length=P
 par:∀x∈P,sc.names.lookup x=aa .local\/sc.names.lookup x=aa .cell
 Oo:∀y∈sc.names,y.2≠.free
variable{ajH:Str->Option ah9}{x:Str}
theorem xY:∀{binds:List (Str×Value)}{m:Str->Option Value},(∀v,(x,v)∉binds)->bindL ajH binds m x=m x
 |[],_,_=>rfl
 |(n,v)::r,m,h=>by
  unfold bindL;rw[xY λw hw=>h w (aay _ hw)];split
  .have:x≠n:=by rintro rfl;exact h v aa7
   simp[this]
  .rfl
theorem xZ:∀{binds:List (Str×Value)}{m:Str->Option Value},(∀v,(x,v)∉binds)->bindC ajH binds m x=m x
 |[],_,_=>rfl
 |(n,v)::r,m,h=>by
  unfold bindC;rw[xZ λw hw=>h w (aay _ hw)];split
  .rfl
  .have:x≠n:=by rintro rfl;exact h v aa7
   simp[this]
theorem x5{v:Value}:∀{P:List Str}{vs:List Value}{i:Nat}{m:Str->Option Value},P.Nodup->P[i]? =aa x->vs[i]? =aa v->ajH x=aa .local->
  bindL ajH (P.zip vs) m x=aa v
 |[],_,_,_,_,h,_,_=>by simp at h
 |_::_,[],_,_,_,_,h,_=>by simp at h
 |p::P,w::vs,0,m,nd,h1,h2,hk=>by
  simp at h1 h2;subst h1;subst h2;show bindL ajH ((p,w)::P.zip vs) m p=_;unfold bindL;rw[xY λv hv=>(ahK.mp nd).1 (aky hv).1,if_pos hk];simp
 |p::P,w::vs,i+1,m,nd,h1,h2,hk=>by
  show bindL ajH ((p,w)::P.zip vs) m x=_;unfold bindL;exact x5 (i:=i) (ahK.mp nd).2 (by simpa using h1) (by simpa using h2) hk
theorem x8{v:Value}:∀{P:List Str}{vs:List Value}{i:Nat}{m:Str->Option Value},P.Nodup->P[i]? =aa x->vs[i]? =aa v->ajH x≠aa .local->
  bindC ajH (P.zip vs) m x=aa v
 |[],_,_,_,_,h,_,_=>by simp at h
 |_::_,[],_,_,_,_,h,_=>by simp at h
 |p::P,w::vs,0,m,nd,h1,h2,hk=>by
  simp at h1 h2;subst h1;subst h2;show bindC ajH ((p,w)::P.zip vs) m p=_;unfold bindC;rw[xZ λv hv=>(ahK.mp nd).1 (aky hv).1,if_neg hk];simp
 |p::P,w::vs,i+1,m,nd,h1,h2,hk=>by
  show bindC ajH ((p,w)::P.zip vs) m x=_;unfold bindC;exact x8 (i:=i) (ahK.mp nd).2 (by simpa using h1) (by simpa using h2) hk
def start(N:List Str)(vs:List V):St:=vs.map aa++aaL (N.length - vs.length) ae
def mf(CX:vC)(P:Program)(w:abZ)(K:aaa)(mg:Str->Option Value)(base:Heap)(N:List Str)(qual:Str)(scope:Scope)(f:Addr)(cd:Value)(A:abL)(outer:List Env)(s:aaj)(H:Hp)(E:XK):Cx where
 prog:=P
 w:=w
 K:=K
 mg:=mg
 base:=base
 A:=A.deeper (aja qual scope s.heap.objs.size f cd)
 N:=N
 bR:=s
 dP:=H
 env:=aja qual scope s.heap.objs.size f cd
 outer:=outer
 stack:=aja qual scope s.heap.objs.size f cd::outer
 ex:=[]
 calm:=true
 fn:=λ_=>true
 pn:=[]
 xe:=λe s'=>abo (abu P w) (A.deeper (aja qual scope s.heap.objs.size f cd)) (leaving (aja qual scope s.heap.objs.size f cd) e) (λ_ TZ=>CX outer H s E e TZ) (λe' TZ=>CX outer H s E e' TZ) s'
theorem Am{sc:Scope}{n:Nat}(h:sc.names.lookup x=aa .cell):∃c,(cellsFrom n sc.names []).lookup x=aa c:=by
 have q:=akl sc.names n [] (.inl h);exact ajL.mp q
variable{scope:Scope}
theorem E2{CX:vC}{N:List Str}{qual:Str}{f:Addr}{cd:Value}{s s1:aaj}{H:Hp}{E:XK}{vs:List V}
  (S:bg N ps scope)(hd:A.handled=ae)(e0:xX P w K mg base A outer s H)(hl:vs.length=ps.length)(r:Vals vs us)
  (x:InCallC s s.heap.objs.size (bindL (aja qual scope s.heap.objs.size f cd).kindOf (ps.zip us) λ_=>ae) (cellsFrom (s.heap.objs.size+1) scope.names []) (bindC (aja qual scope s.heap.objs.size f cd).kindOf (ps.zip us) λ_=>ae) s1):
  Inv (mf CX P w K mg base N qual scope f cd A outer s H E) [] (start N vs) H s1:=by
 have jZ:ps.length<=N.length:=by have:=congrArg aic S.pre;rw[ahz]at this;omega
 obtain⟨h1,tk,rfl,hk⟩:=x.done;have KC:∀b:Addr,b∉(mf CX P w K mg base N qual scope f cd A outer s H E).ex:=λb z=>absurd (show b∈([]:List Addr)from z) (by simp)
 refine⟨⟨e0.mod,S.kind,rfl,rfl,aat _,λy z c h1 h2=>?_,λy hy=>?_,λy c _ h=>?_,λ_=>hd,Around.frames_deeper e0.frames,.inr ⟨rfl,rfl⟩,λb z=>absurd z (KC b),e0.bs,e0.zP,λb _ _=>KC b,λb z=>absurd z (KC b),e0.nL,e0.Cw⟩,
  rfl,e0.bare,Un.kept hk,⟨_,x.toInCall.ns,λi y v h1 h2 h3=>?_⟩,λy c h=>⟨_,x.cell y c h⟩,e0.bB.fresh (aat _),λy c h=>?_,λp hp=>absurd (show p∈([]:List (Addr×Obj))from hp) (by simp),e0.bB.kept hk,?_⟩
 .exact name_of_addr x.apart (ahv h1) (ahv h2)
 .have hy:scope.names.lookup y=aa .cell\/scope.names.lookup y=aa .free:=hy
  rcases hy with hy|hy
  .exact Am hy
  .exact absurd rfl (S.Oo _ (ahv hy))
 .exact al9 (x.above y c (ahv h))
 .have hi:i<vs.length:=by
   unfold start at h2
   by_cases hi:i<vs.length
   .exact hi
   .rw[agP (by simpa using hi)]at h2
    rw[List.getElem?_replicate]at h2;split at h2<;>cases h2
  have ha:vs[i]? =aa v:=by
   unfold start at h2;rw[abi (by simpa using hi),aa6]at h2;cases e:vs[i]? with
   |none=>rw[e]at h2;cases h2
   |some a=>rw[e]at h2;cases h2;rfl
  obtain⟨u,hu,rv⟩:=r.get ha;have hp:ps[i]? =aa y:=by
   rw[<-S.pre,List.getElem?_take_of_lt (by omega)];exact h1
  have ZQ:ps.Nodup:=by rw[<-S.pre];exact S.nd.sublist (List.take_sublist _ _)
  refine⟨u,rv,?_⟩;rcases S.par y (aa8 hp)with k|k
  .exact .inl ⟨k,x5 ZQ hp hu k⟩
  .obtain⟨c,e⟩:=Am (n:=s.heap.objs.size+1) k
   refine .inr ⟨.inl k,c,e,?_⟩;have q:=x.cell y c e;rw[x8 ZQ hp hu (by show scope.names.lookup y≠_;rw[k];decide)]at q;exact q
 .exact .inl (e0.bB.fresh (al9 (x.above y c (ahv h))))
 .unfold start
  show _=N.length;rw[aaf,aaE,ahL];omega
theorem E3{CX:vC}{k:Nat}{f:Addr}{name qual:Str}{params:Arguments}{body:List Stmt}{dV kV doc pm bS ct oc:Value}{an od:Option Addr}
  {sZ:Array (Option Value)}{N:List Str}{sp:Sp}(lk:K.lookup f=aa ⟨oc,od,.func (aa2 name qual params body scope dV kV doc pm an bS ct),sZ⟩)(sV:aaM K bS qual=true)(S:bg N ps scope)
  (len:∀vs H Q E,sp vs H Q E->vs.length=ps.length)
  (kW:∀(A:abL) (outer:List Env) (s:aaj) (H:Hp) (vs:List V) (Q:VK) (E:XK),eX k (A.deeper (aja qual scope s.heap.objs.size f bS))->sp vs H Q E->
   ∃t,nM (mf CX P w K mg base N qual scope f bS A outer s H E) body t/\t { nx:=λ_ H'=>Q .aA H',rt:=Q } (start N vs) H):
  bX P w K mg base CX (k+1) f (aa2 name qual params body scope dV kV doc pm an bS ct) ps sp:=by
 refine⟨len,λA outer s H args us vs Q E hr e0 hb r s_=>?_⟩;have hl:=len _ _ _ _ s_;have KX:K.In s.heap:=e0.mod.Ba.keeps λb o e=>(e0.bs b o e).1
 have lim:s.heap.NoLimit:=e0.mod.nolimit.keeps λb o e=>(e0.bs b o e).1
 have T1:∀y∈ps.zip us,scope.names.lookup y.1=aa .local\/(scope.names.lookup y.1=aa .cell/\((cellsFrom (s.heap.objs.size+1) scope.names []).lookup y.1).isSome=true):=by
  rintro⟨n,v⟩ hy;rcases S.par n (aky hy).1 with q|q
  .exact .inl q
  .exact .inr ⟨q,akl _ _ _ (.inl q)⟩
 refine codeAny_call_function hr.depth (KX _ _ lk) rfl S.co S.gen rfl (PySem.W.codeRec_of KX sV) (hb _ _ _ _ ?_);refine wpAny_newFunctionEnv_cells S.kind T1 λenv he s1 x=>?_
 subst he;refine⟨lim.keeps x.toInCall.keep,codeAny_func ?_⟩;obtain⟨t,ht,hq⟩:=kW A outer s H vs Q E (hr.deeper _) s_;have I:Inv (mf CX P w K mg base N qual scope f bS A outer s H E) [] (start N vs) H s1:=E2 S hr.hd e0 hl r x;refine acd (ht [] s1 (start N vs) H _ I hq) (λfl s' hs=>?_) λe s' hs=>hs
 have fin:∀{σ':St}{H':Hp}{v:V}{u:Value},Inv (mf CX P w K mg base N qual scope f bS A outer s H E) [] σ' H' s'->RelV v u->Q v H'->CE outer P w H s Q u s':=
  λ{σ' H' v u} J rv q=>⟨v,H',J.os,J.bare,J.base,J.bB,rv,q⟩
 cases fl with
 |ret u=>
  obtain⟨v,σ',H',J,rv,q⟩:=hs;exact fin J rv q
 |next=>
  obtain⟨σ',H',J,q⟩:=hs;exact fin (v:=V.aA) (u:=ag3) J rfl q
 |brk=>
  obtain⟨_,_,_,q⟩:=hs;exact ahR q
 |cont=>
  obtain⟨_,_,_,q⟩:=hs;exact ahR q
end L2
namespace L2
open PySem PySem.Spec PyProof.Rows
section
variable{X:Cx}{x:Str}{p pos:Pos}{e:acu}{es:List acu}{t:TA}{id T:String}{r:List V->Hp->VK->Prop}
def T2(r:List V->Hp->VK->Prop)(t:TA):TE:=λσ H Q=>t σ H λvs H1=>r vs H1 Q
theorem Iq(hc:fV X (.builtin id) r)(hg:Gl X x)(hm:X.mg x=ae)(hv:ab1 x=aa (.builtin id))(ha:PA X (e::es) t)(hn:x≠"__name__":=by decide)(mR:(x==("__debug__":Str))=false:=by decide)
  (he:aa9 (e::es) X.env=(false,ahx e X.env)::aa9 es X.env:=by rfl)(jZ:(ahJ pos (aa9 es X.env)).any (·.1)=false:=by rfl):PE X (.Call (.Name x p) (e::es) [] pos) (T2 r t):=by
 intro pins s σ H Q I h;refine ag4 (oA I hg hm hv ?_ hn mR);exact PyProof.Rows.callWith_builtin1 (cF (ha pos pins s σ H _ I h) λus s1 ⟨vs,H1,I1,r1,q1⟩=>hc pins s1 σ H1 vs us Q I1 r1 q1) he jZ
theorem E4(hc:fV X (.type T) r)(hg:Gl X x)(hm:X.mg x=ae)(hv:ab1 x=aa (.type T))(ha:PA X (e::es) t)(hn:x≠"__name__":=by decide)(mR:(x==("__debug__":Str))=false:=by decide)
  (he:aa9 (e::es) X.env=(false,ahx e X.env)::aa9 es X.env:=by rfl)(jZ:(ahJ pos (aa9 es X.env)).any (·.1)=false:=by rfl):PE X (.Call (.Name x p) (e::es) [] pos) (T2 r t):=by
 intro pins s σ H Q I h;refine ag4 (oA I hg hm hv ?_ hn mR);exact agL (cF (ha pos pins s σ H _ I h) λus s1 ⟨vs,H1,I1,r1,q1⟩=>hc pins s1 σ H1 vs us Q I1 r1 q1) he jZ
end
end L2
namespace HT
open PySem PyProof.Rows
section
open PySem.SeqAt
open PySem.AutoSeq1 (wpAny_loadPart')
open PySem.MeetsSeq PySem.MeetsSeq2 PySem.MeetsSeq3
end
section
variable{prog:Program}{w:abZ}{A:abL}{E:Value->aaj->Prop}{s:aaj}
variable{Q:Value->aaj->Prop}
theorem KD{t b:Addr}{vs ws:List Value}(ht:IsTup s.heap t vs.toArray)(hb:IsTup s.heap b ws.toArray)(hv:vs≠[])
  (h1:ws=[]->Q (.ref t) s)(h2:ws≠[]->Q (.ref s.heap.objs.size) { s with heap:=s.heap.push { cls:=.type "tuple",data:=.seq (vs++ws).toArray } })
  (E5:vs.length+ws.length<=sizeLine):abo (abu prog w) A (ahu .Add (.ref t) (.ref b)) Q E s:=by
 obtain⟨⟨cls,dd,data,sl⟩,ho,hc,n,hd⟩:=id ht;obtain⟨⟨alp,ZR,data2,Oq⟩,HZ,Bg,n2,hd2⟩:=id hb;simp only at hc hd Bg hd2;subst hc hd Bg hd2;have e:vs.toArray++ws.toArray=(vs++ws).toArray:=by simp
 by_cases hw:ws=[]
 .exact concat_meets ⟨_,ho,rfl⟩ ⟨_,HZ,rfl⟩ noFill_tuple_add seq_tuple_add akm aj6 (ajM _ _)
   (tuple_addW1 t b vs.toArray ws.toArray n n2 dd ZR sl Oq (by simpa using hv) (by simp[hw])) ⟨ho,HZ,h1 hw⟩
 .refine concat_meets ⟨_,ho,rfl⟩ ⟨_,HZ,rfl⟩ noFill_tuple_add seq_tuple_add akm aj6 (ajM _ _)
   (tuple_addW2 t b vs.toArray ws.toArray n n2 dd ZR sl Oq (by simpa using hv) (by simpa using hw) (by rw[aa3,aa3];exact E5)) ⟨ho,HZ,?_⟩
  rw[e];exact h2 hw
def da(n d:Nat):Option Int->Nat
 |none=>d
 |some v=>if v<0 then(v+(n:Int)).toNat else min v.toNat n
theorem Ot(n d:Nat)(hd:d<=n)(o:Option Int):da n d o<=n:=by
 cases o with
 |none=>exact hd
 |some v=>
  show(if v<0 then(v+(n:Int)).toNat else min v.toNat n)<=n
  by_cases hv:v<0
  .rw[if_pos hv];omega
  .rw[if_neg hv];exact amj _ _
theorem CQ(v:Int)(n d:Nat):(if v<0 then max (v+(n:Int)) 0 else min v (n:Int))=((da n d (aa v):Nat):Int):=by
 show(if v<0 then max (v+(n:Int)) 0 else min v (n:Int))=(((if v<0 then(v+(n:Int)).toNat else min v.toNat n):Nat):Int)
 by_cases hv:v<0
 .simp only[if_pos hv];omega
 .simp only[if_neg hv];omega
theorem CS(lo hi:Option Int)(n:Nat):ah5 lo hi 1 (n:Int)=(((da n 0 lo:Nat):Int),((da n n hi:Nat):Int)):=by
 have h1:¬((1:Int)<0):=by omega
 unfold ah5;simp only[h1,if_false];refine Prod.ext ?_ ?_
 .cases lo with
  |none=>rfl
  |some v=>exact CQ v n 0
 .cases hi with
  |none=>rfl
  |some v=>exact CQ v n n
theorem CT(i j:Nat):aho (i:Int) (j:Int) 1=j - i:=by
 unfold aho;have h1:(1:Int) > 0:=by omega
 simp only[h1,if_true,Int.ediv_one];split<;>omega
theorem wq{v:Value}{o:Option Int}{Q:Option Int->aaj->Prop}(p:alJ v o)(h:Q o s):abo (abu prog w) A (Builtin.Slice.slicePartIndex v) Q E s:=by
 cases p with
 |none=>exact slicePart_none h
 |int i t=>exact slicePart_int h
theorem mh{sl:Addr}{vl vu:Value}{lo hi:Option Int}{n:Nat}{Q:Int×Int×Nat->aaj->Prop}(hs:s.heap.IsSliceOf sl vl vu .none)(pl:alJ vl lo)(pu:alJ vu hi)
  (h:Q (((da n 0 lo:Nat):Int),1,da n n hi - da n 0 lo) s):abo (abu prog w) A (ajl (.ref sl) (pure (n:Int))) Q E s:=by
 obtain⟨os,E6,Ou,tf⟩:=id hs;unfold ajl Builtin.Slice.sliceFields;refine aab (aab (aix E6 tf (x:=vl) rfl (aab (aix E6 tf (x:=vu) rfl (aab (aix E6 tf (x:=.none) rfl (aas ?_)))))));refine aab (slicePart_none ?_);show abo _ _ (if ((1:Int)==0)=true then _ else _) _ _ s;rw[if_neg (by decide)];refine aab (wq pl (aab (wq pu (aab (aas ?_)))));show abo _ _ (match ah5 lo hi 1 (n:Int)with|(lo,hi)=>pure (lo,(1:Int),aho lo hi 1)) _ _ s;rw[CS lo hi n];show abo _ _ (pure (((da n 0 lo:Nat):Int),(1:Int),aho ((da n 0 lo:Nat):Int) ((da n n hi:Nat):Int) 1)) _ _ s;rw[CT];exact aas h
theorem Ir(xs:Array Value)(i k:Nat):((agz k).filterMap λ(m:Nat)=>xs[((i:Int)+(m:Int)*1).toNat]?).toArray=((xs.toList.drop i).take k).toArray:=by
 have e:(λ(m:Nat)=>xs[((i:Int)+(m:Int)*1).toNat]?)=λm=>xs[i+m]? :=by
  funext m
  have:((i:Int)+(m:Int)*1).toNat=i+m:=by omega
  rw[this]
 rw[e];have:=pick_run xs i k;rw[List.filterMap_map]at this;have e2:((λx=>xs[x]?) ∘ λx=>i+x)=λm=>xs[i+m]? :=rfl
 rw[e2]at this;rw[this]
theorem tj{t sl:Addr}{items:Array Value}{vl vu:Value}{lo hi:Option Int}(ht:IsTup s.heap t items)(hs:s.heap.IsSliceOf sl vl vu .none)(pl:alJ vl lo)(pu:alJ vu hi)
  (hw:¬(da items.size 0 lo=0/\da items.size items.size hi=items.size))
  (h:Q (.ref s.heap.objs.size) { s with heap:=s.heap.push { cls:=.type "tuple",data:=.seq ((items.toList.drop (da items.size 0 lo)).take (da items.size items.size hi - da items.size 0 lo)).toArray } })
  (E5:items.size<=sizeLine):abo (abu prog w) A (aj7 (.ref t) (.ref sl)) Q E s:=by
 have Bh:sizeOk (.seq ((items.toList.drop (da items.size 0 lo)).take (da items.size items.size hi - da items.size 0 lo)).toArray):=by
  show((items.toList.drop (da items.size 0 lo)).take (da items.size items.size hi - da items.size 0 lo)).toArray.size<=sizeLine;rw[aa3,ahz,ag6,ai7];omega
 have hj:da items.size items.size hi<=items.size:=Ot _ _ (aat _) hi;obtain⟨os,E6,Ou,tf⟩:=id hs;have T3:s.TypeIs (.ref sl) "slice":=⟨os,E6,Ou⟩;unfold aj7
 try with_reducible refine agG ?_
 first|refine aab (aas ?_)|skip
 refine aab (wpAny_sequenceKey ht.typeIs (by decide) ?_);refine aab (aj8 (name:=abV "__getitem__") ht.typeIs adl
  (aiM adl ht.typeIs ak3 ?_ (alK _ _)))
 show abo _ _ (ahV (.ref t) >>= _) _ _ s;refine aab (tupleItemsOf_ ht ?_);refine aab (aiF T3 ?_);rw[if_pos (by decide)];refine aab (mh hs pl pu ?_);have hno:¬((((da items.size 0 lo:Nat):Int)==0&&(1:Int)==1&&(da items.size items.size hi - da items.size 0 lo)==items.size)=true):=by
  intro q;rw[abw,abw]at q;have q1:((da items.size 0 lo:Nat):Int)=0:=eq_of_beq q.1.1;have q2:da items.size items.size hi - da items.size 0 lo=items.size:=eq_of_beq q.2;exact hw ⟨by omega,by omega⟩
 show abo _ _ (if (((da items.size 0 lo:Nat):Int)==0&&(1:Int)==1&&(da items.size items.size hi - da items.size 0 lo)==items.size)=true then _ else _) _ _ s;rw[if_neg hno,Ir]
 first
  |exact aab (m:=ahr _) (agR (aas ⟨_,rfl,aas h⟩) Bh)
  |exact aab (m:=ahr _) (agR (aab (aas (aas ⟨_,rfl,aas h⟩))) Bh)
  |exact aab (aab (m:=ahr _) (agR (aas (aas ⟨_,rfl,aas h⟩)) Bh))
  |exact aab (aab (m:=ahr _) (agR (aas ⟨_,rfl,aas h⟩) Bh))
end
end HT
namespace L2
open PySem PySem.Spec PyProof.Rows
abbrev TO:=St->Hp->(Option Int->Hp->Prop)->Prop
namespace Zu
set_option allowUnsafeReducibility true in
@[scoped irreducible] def _root_.L2.PO(X:Cx)(e:Option acu)(t:TO):Prop:=
 ∀(pins:List (Addr×Obj)) (s:aaj) (σ:St) (H:Hp) (Q:Option Int->Hp->Prop),Inv X pins σ H s->t σ H Q->
  abo (abu X.prog X.w) X.A (evalPart e X.env) (λu s'=>∃o H',Inv X pins σ H' s'/\alJ u o/\Q o H') X.xe s
end Zu
def KG:TO:=λ_ H Q=>Q ae H
def T4(t:TE):TO:=λσ H Q=>t σ H λx H1=>∃i,x= .int i/\Q (aa i) H1
section
variable{X:Cx}{e:acu}{te:TE}{lo hi:Option acu}{tl th:TO}{pos p2:Pos}
theorem CU:PO X ae KG:=by
 intro pins s σ H Q I h;rw[evalPart_none];exact aas ⟨ae,H,I,.none,h⟩
theorem CV(h:PE X e te):PO X (aa e) (T4 te):=by
 intro pins s σ H Q I hw;rw[evalPart_some];refine cF (h pins s σ H _ I hw) λu s1 cg=>?_
 obtain⟨x,H1,I1,r1,q1⟩:=cg;obtain⟨i,rfl,q⟩:=q1;obtain⟨t,rfl⟩:=r1;exact⟨aa i,H1,I1,.int i t,q⟩
def zR(X:Cx)(r:V->Option Int->Option Int->Hp->VK->Prop):Prop:=
 ∀(pins:List (Addr×Obj)) (s:aaj) (σ:St) (H:Hp) (x:V) (v vl vu:Value) (lo hi:Option Int) (sl:Addr) (Q:VK),Inv X pins σ H s->RelV x v->s.heap.IsSliceOf sl vl vu .none->alJ vl lo->alJ vu hi->r x lo hi H Q->
  ∃T id,alX (.type T) "__getitem__" =pure (aa (.builtin id))/\s.TypeIs v T/\abo (abu X.prog X.w) X.A (aj7 v (.ref sl)) (EP X pins σ Q) X.xe s
variable{r:V->Option Int->Option Int->Hp->VK->Prop}
theorem zR.or{r':V->Option Int->Option Int->Hp->VK->Prop}(h:zR X r)(h':zR X r'):zR X (λx lo hi H Q=>r x lo hi H Q\/r' x lo hi H Q):=by
 intro pins s σ H x v vl vu lo hi sl Q I rx hs pl pu q;rcases q with q|q
 .exact h pins s σ H x v vl vu lo hi sl Q I rx hs pl pu q
 .exact h' pins s σ H x v vl vu lo hi sl Q I rx hs pl pu q
def tSl(r:V->Option Int->Option Int->Hp->VK->Prop)(te:TE)(tl th:TO):TE:=λσ H Q=>te σ H λx H1=>tl σ H1 λl H2=>th σ H2 λu H3=>r x l u H3 Q
theorem An(hr:zR X r)(he:PE X e te)(hl:PO X lo tl)(hu:PO X hi th):PE X (.Subscript e (.Slice lo hi ae p2) pos) (tSl r te tl th):=by
 intro pins s σ H Q I h;refine Subscript_ (cF (he pins s σ H _ I h) λv s1 cg=>?_);obtain⟨x,H1,I1,r1,q1⟩:=cg;refine wpAny_Slice (cF (hl pins s1 σ H1 _ I1 q1) λvl s2 ⟨l,H2,I2,pl,q2⟩=>cF (hu pins s2 σ H2 _ I2 q2) λvu s3 cg=>?_);obtain⟨u,H3,I3,pu,q3⟩:=cg;rw[evalPart_none];refine aas ?_;have I4:Inv X pins σ H3 { s3 with heap:=s3.heap.push { cls:=.type "slice",data:=.fields #[vl,vu,.none] } }:=I3.kept (t':=s3.toks) λb ob q=>aap _ q
 obtain⟨T,id,hT,ht,hg⟩:=hr pins { s3 with heap:=s3.heap.push { cls:=.type "slice",data:=.fields #[vl,vu,.none] } } σ H3 x v vl vu l u s3.heap.objs.size Q I4 r1 (ane ..) pl pu q3;show abo (abu X.prog X.w) X.A (alL e (.Slice lo hi ae p2) v (.ref s3.heap.objs.size)) (EP X pins σ Q) X.xe { s3 with heap:=s3.heap.push { cls:=.type "slice",data:=.fields #[vl,vu,.none] } };exact tail_any (ops:=[.ref s3.heap.objs.size,v]) ht hT hg (by with_unfolding_all rfl)
def qj(xs:List V)(lo hi:Option Int):List V:=(xs.drop (HT.da xs.length 0 lo)).take (HT.da xs.length xs.length hi - HT.da xs.length 0 lo)
theorem uo(xs:List V)(lo hi:Option Int):(qj xs lo hi).length<=xs.length:=by
 unfold qj;rw[ahz,ag6];omega
def RP(K:aaa):V->Option Int->Option Int->Hp->VK->Prop:=λx lo hi H Q=>∃a xs,x= .ref a/\ja K H a xs/\
 ¬(HT.da xs.length 0 lo=0/\HT.da xs.length xs.length hi=xs.length)/\∀p,H p=ae->Q (.ref p) (upd H p (.tup (qj xs lo hi)))
theorem Ov:zR X (RP X.K):=by
 intro pins s σ H x v vl vu lo hi sl Q I rx hs pl pu h;obtain⟨a,xs,rfl,hx,hw,q⟩:=h;cases rx;obtain⟨its,r,ht,hz⟩:=I.tuple hx;have hlen:its.toArray.size=xs.length:=by rw[aa3];exact r.length.symm
 refine⟨"tuple",_,adl.lookup,ht.typeIs,?_⟩;refine HT.tj ht hs pl pu (by rw[hlen];exact hw) ?_ (by rw[hlen];exact hz);rw[hlen];refine⟨.ref s.heap.objs.size,_,I.laid (t':=s.toks) (o:=.tup (qj xs lo hi)) (λb ob q=>aap _ q) (aat _) ?_,rfl,q _ (I.bB.fresh (aat _))⟩;exact⟨ab2 (uo xs lo hi) hz,_,(r.drop (HT.da xs.length 0 lo)).take (HT.da xs.length xs.length hi - HT.da xs.length 0 lo),am9 _ _⟩
def E7(K:aaa):R2:=λx y H Q=>∃a b xs ys,x= .ref a/\y= .ref b/\ja K H a xs/\ja K H b ys/\xs≠[]/\xs.length+ys.length<=sizeLine/\
 (ys=[]->Q (.ref a) H)/\(ys≠[]->∀p,H p=ae->Q (.ref p) (upd H p (.tup (xs++ys))))
theorem Vals.x9{xs:List V}{us:List Value}(r:Vals xs us):us=[]↔xs=[]:=by
 cases r with
 |nil=>simp
 |cons _ _=>simp
theorem KH:eW X (ahu .Add) (E7 X.K):=by
 intro pins s σ H x y v u Q I rx ry h;obtain⟨a,b,xs,ys,rfl,rfl,ha,hb,hx,hz,q1,q2⟩:=h;cases rx;cases ry;obtain⟨its,r1,p1,_⟩:=I.tuple ha;obtain⟨wA,r2,p2,_⟩:=I.tuple hb;refine HT.KD p1 p2 (λz=>hx (r1.x9.mp z)) (λz=>⟨.ref a,H,I,rfl,q1 (r2.x9.mp z)⟩) (λz=>?_) (by rw[<-r1.length,<-r2.length];exact hz);refine⟨.ref s.heap.objs.size,_,I.laid (t':=s.toks) (o:=.tup (xs++ys)) (λb ob q=>aap _ q) (aat _) ?_,rfl,q2 (λw=>z (r2.x9.mpr w)) _ (I.bB.fresh (aat _))⟩;exact⟨by rw[aaf];exact hz,_,r1.append r2,am9 _ _⟩
end
end L2
namespace L2
open PySem PySem.Spec PyProof.Rows
def E8(n:Nat)(i:Int):Option Nat:=if 0<=i then(if i<n then aa i.toNat else ae)else if -(n:Int)<=i then aa (i+n).toNat else ae
def E9{α:Type}(xs:List α)(i:Int):Option α:=(E8 xs.length i).bind λj=>xs[j]?
theorem CW{n:Nat}{i:Int}{j:Nat}(h:E8 n i=aa j):seqIndex? i n=aa j/\j<n/\-(n:Int)<=i/\i<n:=by
 unfold E8 at h
 by_cases h0: 0<=i
 .rw[if_pos h0]at h
  by_cases h1:i<n
  .rw[if_pos h1]at h
   have e:i.toNat=j:=abK h;exact⟨by rw[amE h0 h1,e],by omega,by omega,h1⟩
  .rw[if_neg h1]at h;cases h
 .rw[if_neg h0]at h
  by_cases h1: -(n:Int)<=i
  .rw[if_pos h1]at h
   have e:(i+n).toNat=j:=abK h;exact⟨by rw[amd (by omega) h1,e],by omega,h1,by omega⟩
  .rw[if_neg h1]at h;cases h
theorem x_{α:Type}{xs:List α}{i:Int}{v:α}(h:E9 xs i=aa v):∃j,seqIndex? i xs.length=aa j/\xs[j]? =aa v/\j<xs.length/\-(xs.length:Int)<=i/\i<xs.length:=by
 unfold E9 at h;cases e:E8 xs.length i with
 |none=>rw[e]at h;cases h
 |some j=>
  rw[e]at h;obtain⟨h1,h2,h3,h4⟩:=CW e;exact⟨j,h1,h,h2,h3,h4⟩
def uq(b:acu):Prop:=∀o i,ak4 b false o i=operate [o,i] (aj7 o i)
def zS(X:Cx)(r:R2):Prop:=
 ∀(value slice:acu) (pins:List (Addr×Obj)) (s:aaj) (σ:St) (H:Hp) (x y:V) (v u:Value) (Q:VK),Inv X pins σ H s->RelV x v->RelV y u->r x y H Q->
  ak4 slice false v u=operate [v,u] (aj7 v u)->abo (abu X.prog X.w) X.A (alL value slice v u) (EP X pins σ Q) X.xe s
def E_(X:Cx)(id:String)(r:V->List V->Hp->VK->Prop):Prop:=
 ∀(pins:List (Addr×Obj)) (s:aaj) (σ:St) (H:Hp) (x:V) (xs:List V) (v:Value) (us:List Value) (Q:VK),Inv X pins σ H s->RelV x v->Vals xs us->r x xs H Q->
  abo (abu X.prog X.w) X.A (call (.builtin id) (v::us)) (EP X pins σ Q) X.xe s
section
variable{X:Cx}{a b:acu}{ta tb:TE}{pos:Pos}
theorem zS.or{r r':R2}(h:zS X r)(h':zS X r'):zS X (λx y H Q=>r x y H Q\/r' x y H Q):=by
 intro value slice pins s σ H x y v u Q I rx ry q hs;rcases q with q|q
 .exact h value slice pins s σ H x y v u Q I rx ry q hs
 .exact h' value slice pins s σ H x y v u Q I rx ry q hs
theorem T5{r:R2}(hr:zS X r)(ha:PE X a ta)(hb:PE X b tb)(hs:uq b):PE X (.Subscript a b pos) (Kp r ta tb):=by
 intro pins s σ H Q I h;exact Subscript_ (Kr ha hb I h λv u s2 x y H2 I2 rx ry q=>hr a b pins s2 σ H2 x y v u Q I2 rx ry q (hs _ _))
def RQ(K:aaa):R2:=λx y H Q=>∃p xs i v,x= .ref p/\y= .int i/\dX K H p xs/\E9 xs i=aa v/\Q v H
def RT(K:aaa):R2:=λx y H Q=>∃p xs i v,x= .ref p/\y= .int i/\ja K H p xs/\E9 xs i=aa v/\Q v H
def KI:R2:=λx y H Q=>∃z i c,x= .str z/\y= .int i/\z.length<=sizeLine/\E9 z.cps.toList i=aa c/\Q (.str ⟨#[c]⟩) H
theorem KL:zS X (RQ X.K):=by
 intro value slice pins s σ H x y v u Q I rx ry h hs;obtain⟨p,xs,i,z,rfl,rfl,hq,he,q⟩:=h;cases rx;obtain⟨t,rfl⟩:=ry;obtain⟨its,r,pl,hz⟩:=I.list hq;obtain⟨j,h1,h2,h3,h4,h5⟩:=x_ he;obtain⟨w,ew,qc⟩:=r.get h2;have hl:=r.length;have hn:=oH;have fin:EP X pins σ Q w s:=⟨z,H,I,qc,q⟩
 by_cases h0: 0<=i
 .have hj:i.toNat=j:=by
   rw[amE h0 h5]at h1;exact abK h1
  exact item_listR pl.isList h0 (by omega) (by rw[hj];simpa using ew) fin hs
 .have hj:(i+(its.toArray.size:Int)).toNat=j:=by
   rw[amd (by omega) h4]at h1;rw[aa3,<-hl];exact abK h1
  exact akn (x:=w) pl.isList.typeIs slot_list_getitem.lookup
   (wpAny_getItem_list_neg (Q:=λr s'=>r=w/\EP X pins σ Q r s') pl.isList (by omega) (by rw[aa3]<;>omega) (by omega) (by rw[hj];simpa using ew) ⟨rfl,fin⟩) hs
theorem Ow:zS X (RT X.K):=by
 intro value slice pins s σ H x y v u Q I rx ry h hs;obtain⟨p,xs,i,z,rfl,rfl,hq,he,q⟩:=h;cases rx;obtain⟨t,rfl⟩:=ry;obtain⟨its,r,pl,hz⟩:=I.tuple hq;obtain⟨j,h1,h2,h3,h4,h5⟩:=x_ he;obtain⟨w,ew,qc⟩:=r.get h2;have hl:=r.length;have hn:=oH;have fin:EP X pins σ Q w s:=⟨z,H,I,qc,q⟩;exact akn (x:=w) pl.typeIs slot_tuple_getitem.lookup
  (getItem_tuple (j:=j) (Q:=λr s'=>r=w/\EP X pins σ Q r s') pl (by omega) (by omega) (by rw[aa3,<-hl];exact h1) (by simpa using ew) ⟨rfl,fin⟩) hs
theorem GV:zS X KI:=by
 intro value slice pins s σ H x y v u Q I rx ry h hs;obtain⟨z,i,c,rfl,rfl,hz,he,q⟩:=h;obtain⟨t,rfl⟩:=rx;obtain⟨t',rfl⟩:=ry;obtain⟨j,h1,h2,h3,h4,h5⟩:=x_ he;have hl:z.cps.toList.length=z.length:=by simp[alY]
 rw[hl]at h1 h4 h5;have hn:=oH;exact tail_any (ahB s z t) slot_str_getitem.lookup (getItem_str (c:=c) (by
  have e1:decide (i< -(2 ^ 63:Int))=false:=decide_eq_false (by omega);have e2:decide (i≥2 ^ 63)=false:=decide_eq_false (by omega);rw[e1,e2,am0]) (by rw[h1];simpa using h2) ⟨.str ⟨#[c]⟩,H,I.tok _,⟨_,rfl⟩,q⟩) hs
def ZS(K:aaa):R2:=λx y H Q=>RQ K x y H Q\/RT K x y H Q\/KI x y H Q
theorem Ox:zS X (ZS X.K):=KL.or (Ow.or GV)
theorem CY(its:List Value)(n j:Nat)(u:Value):akK (·.setIfInBounds j u) { cls:=.type "list",data:=.seq its.toArray n } = { cls:=.type "list",data:=.seq (its.set j u).toArray n }:=by
 simp[akK]
variable{pins:List (Addr×Obj)}
theorem Inv.lst{σ:St}{H:Hp}{s:aaj}{p:Addr}{xs:List V}(I:Inv X pins σ H s)(h:H p=aa (.lst xs)):
  ∃(its:List Value) (n:Nat),Vals xs its/\s.heap.get? p=aa { cls:=.type "list",data:=.seq its.toArray n }/\xs.length<=sizeLine:=by
 obtain⟨z,its,n,r,e⟩:=I.bB p _ h;exact⟨its,n,r,e,z⟩
theorem Inv.Oy{σ:St}{H:Hp}{s:aaj}{p:Addr}{xs ys:List V}{its its':List Value}{n n':Nat}{f:Obj->Obj}(I:Inv X pins σ H s)(h:H p=aa (.lst xs))
  (ho:s.heap.get? p=aa { cls:=.type "list",data:=.seq its.toArray n })(hf:f { cls:=.type "list",data:=.seq its.toArray n } = { cls:=.type "list",data:=.seq its'.toArray n' })(r:Vals ys its')(hz:ys.length<=sizeLine)(t:Nat):
  Inv X pins σ (upd H p (.lst ys)) { s with heap:=s.heap.update p f,toks:=t }:=by
 have e:(s.heap.update p f).get? p=aa { cls:=.type "list",data:=.seq its'.toArray n' }:=by
  rw[ahl f ho (by rw[hf]<;>rfl),hf]
 refine I.write (x:=p) (e:=p) (by rw[h];trivial) (.inl rfl) (λb u hb q=>(agB _ _ (ahb hb)).trans q) ⟨_,e⟩ ?_;exact⟨hz,its',n',r,e⟩
def T6:V->V->V->Hp->(Hp->Prop)->Prop:=λo i v H Q=>∃p xs k j,o= .ref p/\i= .int k/\H p=aa (.lst xs)/\E8 xs.length k=aa j/\Q (upd H p (.lst (xs.set j v)))
theorem set_list:RI X T6:=by
 intro pins s σ H o i v ov iv u Q I ro ri rv h;obtain⟨p,xs,k,j,rfl,rfl,hp,hj,q⟩:=h;cases ro;obtain⟨t,rfl⟩:=ri;obtain⟨its,n,r,ho,hz⟩:=I.lst hp;obtain⟨h1,h2,h3,h4⟩:=CW hj;have hl:=r.length;have hn:=oH;have I':Inv X pins σ (upd H p (.lst (xs.set j v))) { s with heap:=s.heap.update p (akK (·.setIfInBounds j u)) }:=
  I.Oy hp ho (CY its n j u) (r.set rv j) (by rw[abB];exact hz) s.toks
 by_cases h0: 0<=k
 .have hk:k.toNat=j:=by
   rw[amE h0 h4]at h1;exact abK h1
  exact PySem.W.ki_setAt ho h0 (by omega) (by rw[aa3,<-hl];exact h4) (by rw[hk];exact⟨_,I',q⟩)
 .have hk:(k+(its.toArray.size:Int)).toNat=j:=by
   rw[amd (by omega) h3]at h1;rw[aa3,<-hl];exact abK h1
  exact PySem.W.ki_setBack ho (by omega) (by rw[aa3,<-hl];exact h3) (by omega) (by rw[hk];exact⟨_,I',q⟩)
theorem zT(lo hi:Option Int)(n:Nat):(aiy lo hi ae n).1=((HT.da n 0 lo:Nat):Int)/\(aiy lo hi ae n).2.1=((HT.da n n hi:Nat):Int)/\(aiy lo hi ae n).2.2=1:=by
 refine⟨?_,?_,rfl⟩
 .cases lo with
  |none=>simp[aiy,HT.da]
  |some i=>
   simp only[aiy,HT.da,amk,show(1:Int) > 0 by decide,if_true]
   by_cases h:i<0
   .simp only[h,if_true]<;>omega
   .simp only[h,if_false]<;>omega
 .cases hi with
  |none=>simp[aiy,HT.da]
  |some i=>
   simp only[aiy,HT.da,amk,show(1:Int) > 0 by decide,if_true]
   by_cases h:i<0
   .simp only[h,if_true]<;>omega
   .simp only[h,if_false]<;>omega
theorem ya(its:List Value)(lo hi:Option Int):slicePick its.toArray lo hi ae=((its.drop (HT.da its.length 0 lo)).take (HT.da its.length its.length hi - HT.da its.length 0 lo)).toArray:=by
 obtain⟨h1,h2,h3⟩:=zT lo hi its.toArray.size;unfold slicePick;rw[h1,h2,h3];simp only[sliceRange_one,pick_run,aa3]<;>rfl
def RU(K:aaa):V->Option Int->Option Int->Hp->VK->Prop:=λx lo hi H Q=>∃a xs,x= .ref a/\dX K H a xs/\∀p,H p=ae->Q (.ref p) (upd H p (.lst (qj xs lo hi)))
theorem KN:zR X (RU X.K):=by
 intro pins s σ H x v vl vu lo hi sl Q I rx hs pl pu h;obtain⟨a,xs,rfl,hx,q⟩:=h;cases rx;obtain⟨its,r,ht,hz⟩:=I.list hx;have hlen:=r.length;refine⟨"list",_,slot_list_getitem.lookup,ht.isList.typeIs,?_⟩;refine wpAny_getItem_list_slice ht.isList hs pl pu .none (by simp) ?_ (by rw[aa3]<;>omega);rw[ya,<-hlen];refine⟨.ref s.heap.objs.size,_,I.laid (t':=s.toks) (o:=.lst (qj xs lo hi)) (λb ob q=>aap _ q) (aat _) ?_,rfl,q _ (I.bB.fresh (aat _))⟩;exact⟨ab2 (uo xs lo hi) hz,_,0,(r.drop (HT.da xs.length 0 lo)).take (HT.da xs.length xs.length hi - HT.da xs.length 0 lo),abx _ rfl⟩
theorem sA:eW X (agq .NotIn) (λx y H Q=>∃i j,x= .str i/\y= .str j/\Q (.bl (!(!(abv j i 0 j.length 1).isEmpty))) H):=by
 intro pins s σ H x y v u Q I rx ry h;obtain⟨i,j,rfl,rfl,q⟩:=h;obtain⟨t,rfl⟩:=rx;obtain⟨t',rfl⟩:=ry;exact notIn_str ⟨.bl _,H,I,rfl,q⟩
theorem bf:fV X (.builtin "len") (λxs H Q=>∃p ys,xs=[.ref p]/\(dX X.K H p ys\/ja X.K H p ys)/\Q (.int ys.length) H):=by
 intro pins s σ H xs us Q I r h;obtain⟨p,ys,rfl,hq,q⟩:=h;obtain⟨u,rfl,rx⟩:=vals1 r;cases rx;have hn:=oH;rcases hq with hq|hq
 .obtain⟨its,r',pl,hz⟩:=I.list hq
  have hlen:=r'.length;exact Calls.call_len_list pl.isList (by simp only[aa3]<;>omega) ⟨.int ys.length,H,I.tok _,⟨s.toks+1,by rw[aa3,hlen]⟩,q⟩
 .obtain⟨its,r',pl,hz⟩:=I.tuple hq
  have hlen:=r'.length;exact len_tuple pl (by simp only[aa3]<;>omega) ⟨.int ys.length,H,I.tok _,⟨s.toks+1,by rw[aa3,hlen]⟩,q⟩
theorem zU:fV X (.builtin "len") (λxs H Q=>∃z,xs=[.str z]/\z.length<=sizeLine/\Q (.int z.length) H):=by
 intro pins s σ H xs us Q I r h;obtain⟨z,rfl,hz,q⟩:=h;obtain⟨u,rfl,t,rfl⟩:=vals1 r;have hn:=oH;exact len_str (by omega) ⟨.int z.length,H,I.tok _,⟨_,rfl⟩,q⟩
theorem zV:fV X (.type "list") (λxs H Q=>∃p ys,xs=[.ref p]/\(dX X.K H p ys\/ja X.K H p ys)/\∀l,H l=ae->Q (.ref l) (upd H l (.lst ys))):=by
 intro pins s σ H xs us Q I r h;obtain⟨p,ys,rfl,hq,q⟩:=h;obtain⟨u,rfl,rx⟩:=vals1 r;cases rx;have fin:∀(its:List Value),Vals ys its->ys.length<=sizeLine->∀(h':Heap) (c':Nat),(∀b o',s.heap.get? b=aa o'->h'.get? b=aa o')->
   h'.get? s.heap.objs.size=aa { cls:=.type "list",dict:=ae,data:=.seq its.toArray c',slots:=#[] }->EP X pins σ Q (.ref s.heap.objs.size) { s with heap:=h' }:=λits r' hz h' c' kp e=>
  ⟨.ref s.heap.objs.size,_,I.laid (t':=s.toks) kp (aat _) (show cH X.prog X.w _ h' _ (.lst ys)from⟨hz,its,c',r',e⟩),rfl,q _ (I.bB.fresh (aat _))⟩
 rcases hq with hq|hq
 .obtain⟨its,r',pl,hz⟩:=I.list hq
  have hlen:=r'.length;obtain⟨o,ho,hc,n,hd⟩:=pl.isList;exact call_list_seq p (.inl rfl) ho hc hd (λh' c' kp e=>fin its r' hz h' c' kp e) (by simp only[aa3]<;>omega)
 .obtain⟨its,r',pl,hz⟩:=I.tuple hq
  have hlen:=r'.length;obtain⟨o,ho,hc,n,hd⟩:=pl;exact call_list_seq p (.inr rfl) ho hc hd (λh' c' kp e=>fin its r' hz h' c' kp e) (by simp only[aa3]<;>omega)
def Oz(K:aaa)(T:String)(x:V)(H:Hp):Prop:=match x with
 |.str _=>T= "str"
 |.int _=>T= "int"
 |.ref p=>(T= "list"/\∃xs,dX K H p xs)\/(T= "tuple"/\∃o,K.lookup p=aa o/\o.cls= .type "tuple"/\o.dict=ae)\/
   (T= "dict"/\((∃aP,H p=aa (.dK aP))\/∃aP,H p=aa (.dT aP)))\/(T= "set"/\∃S n,H p=aa (.set S n))
 |_=>False
theorem GW{σ:St}{H:Hp}{s:aaj}{T:String}{x:V}{v:Value}(I:Inv X pins σ H s)(r:RelV x v)(ty:Oz X.K T x H):
  s.TypeIs v T/\∀a,v= .ref a->∃ob,s.heap.get? a=aa ob/\ob.dict=ae:=by
 cases x with
 |str z=>
  obtain⟨t,rfl⟩:=r;cases (show T= "str" from ty);exact⟨ahB s z t,λ_ e=>nomatch e⟩
 |int i=>
  obtain⟨t,rfl⟩:=r;cases (show T= "int" from ty);exact⟨typeIs_int s i t,λ_ e=>nomatch e⟩
 |ref p=>
  cases r;rcases ty with⟨rfl,xs,hq⟩|⟨rfl,o,hk,hc,hd⟩|⟨rfl,hk⟩|⟨rfl,S,n,hk⟩
  .obtain⟨its,_,pl,_⟩:=I.list hq
   refine⟨pl.isList.typeIs,λa e=>?_⟩;cases e;obtain⟨o,n,e,c,hd,_⟩:=pl;exact⟨o,e,hd⟩
  .refine⟨⟨o,I.fP p o hk,hc⟩,λa e=>?_⟩
   cases e;exact⟨o,I.fP _ o hk,hd⟩
  .have z:∃o,s.heap.get? p=aa o/\o.ExactDict:=by
    rcases hk with⟨aP,hk⟩|⟨aP,hk⟩
    .obtain⟨_,_,_,_,o,_,_,e,ex,_⟩:=I.bB p _ hk
     exact⟨o,e,ex⟩
    .obtain⟨_,_,_,_,o,_,_,e,ex,_⟩:=I.bB p _ hk
     exact⟨o,e,ex⟩
   obtain⟨o,e,ex⟩:=z;refine⟨⟨o,e,ex.1⟩,λa e2=>?_⟩;cases e2;exact⟨o,e,ex.2.1⟩
  .obtain⟨o,_,_,_,e,ex,_⟩:=I.bB p _ hk
   refine⟨⟨o,e,ex.1⟩,λa e2=>?_⟩;cases e2;exact⟨o,e,ex.2.1⟩
 |_=>exact ahR ty
def ZT(K:aaa)(T:String)(r:V->List V->Hp->VK->Prop)(to:TE):TE:=λσ H Q=>to σ H λx H1=>Oz K T x H1/\r x [] H1 Q
def tBM(K:aaa)(T:String)(r:V->List V->Hp->VK->Prop)(to:TE)(t:TA):TE:=λσ H Q=>to σ H λx H1=>Oz K T x H1/\t σ H1 λxs H2=>r x xs H2 Q
variable{o e:acu}{es:List acu}{to:TE}{t:TA}{name:Str}{apos cY:Pos}{T id:String}{r:V->List V->Hp->VK->Prop}
theorem OA(pa:PlainAttrs T)(slot:Slot T name id)(vD:amF (.builtin id)=pure (.type "method_descriptor"))(hm:E_ X id r)(ho:PE X o to)
  (jF:ahc o name X.env (ahx o X.env)=ahx o X.env:=by rfl)(gH:(apos.endLine==cY.line)=true:=by rfl):PE X (.Call (.Attribute o name apos) [] [] cY) (ZT X.K T r to):=by
 intro pins s σ H Q I h;refine wpAny_Call_method0_late jF gH (cF (ho pins s σ H _ I h) λv s1 cg=>?_);obtain⟨x,H1,I1,r1,ty,q1⟩:=cg;obtain⟨h1,h2⟩:=GW I1 r1 ty;exact⟨T,id,pa,slot,vD,h1,h2,ahD rfl (PySem.evalArgs_none (hm pins s1 σ H1 x [] v [] Q I1 r1 .nil q1))⟩
theorem Fb(pa:PlainAttrs T)(slot:Slot T name id)(vD:amF (.builtin id)=pure (.type "method_descriptor"))(hm:E_ X id r)(ho:PE X o to)(ha:PA X (e::es) t)
  (jF:ahc o name X.env (ahx o X.env)=ahx o X.env:=by rfl)
  (nR:((ahJ cY (aa9 (e::es) X.env)).all (λx=>!x.1)&&(akL cY (aiz [] X.env)).all (λx=>x.1.isSome)
   &&decide ((e::es).length+([]:List aik).length+(if ([]:List aik).isEmpty then 0 else 1)<30))=true:=by rfl)
  (gH:(apos.endLine==cY.line)=true:=by rfl)(hs:aa9 (e::es) X.env=(false,ahx e X.env)::aa9 es X.env:=by rfl)(ur:(ahJ cY (aa9 es X.env)).any (·.1)=false:=by rfl):
  PE X (.Call (.Attribute o name apos) (e::es) [] cY) (tBM X.K T r to t):=by
 intro pins s σ H Q I h;refine aip jF nR gH rfl (cF (ho pins s σ H _ I h) λv s1 cg=>?_);obtain⟨x,H1,I1,r1,ty,q1⟩:=cg;obtain⟨h1,h2⟩:=GW I1 r1 ty;refine⟨T,id,pa,slot,vD,h1,h2,?_⟩;have hA:=ha cY pins s1 σ H1 _ I1 q1;rw[hs]at hA |-
 refine ahD (by show(false||(ahJ cY (aa9 es X.env)).any (·.1))=false;rw[ur]<;>rfl) (aiU ?_);exact cF hA λus s2 ⟨vs,H2,I2,r2,q2⟩=>hm pins s2 σ H2 x vs v us Q I2 r1 r2 q2
end
end L2
namespace L2
open PySem PySem.Spec PyProof.Rows
def KO(X:Cx)(id:String)(r:V->List V->Hp->VK->Prop):Prop:=
 ∀(pins:List (Addr×Obj)) (s:aaj) (σ:St) (H:Hp) (x:V) (xs:List V) (v:Value) (us:List Value) (Q:VK),Inv X pins σ H s->RelV x v->Vals xs us->r x xs H Q->
  abo (abu X.prog X.w) X.A (call (.builtin id) (v::us)) (EP X pins σ Q) X.xe s
theorem Vals.one:∀{x:V}{us:List Value},Vals [x] us->∃u,us=[u]/\RelV x u
 |_,_,.cons r .nil=>⟨_,rfl,r⟩
theorem Vals.zero:∀{us:List Value},Vals [] us->us=[]
 |_,.nil=>rfl
theorem Vals.dropLast{xs:List V}{us:List Value}(h:Vals xs us):Vals xs.dropLast us.dropLast:=by
 induction h with
 |nil=>exact .nil
 |cons r t ih=>
  cases t with
  |nil=>exact .nil
  |cons q t'=>exact .cons r ih
theorem Vals.reverse{xs:List V}{us:List Value}(h:Vals xs us):Vals xs.reverse us.reverse:=by
 induction h with
 |nil=>exact .nil
 |cons r t ih=>rw[alZ,alZ];exact Vals.append ih (.cons r .nil)
theorem qk{α:Type}(l:List α):l.eraseIdx (l.length - 1)=l.dropLast:=by
 induction l with
 |nil=>rfl
 |cons a r ih=>
  cases r with
  |nil=>rfl
  |cons b r=>
   have e:(a::b::r).length - 1=((b::r).length - 1)+1:=by
    have h1:(a::b::r).length=r.length+2:=rfl;have h2:(b::r).length=r.length+1:=rfl;omega
   rw[e,List.eraseIdx_cons_succ,ih]
   all_goals rfl
section
variable{X:Cx}{pins:List (Addr×Obj)}{σ:St}{H:Hp}{s:aaj}{l b:Addr}{xs ys zs:List V}
variable{its:List Value}
theorem Inv.KP{its':List Value}{n:Nat}{f:Array Value->Array Value}{t':Nat}(I:Inv X pins σ H s)(hH:H l=aa (.lst xs))
  (e:s.heap.get? l=aa { cls:=.type "list",data:=.seq its.toArray n })(hf:f its.toArray=its'.toArray)(hv:Vals ys its')(hz:ys.length<=sizeLine):
  Inv X pins σ (upd H l (.lst ys)) { s with heap:=s.heap.update l (akK f),toks:=t' }:=by
 have q:=PySem.IsL.update e f;rw[hf]at q;refine I.write (x:=l) (e:=l) (by rw[hH];exact trivial) (.inl rfl) (λb' u hb hu=>(agB s.heap (akK f) (ahb hb)).trans hu) ⟨_,q⟩ ?_;exact⟨hz,its',_,hv,q⟩
theorem Inv.RV{t':Nat}(I:Inv X pins σ H s)(hv:Vals ys its)(hz:ys.length<=sizeLine):
  Inv X pins σ (upd H s.heap.objs.size (.lst ys)) { s with heap:=s.heap.push { cls:=.type "list",data:=.seq its.toArray },toks:=t' }:=
 I.laid (λ_ _ q=>aap _ q) (aat _) ⟨hz,its,0,hv,abx _ rfl⟩
theorem Inv.fresh(I:Inv X pins σ H s):H s.heap.objs.size=ae:=I.bB.fresh (aat _)
theorem Inv.yb(I:Inv X pins σ H s)(hH:H l=aa (.lst xs)):xs.length<=sizeLine/\∃(its:List Value) (n:Nat),Vals xs its/\xs.length=its.length/\s.heap.get? l=aa { cls:=.type "list",data:=.seq its.toArray n }:=by
 obtain⟨z,its,n,r,e⟩:=I.bB l _ hH;exact⟨z,its,n,r,r.length,e⟩
theorem Iu{n:Nat}(h:n<=sizeLine):aie n=false:=by
 unfold aie;exact decide_eq_false (by omega)
end
section
variable{X:Cx}
def CZ:V->List V->Hp->VK->Prop:=λx vs H Q=>∃l xs y,x= .ref l/\vs=[y]/\H l=aa (.lst xs)/\xs.length<sizeLine/\Q .aA (upd H l (.lst (xs++[y])))
theorem dw:KO X "list.append" CZ:=by
 intro pins s σ H x vs v us Q I rx rv h;obtain⟨l,xs,y,rfl,rfl,hH,hz,q⟩:=h;cases rx;obtain⟨u,rfl,ru⟩:=rv.one;obtain⟨z,its,n,r,hl,e⟩:=I.yb hH;refine ai3 F.slot_list_append ⟨_,e,rfl⟩ F.entry_list_append (F.args_list_append_2 _ _) (PySem.list_append l its.toArray n u (by rw[aa3];omega)) ⟨e,?_⟩;refine⟨.aA,_,I.KP (its':=its++[u]) hH e (by simp) (r.append (.cons ru .nil)) ?_,rfl,q⟩;rw[aaf,ahm];omega
def KQ:V->List V->Hp->VK->Prop:=λx vs H Q=>∃l b xs zs,x= .ref l/\vs=[.ref b]/\H l=aa (.lst xs)/\H b=aa (.lst zs)/\xs.length+zs.length<=sizeLine/\Q .aA (upd H l (.lst (xs++zs)))
theorem T7:KO X "list.extend" KQ:=by
 intro pins s σ H x vs v us Q I rx rv h;obtain⟨l,b,xs,zs,rfl,rfl,hH,hB,hz,q⟩:=h;cases rx;obtain⟨u,rfl,ru⟩:=rv.one;cases ru;obtain⟨z,its,n,r,hl,e⟩:=I.yb hH;obtain⟨z2,wA,n2,r2,C0,e2⟩:=I.yb hB;have E5:its.toArray.size+wA.toArray.size<=sizeLine:=by rw[aa3,aa3];omega
 have T8:¬(!its.toArray.isEmpty&&aie (its.toArray.size+wA.toArray.size))=true:=by
  rw[Iu E5,akX];exact abh
 refine ai3 F.slot_list_extend ⟨_,e,rfl⟩ F.entry_list_extend (F.args_list_extend_2 _ _)
  (AutoSeq1.list_extend_list_list_0 l its.toArray n b wA.toArray n2 T8 (by rw[aa3];omega) (by omega)) ⟨e,e2,?_⟩
 refine⟨.aA,_,I.KP (its':=its++wA) hH e (by simp) (r.append r2) ?_,rfl,q⟩;rw[aaf];omega
def RW:V->List V->Hp->VK->Prop:=λx vs H Q=>∃l xs y,x= .ref l/\vs=[]/\H l=aa (.lst xs)/\xs[xs.length - 1]? =aa y/\Q y (upd H l (.lst xs.dropLast))
theorem OB:KO X "list.pop" RW:=by
 intro pins s σ H x vs v us Q I rx rv h;obtain⟨l,xs,y,rfl,rfl,hH,hy,q⟩:=h;cases rx;have hus:=rv.zero;subst hus;obtain⟨z,its,n,r,hl,e⟩:=I.yb hH;obtain⟨u,hu,ru⟩:=r.get hy;have uf:its.toArray[its.toArray.size - 1]? =aa u:=by
  show its.toArray[its.length - 1]? =aa u;rw[<-akz,<-hl];exact hu
 refine ai3 F.slot_list_pop ⟨_,e,rfl⟩ F.entry_list_pop (F.args_list_pop_1 _) (MeetsSeq.list_pop_last l its.toArray n u uf (by rw[aa3];omega)) ⟨e,?_⟩;refine⟨y,_,I.KP (its':=its.dropLast) hH e ?_ r.dropLast ?_,ru,q⟩
 .show its.toArray.eraseIdxIfInBounds (its.toArray.size - 1)=its.dropLast.toArray
  rw[aa3,List.eraseIdxIfInBounds_toArray,qk]
 .rw[List.length_dropLast]
  omega
def KR:R2:=λx y H Q=>∃l b xs zs,x= .ref l/\y= .ref b/\H l=aa (.lst xs)/\H b=aa (.lst zs)/\xs.length+zs.length<=sizeLine/\∀p,H p=ae->Q (.ref p) (upd H p (.lst (xs++zs)))
theorem OC:eW X (ahu .Add) KR:=by
 intro pins s σ H x y v u Q I rx ry h;obtain⟨l,b,xs,zs,rfl,rfl,hH,hB,hz,q⟩:=h;cases rx;cases ry;obtain⟨z,its,n,r,hl,e⟩:=I.yb hH;obtain⟨z2,wA,n2,r2,C0,e2⟩:=I.yb hB;refine PySem.P.add_list e e2 ?_ (by rw[aa3,aa3];omega);have ea:its.toArray++wA.toArray=(its++wA).toArray:=by simp
 rw[ea];exact⟨.ref _,_,I.RV (t':=s.toks) (r.append r2) (by rw[aaf];omega),rfl,q _ I.fresh⟩
end
section
variable{prog:Program}{w:abZ}{A:abL}{E:Value->aaj->Prop}{s:aaj}
end
section
variable{X:Cx}
end
end L2
namespace ZU
open PySem PySem.W PySem.Calls PyProof.Rows
theorem vF{P:Params}{h:Heap}:∀(ns:List Int) (vs:List Value),WellAll P h vs (ns.map WData.int)->am1 vs ns:=by
 intro ns
 induction ns with
 |nil=>
  intro vs w;rw[agy]at w;cases w;exact .nil
 |cons n ns ih=>
  intro vs w;rw[abk]at w;cases w with
  |cons a b=>
   cases a;exact .cons _ _ (ih _ b)
theorem Fc{l:OpenLaw}{n:Nat}(hn:l.most=aa n){P:Params}{h:Heap}{args:List WData}{vals:List Value}
  (GX:l.row.toRowW.claim.pre args=true)(OD:WellAll P h vals args):
  ∃a vs ns,vals=[abm a]/\args=[WData.list (ns.map WData.int)]/\h.get? a=aa { cls:=.type "list",data:=.seq vs.toArray }/\am1 vs ns/\ns.length<=n:=by
 have hsh:WShape.hasAll [] args [.list .int]=true:=(pre_splitW GX).1;have hc:l.pre.holds [] { args:=args } =true:=(pre_splitW GX).2;obtain⟨d,r,rfl,h1,h2⟩:=hasAllW_cons hsh;obtain rfl:=hasAllW_nil h2;obtain⟨xs,rfl,h3⟩:=hasW_list h1;obtain⟨ns,rfl⟩:=items_int h3;have hlen:ns.length<=n:=by
  unfold OpenLaw.pre at hc;have h4:(WTm.not (.lt (.lit (.int (n:Int))) (.len (.arg 0)))).holds [] { args:=[.list (ns.map .int)] } =true:=by
   have h4:=(holds_andW hc).1;rw[hn]at h4;exact h4
  have h5:=condW_of h4 (w_not (w_lt w_lit (w_len_list (w_arg rfl))));rw[aaE]at h5;refine ake λq=>?_
  have q':(n:Int)<((ns.length:Nat):Int):=by omega
  first
   |(rw[decide_eq_true q']at h5;exact absurd h5 (by decide))
   |(simp at h5;omega)
 cases OD with
 |cons w1 w2=>
  cases w2;cases w1 with
  |list ho wk=>exact⟨_,_,ns,rfl,rfl,ho,vF ns _ wk,hlen⟩
theorem Fd(l:OpenLaw)(args:List WData):l.row.toRowW.claim.post args (.bool true) args=true:=
 postW_of (r:=l.row.toRowW) (X:=(true==true))
  (show WShape.has [] (.bool true) .bool=true by first|rfl|decide|simp[WShape.has,WShape.arms,WShape.armsAll])
  (show(WTm.eq .res (.lit (.bool true))).value [] { args:=args,res:=aa (.bool true),after:=args } =aa (.bool (true==true))from w_eq_bool (w_res rfl) w_lit) rfl
theorem Bi{l:OpenLaw}{n:Nat}{q:Program}{loose:List Str}{XP:(Str->Option Value)->Heap->Prop}{YP:abZ->Heap->Prop}{d:DefRec}
  (hn:l.most=aa n)(KS:d.params.defaults=[])
  (call:∀(w:abZ) (bR cA:aaj) (mg mb:Str->Option Value) (fa:Addr) (o:Obj) (pm cd doc:Value) (a:Addr) (vs:List Value) (ns:List Int),
   Ground q loose [] XP w bR mg mb cA.heap->YP w cA.heap->
   cA.heap.get? fa=aa o->o.data= .func (docDef d.name d.params d.body d.scope pm cd doc)->cA.heap.CodeRec cd d.name->mg d.name=aa (.ref fa)->
   cA.heap.get? a=aa { cls:=.type "list",data:=.seq vs.toArray }->am1 vs ns->ns.length<=n->cA.gens= #[]->
   ai9 (abu l.prog w) al0 (.call (.ref fa) ⟨[.ref a],[]⟩) (λr s'=>r= .ok (.ret (.bool true))/\OldK cA.heap s'.heap/\s'.os=cA.os/\aj2 s'.gens) cA):
  WalkO q loose XP YP l.row.toRowW d [] (λf vs=>amT f vs):=by
 intro w bR cA mg mb G Y fa o pm cd doc dV kV ho hd sV hD KW hg args vals as GX alq ZV OD ZW;obtain rfl:dV= .none:=Dflts.none hD KS;obtain rfl:kV= .none:=Dflts.noKw hD;obtain⟨a,vs,ns,rfl,rfl,KY,hints,hlen⟩:=Fc hn GX OD;refine enter_call (ajs (call w bR cA mg mb fa o pm cd doc a vs ns G Y ho (fd_plain hd) sV KW KY hints hlen hg) λr s' hq=>?_);obtain⟨rfl,h2,h3,h4⟩:=hq;exact⟨.inl ⟨.bool true,.bool true,[],rfl,λ_=>rfl,.bool true,Fd l _,λ_=>⟨al1,λ_ hm=>(nomatch hm)⟩⟩,h2,h3,h4⟩
section
variable{prog:Program}{w:abZ}{A:abL}{E:Value->aaj->Prop}{s:aaj}{K:Frag}
end
end ZU
namespace L2
open PySem PySem.Spec PyProof.Rows
theorem yc:∀{vs:List Value}{ns:List Int},am1 vs ns->Vals (ns.map V.int) vs
 |_,_,.nil=>.nil
 |_,_,.cons n t h=>.cons ⟨t,rfl⟩ (yc h)
def C2(H:Hp):Prop:=∀b,H b=ae\/∃o xs,H b=aa (.iS o (.lst xs))
theorem Iv{P:Program}{w:abZ}{K:aaa}{mg mb:Str->Option Value}{CX:vC}{k:Nat}{fa a:Addr}{fd:abd}{x:Str}{sp:Sp}{cA:aaj}{vs:List Value}{ns:List Int}
  (KX:K.In cA.heap)(Iw:cA.heap.Ns aaA mg)(hb:cA.heap.Ns ai2 mb)(OE:∀x:Str,x≠"__name__"->mb x=ab1 x)(ZX:cA.heap.NoLimit)(hbm:∃bm ob,mg "__builtins__" =aa (.ref bm)/\bm≠ai2/\cA.heap.get? bm=aa ob/\ob.cls= .type "module"/\ob.dict=aa ai2/\ob.data= .plain)(hg:cA.gens= #[])
  (ha:cA.heap.get? a=aa { cls:=.type "list",data:=.seq vs.toArray })(hi:am1 vs ns)(hl:ns.length<=sizeLine)(hr:eX k al0)
  (F:∀base:Heap,K.In base->base.Ns aaA mg->bX P w K mg base CX k fa fd [x] sp)(T9:∀(s:aaj) (u:Value),alW s fd ⟨[u],[]⟩ [(x,u)])
  (s_:∀H:Hp,C2 H->dX K H a (ns.map V.int)->sp [.ref a] H (λv _=>v= .bl true) λ_ _ _=>False)
  (T_:∀H e s',CX [] H cA (λ_ _ _=>False) e s'->False):
  ai9 (abu P w) al0 (.call (.ref fa) ⟨[.ref a],[]⟩) (λr s'=>r= .ok (.ret (.bool true))/\OldK cA.heap s'.heap/\s'.os=cA.os/\aj2 s'.gens) cA:=by
 have rv:=yc hi;have ZY:=hi.length
 -- from an abstract heap in ahg nothing but oF OF may be tracked
 have core:∀H:Hp,C2 H->dX K H a (ns.map V.int)->ip P w H cA.heap->(∀b,H b≠ae->b=a)->(H a≠ae->K.lookup a=ae)->
   ai9 (abu P w) al0 (.call (.ref fa) ⟨[.ref a],[]⟩) (λr s'=>r= .ok (.ret (.bool true))/\OldK cA.heap s'.heap/\s'.os=cA.os/\aj2 s'.gens) cA:=by
  intro H hO hS bB hA hK;have yd:∀{b:Addr}{o:Obj},cA.heap.get? b=aa o->H b=ae->(ui cA.heap H).get? b=aa o:=λe n=>Ib e n
  have KC:∀{b:Addr}{o:Obj}{es:Array amx}{ep:Nat},cA.heap.get? b=aa o->o.data= .dict es ep->H b=ae:=λ{b o es ep} e d=>by
   cases q:H b with
   |none=>rfl
   |some u=>
    have e':b=a:=hA b (by rw[q];simp);subst e';rw[ha]at e;cases e;have d':Data.seq vs.toArray _=Data.dict es ep:=d;cases d'
  have OG:∀{b:Addr}{m:Str->Option Value},cA.heap.Ns b m->(ui cA.heap H).Ns b m:=λ{b m} ⟨o,es,ep,e,d,r⟩=>⟨o,es,ep,yd e (KC e d),d,r⟩
  have ZZ:K.In (ui cA.heap H):=λb o e=>yd (KX b o e) (by
   cases q:H b with
   |none=>rfl
   |some u=>
    have e':b=a:=hA b (by rw[q];simp);subst e';rw[hK (by rw[q];simp)]at e;cases e)
  have hM:Mod K mg (ui cA.heap H):=⟨ZZ,OG Iw,⟨mb,OG hb,OE⟩,let ⟨mc,h1,h2⟩:=ZX;⟨mc,OG h1,h2⟩,let ⟨bm,ob,b1,b2,b3,b4,b5,b6⟩:=hbm;⟨bm,ob,b1,b2,yd b3 (by
   cases q:H bm with
   |none=>rfl
   |some u=>
    have e':bm=a:=hA bm (by rw[q];simp);rw[e',ha]at b3;cases b3;cases b6),b4,b5,b6⟩⟩
  have e0:xX P w K mg (ui cA.heap H) al0 [] cA H:=⟨rfl,hM,λb o e=>J1 e,Nat.le_of_eq (EI _ _),trivial,λb hb=>absurd (show b∈([]:List Addr)from hb) (by simp),bB,.of_eq hg⟩;refine ajs ((F _ ZZ (OG Iw)).run al0 [] cA H ⟨[.ref a],[]⟩ [.ref a] [.ref a] _ _ hr e0 (T9 cA (.ref a)) (.cons rfl .nil) (s_ H hO hS)) λr s' h=>?_
  cases r with
  |error e=>exact(T_ H e s' h).elim
  |ok fl=>
   cases fl with
   |next=>exact ahR h
   |brk=>exact ahR h
   |cont=>exact ahR h
   |ret u=>
    obtain⟨v,H',os,bare,un,Ao,r',q⟩:=h;have q':v= .bl true:=q;subst q';obtain rfl:u=ai1 true:=r';refine⟨rfl,OldK.of_keep λb o e=>?_,os,bare⟩;cases q:H b with
    |none=>exact un.keep b o e q (by intro z;exact absurd (show b∈([]:List Addr)from z) (by simp)) (by simp)
    |some u=>
     rcases hO b with z|⟨ob,xs,z⟩
     .rw[q]at z;cases z
     .have z2:=un.kR b ob _ z
      obtain⟨e1,_⟩:=bB b _ z;obtain⟨e2,_⟩:=Ao b _ z2;rw[e]at e1;cases e1;exact e2
 cases hk:K.lookup a with
 |some o=>
  -- oF OF is one of oF Zl own objects
  have e:=KX a o hk;rw[ha]at e;cases e;refine core (λ_=>ae) (λ_=>.inl rfl) (.inr ⟨_,vs.toArray,_,hk,rfl,rfl,rfl,by rw[aa3,ZY];exact hl,by simpa using rv⟩) (λb u z=>by have z':(ae:Option HO)=aa u:=z;cases z') (λb z=>absurd rfl z) λz=>absurd rfl z
 |none=>
  refine core (λb=>if b=a then aa (.iS { cls:=.type "list",data:=.seq vs.toArray } (.lst (ns.map V.int)))else ae) (λb=>?_) (.inl (.inr ⟨{ cls:=.type "list",data:=.seq vs.toArray },if_pos rfl⟩)) (λb u z=>?_) (λb z=>?_) λ_=>hk
  .by_cases hb:b=a
   .exact .inr ⟨_,_,if_pos hb⟩
   .exact .inl (if_neg hb)
  .by_cases hb:b=a
   .have z':=(if_pos hb).symm.trans z
    cases z';subst hb;exact⟨ha,by rw[aaE];exact hl,vs,_,rv,ha⟩
   .have z':=(if_neg hb).symm.trans z
    cases z'
  .by_cases hb:b=a
   .exact hb
   .exact absurd (if_neg hb) z
end L2
namespace L2
open PySem PySem.Spec PyProof.Rows
abbrev Z0{K:aaa}{h:Heap}(_:K.In h):aaa:=K
theorem KZ{l:amG}{n k:Nat}{q:Program}{loose:List Str}{XP:(Str->Option Value)->Heap->Prop}{YP:abZ->Heap->Prop}{d:DefRec}{K:Params->aaa}{CX:abZ->vC}{sp:abZ->Sp}{x:Str}
  (hn:l.most=aa n)(Iy:n<=sizeLine)(KS:d.params.defaults=[])(hr:eX k al0)
  (hY:∀(w:abZ) (h:Heap),YP w h->(K w.params).In h)
  (F:∀(w:abZ) (mg:Str->Option Value) (fa:Addr) (h:Heap),(K w.params).In h->h.Ns aaA mg->mg d.name=aa (.ref fa)->
   ∃fd:abd,(∀(s:aaj) (u:Value),alW s fd ⟨[u],[]⟩ [(x,u)])/\
    ∀base:Heap,(K w.params).In base->base.Ns aaA mg->bX l.prog w (K w.params) mg base (CX w) k fa fd [x] (sp w))
  (s_:∀(w:abZ) (H:Hp) (a:Addr) (ns:List Int),ns.length<=n->C2 H->dX (K w.params) H a (ns.map V.int)->sp w [.ref a] H (λv _=>v= .bl true) λ_ _ _=>False)
  (T_:∀(w:abZ) (H:Hp) (s:aaj) (e:Value) (s':aaj),CX w [] H s (λ_ _ _=>False) e s'->False):
  am2 q loose XP YP l.row.toRowW d [] (λf vs=>amT f vs):=by
 refine ZU.Bi hn KS λw bR cA mg mb fa o pm cd doc a vs ns G Y ho hd sV KW KY hints hlen hg=>?_
 have KX:=hY w _ Y;obtain⟨fd,hb,hF⟩:=F w mg fa _ KX G.T.g KW;exact Iv KX G.T.g G.T.b G.T.builtins G.T.nolimit G.T.bmain hg KY hints (ab2 hlen Iy) hr hF hb (λH hO hS=>s_ w H a ns hlen hO hS) λH e s'=>T_ w H cA e s'
end L2
namespace L2
open PySem PySem.Spec PyProof.Rows
def aW(s:Stmt):Arguments:=match s with
 |.FunctionDef _ a _ _ _ _ _ _ _ _=>a
 |_=>{ posonlyargs:=[],args:=[],vararg:=ae,kwonlyargs:=[],kw_defaults:=[],kwarg:=ae,defaults:=[] }
def aS(s:Stmt):List Stmt:=match s with
 |.FunctionDef _ _ b _ _ _ _ _ _ _=>b
 |_=>[]
def ar(s:Stmt):Scope:=match s with
 |.FunctionDef _ _ _ _ _ _ sc _ _ _=>sc
 |_=>{ kind:=.function,names:=[],isGenerator:=false,isCoroutine:=false }
abbrev d8:vC:=λ_ _ _ _ _ _=>False
abbrev E0:XK:=λ_ _ _=>False
theorem Ua{X:Cx}:Passes d8 X E0:=λ_ _ _ _ _ _ _ h=>h.elim
structure eG(K:aaa)(x qual:Str)(st:Stmt)(f:Addr)(fd:abd):Prop where
 ex:∃(oc:Value) (od:Option Addr) (kV doc pm:Value) (an:Option Addr) (bS ct:Value) (sZ:Array (Option Value)),
  fd=aa2 x qual (aW st) (aS st) (ar st) .none kV doc pm an bS ct/\K.lookup f=aa ⟨oc,od,.func fd,sZ⟩/\aaM K bS qual=true
 kp:aaJ K (.ref f)=true
section
variable{P:Program}{w:abZ}{K:aaa}{mg:Str->Option Value}{base:Heap}
variable{qual:Str}
theorem eG.ok{x:Str}{st:Stmt}{f:Addr}{fd:abd}{N ps:List Str}{k:Nat}{sp:Sp}(F:eG K x qual st f fd)(S:bg N ps (ar st))(len:∀vs H Q E,sp vs H Q E->vs.length=ps.length)
  (kW:∀(bS:Value) (A:abL) (outer:List Env) (s:aaj) (H:Hp) (vs:List V) (Q:VK) (E:XK),eX k (A.deeper (aja qual (ar st) s.heap.objs.size f bS))->sp vs H Q E->
   ∃t,nM (mf d8 P w K mg base N qual (ar st) f bS A outer s H E).CA (aS st) t/\t { nx:=λ_ H'=>Q .aA H',rt:=Q } (start N vs) H):bX P w K mg base d8 (k+1) f fd ps sp:=by
 obtain⟨oc,od,kV,doc,pm,an,bS,ct,sZ,rfl,lk,sV⟩:=F.ex;refine E3 lk sV S len λA outer s H vs Q E hr s_=>?_
 obtain⟨t,h,q⟩:=kW bS A outer s H vs Q E hr s_;exact⟨t,h.CA,q⟩
theorem eG.binds{x:Str}{st:Stmt}{f:Addr}{fd:abd}{ps:List Str}(F:eG K x qual st f fd)
  (h:∀(kV doc pm:Value) (an:Option Addr) (bS ct:Value) (us:List Value),us.length=ps.length->bindArgs (aa2 x qual (aW st) (aS st) (ar st) .none kV doc pm an bS ct) ⟨us,[]⟩=pure (ps.zip us)):Binds K fd ps []:=by
 obtain⟨oc,od,kV,doc,pm,an,bS,ct,sZ,rfl,lk,sV⟩:=F.ex;exact .all (h kV doc pm an bS ct)
theorem bP{x:Str}{st:Stmt}{f:Addr}{oc:Value}{od an:Option Addr}{sZ:Array (Option Value)}{kV doc pm bS ct:Value}(l:K.lookup f=aa ⟨oc,od,.func (aa2 x qual (aW st) (aS st) (ar st) .none kV doc pm an bS ct),sZ⟩)
  (c:aaM K bS qual=true)(k:aaJ K (.ref f)=true):eG K x qual st f (aa2 x qual (aW st) (aS st) (ar st) .none kV doc pm an bS ct):=⟨⟨oc,od,kV,doc,pm,an,bS,ct,sZ,rfl,l,c⟩,k⟩
end
section
variable{X:Cx}
theorem pv(i:Nat){x:Str}{pos:Pos}(hN:X.N[i]? =aa x:=by rfl)(hv:EJ X.env.scope x:=by first|exact abf rfl|exact ana (abf rfl)|exact ana (ana rfl))(hd:(x==("__debug__":Str))=false:=by decide)
  (sV:(x==("__classdict__":Str))=false:=by decide):PE X (.Name x pos) (Cz i):=xx hN hv hd sV
end
def GY(H H':Hp):Prop:=∀b o,H b=aa o->H' b=aa o
theorem GY.seq{K:aaa}{H H':Hp}{a:Addr}{xs:List V}(e:GY H H')(h:dX K H a xs):dX K H' a xs:=by
 rcases h with(h|⟨o,h⟩)|h
 .exact .inl (.inl (e _ _ h))
 .exact .inl (.inr ⟨o,e _ _ h⟩)
 .exact .inr h
end L2
namespace L2
open PySem PySem.Spec PyProof.Rows
section
variable{κ:Type}[DecidableEq κ]
def nS(aP:List (κ×V))(k:κ):Option V:=(aP.find? λkv=>decide (kv.1=k)).map (·.2)
def putK(aP:List (κ×V))(k:κ)(v:V):List (κ×V):=
 if (aP.any λkv=>decide (kv.1=k))=true then aP.map (λkv=>if kv.1=k then(kv.1,v)else kv)else aP++[(k,v)]
theorem vG{p:κ×V}{r:List (κ×V)}{k:κ}(e:p.1=k):nS (p::r) k=aa p.2:=by simp[nS,ahe,e]
theorem rH{p:κ×V}{r:List (κ×V)}{k:κ}(e:¬p.1=k):nS (p::r) k=nS r k:=by simp[nS,ahe,e]
theorem Bj(aP:List (κ×V))(k:κ)(v:V):(putK aP k v).length<=aP.length+1:=by
 unfold putK;split
 .rw[aaE];omega
 .rw[aaf,aac,aam];omega
variable{vs:List (κ×Value)}
theorem KV.val{aP:List (κ×V)}(r:KV aP vs)(k:κ):uh (nS aP k) (al2 vs k):=by
 unfold KV at r
 induction r with
 |nil=>exact agA
 |@cons p q ps qs h t ih=>
  obtain⟨h1,h2⟩:=h
  by_cases e:p.1=k
  .have e':q.1=k:=h1.symm.trans e
   have b:al2 (q::qs) k=aa q.2:=by simp[al2,ahe,e']
   rw[vG e,b];exact h2
  .have e':¬q.1=k:=λz=>e (h1.trans z)
   have b:al2 (q::qs) k=al2 qs k:=by simp[al2,ahe,e']
   rw[rH e,b];exact ih
theorem KV.any{aP:List (κ×V)}(r:KV aP vs)(k:κ):(aP.any λkv=>decide (kv.1=k))=vs.any λkv=>decide (kv.1=k):=by
 unfold KV at r
 induction r with
 |nil=>rfl
 |cons h t ih=>rw[aiW,aiW,ih,h.1]
theorem KV.Z1{aP:List (κ×V)}(r:KV aP vs)(k:κ){y:V}{u:Value}(ry:RelV y u):
  KV (aP.map λkv=>if kv.1=k then(kv.1,y)else kv) (vs.map λkv=>if kv.1=k then(kv.1,u)else kv):=by
 unfold KV at r |-
 induction r with
 |nil=>exact .nil
 |@cons p q ps qs h t ih=>
  rw[abk,abk];refine .cons ?_ ih;obtain⟨h1,h2⟩:=h
  by_cases e:p.1=k
  .rw[if_pos e,if_pos (h1.symm.trans e)];exact⟨h1,ry⟩
  .rw[if_neg e,if_neg (λz=>e (h1.trans z))];exact⟨h1,h2⟩
theorem KV.put{aP:List (κ×V)}(r:KV aP vs)(k:κ){y:V}{u:Value}(ry:RelV y u):KV (putK aP k y) (stored vs k u):=by
 unfold putK stored;rw[r.any k]
 by_cases e:(vs.any λkv=>decide (kv.1=k))=true
 .rw[if_pos e,if_pos e];exact r.Z1 k ry
 .rw[if_neg e,if_neg e];exact Paired.snoc r ⟨rfl,ry⟩
theorem KV.length{aP:List (κ×V)}(r:KV aP vs):aP.length=vs.length:=alm r
end
variable{P:Program}{w:abZ}
theorem Fe{k:Key}{u:Value}(r:RelV (kV k) u):(d7 P w).is k u=true:=by
 cases k with
 |inl i=>obtain⟨t,e⟩:=(show ∃t,u=ah4 i t from r);subst e;exact A8 P w i t
 |inr x=>obtain⟨t,e⟩:=(show ∃t,u=ag0 x t from r);subst e;exact A9 P w x t
theorem ye:∀{ks:List Key}{us:List Value},Vals (ks.map kV) us->ItemsAre (d7 P w) ks us
 |[],_,r=>by rw[agy]at r;cases r;exact .nil
 |k::ks,_,r=>by
  rw[abk]at r;cases r with
  |cons h t=>exact .cons (Fe h) (ye t)
abbrev KT(H:Hp):List (List Key×V)->List (List Key×Addr×Value)->Prop:=ajo λp q=>p.1=q.1/\H q.2.1=aa (.tup (p.1.map kV))/\RelV p.2 q.2.2
variable{H:Hp}{aP:List (List Key×V)}
theorem KT.val{xs:List (List Key×Addr×Value)}(r:KT H aP xs)(k:List Key):uh (nS aP k) ((atKey xs k).map (·.2)):=by
 induction r with
 |nil=>exact agA
 |@cons p q ps qs h t ih=>
  obtain⟨h1,_,h2⟩:=h
  by_cases e:p.1=k
  .have e':q.1=k:=h1.symm.trans e
   have b:atKey (q::qs) k=aa q.2:=by simp[atKey,ahe,e']
   rw[vG e,b];exact h2
  .have e':¬q.1=k:=λz=>e (h1.trans z)
   have b:atKey (q::qs) k=atKey qs k:=by simp[atKey,ahe,e']
   rw[rH e,b];exact ih
section
variable{P:Program}{w:abZ}{H:Hp}{h:Heap}{a:Addr}
theorem K0{u:HO}(ok:ip P w H h)(e:Rd H a u):cH P w H h a u:=e.ok ok
theorem Ff{aP:List (Key×V)}(ok:ip P w H h)(e:Rd H a (.dK aP)):aP.length<=sizeLine/\(a==ahQ)=false/\∃vs,KV aP vs/\h.DictOf (d7 P w) a vs:=
 show cH P w H h a (.dK aP)from K0 ok e
theorem Ub{aP:List (Key×V)}(ok:ip P w H h)(e:H a=aa (.dK aP)):aP.length<=sizeLine/\(a==ahQ)=false/\∃vs,KV aP vs/\h.DictOf (d7 P w) a vs:=Ff ok (.inl e)
theorem GZ{ks:List Key}(ok:ip P w H h)(e:H a=aa (.tup (ks.map kV))):(amA (d7 P w)).is h ks a:=by
 obtain⟨_,its,r,o,h1,h2,n,h3⟩:=(show cH P w H h a (.tup (ks.map kV))from ok a _ e);exact⟨o,its.toArray,n,h1,h2,h3,by simpa using ye r⟩
theorem K1{aP:List (List Key×V)}(ok:ip P w H h)(e:Rd H a (.dT aP)):aP.length<=sizeLine/\(a==ahQ)=false/\
  ∃xs,KT H aP xs/\h.DictOfH (amA (d7 P w)) a xs:=by
 obtain⟨z,y,xs,r,o,es,ep,h1,h2,h3,h4,h5⟩:=(show cH P w H h a (.dT aP)from K0 ok e);refine⟨z,y,xs,r,o,es,ep,h1,h2,h3,h4,λx hx=>?_,h5⟩;have all:∀{l:List (List Key×V)}{m:List (List Key×Addr×Value)},KT H l m->∀x∈m,(amA (d7 P w)).is h x.1 x.2.1:=by
  intro l m q
  induction q with
  |nil=>intro x hx;exact nomatch hx
  |@cons p q ps qs hq t ih=>
   intro x hx;rcases aaI.mp hx with e|hx
   .subst e
    exact GZ ok (by rw[<-hq.1];exact hq.2.1)
   .exact ih x hx
 exact all r x hx
end
def wB(H:Hp)(a:Addr)(y:V)(r:Option V):Prop:=
 (∃aP k,Rd H a (.dK aP)/\y=kV k/\r=nS aP k)\/∃aP k b,Rd H a (.dT aP)/\y= .ref b/\H b=aa (.tup (k.map kV))/\r=nS aP k
def G0(H:Hp)(a:Addr)(y v:V)(H':Hp):Prop:=
 (∃aP k,H a=aa (.dK aP)/\y=kV k/\aP.length<sizeLine/\H'=upd H a (.dK (putK aP k v)))\/
 ∃aP k b,H a=aa (.dT aP)/\y= .ref b/\H b=aa (.tup (k.map kV))/\aP.length<sizeLine/\H'=upd H a (.dT (putK aP k v))
variable{a:Addr}
theorem wB.k{aP:List (Key×V)}{k:Key}(e:H a=aa (.dK aP)):wB H a (kV k) (nS aP k):=.inl ⟨aP,k,.inl e,rfl,rfl⟩
theorem wB.t{b:Addr}{k:List Key}(e:H a=aa (.dT aP))(eb:H b=aa (.tup (k.map kV))):wB H a (.ref b) (nS aP k):=.inr ⟨aP,k,b,.inl e,rfl,eb,rfl⟩
theorem G0.k{aP:List (Key×V)}{k:Key}{v:V}(e:H a=aa (.dK aP))(hl:aP.length<sizeLine):G0 H a (kV k) v (upd H a (.dK (putK aP k v))):=.inl ⟨aP,k,e,rfl,hl,rfl⟩
theorem G0.t{b:Addr}{k:List Key}{v:V}(e:H a=aa (.dT aP))(eb:H b=aa (.tup (k.map kV)))(hl:aP.length<sizeLine):
  G0 H a (.ref b) v (upd H a (.dT (putK aP k v))):=.inr ⟨aP,k,b,e,rfl,eb,hl,rfl⟩
section
variable{X:Cx}{pins:List (Addr×Obj)}{σ:St}{H:Hp}{s:aaj}{a:Addr}{y v:V}{u r:Value}{o:Option V}{A:abL}{E:Value->aaj->Prop}
theorem Inv.big(I:Inv X pins σ H s):ahQ<s.heap.objs.size:=by
 have h:aaA<s.heap.objs.size:=(I.mod.glob.keeps I.bk).lt;exact aiG (by decide) h
theorem Fg{Q:Value->aaj->Prop}(hu:A.units+1<cLine)(I:Inv X pins σ H s)(g:wB H a y (aa v))(ry:RelV y u)(h:∀w' s',Inv X pins σ H s'->RelV v w'->Q w' s'):
  abo (abu X.prog X.w) A (aj7 (.ref a) u) Q E s:=by
 rcases g with⟨aP,k,e,ey,l⟩|⟨aP,k,b,e,ey,eb,l⟩
 .subst ey
  obtain⟨z,hd,vs,rel,dd⟩:=Ff I.bB e;obtain⟨w',hw,qc⟩:=uh.some_of (v:=v) (o:=al2 vs k) (by rw[l];exact rel.val k);exact wpAny_getItem_of (Fe ry) dd.mapOf hw (h w' _ (I.tok _) qc)
 .subst ey
  cases (show u=abm b from ry);obtain⟨z,hd,xs,rel,dd⟩:=K1 I.bB e;obtain⟨w',hw,qc⟩:=uh.some_of (v:=v) (o:=(atKey xs k).map (·.2)) (by rw[l];exact rel.val k);obtain⟨p,hp,hp2⟩:=adi.mp hw;refine wpAny_getItem_heap (tupleKind_room_in1 hu) (GZ I.bB eb) dd hp ?_;rw[hp2];exact h w' _ (I.tok _) qc
theorem K2{h':Heap}{t':Nat}{ob:HO}(I:Inv X pins σ H s)(mu:JZ (H a))(hs:ahH a s.heap h')(he:∃q,h'.get? a=aa q)(new:cH X.prog X.w (upd H a ob) h' a ob):
  Inv X pins σ (upd H a ob) { s with heap:=h',toks:=t' }:=
 I.write (x:=a) (e:=a) mu (.inl rfl) (λb q hb z=>(hs.2 b hb).trans z) he new
theorem OH{P:Program}{w:abZ}{H':Hp}{h':Heap}{aP:List (Key×V)}{vs:List (Key×Value)}(z:aP.length<=sizeLine)(hd:(a==ahQ)=false)(rel:KV aP vs)(dd:h'.DictOf (d7 P w) a vs):
  cH P w H' h' a (.dK aP):=⟨z,hd,vs,rel,dd⟩
end
section
variable{X:Cx}{pins:List (Addr×Obj)}{σ:St}{H:Hp}{s:aaj}{a:Addr}{aP:List (Key×V)}{k:Key}{u:Value}{A:abL}{E:Value->aaj->Prop}
end
def K3(i:acu):Prop:=∀ov iv,ak4 i false ov iv=operate [ov,iv] (aj7 ov iv)
variable{pos:Pos}
theorem K4{prog:Program}{A:abL}{E:Value->aaj->Prop}{s:aaj}{env:Env}{value slice:acu}{T id:String}{Q:Value->aaj->Prop}
  (hl:alX (.type T) "__getitem__" =pure (aa (.builtin id)))(hs:K3 slice)
  (h:abo (abu prog w) A (ahx value env) (λo cA=>abo (abu prog w) A (ahx slice env) (λi nN=>nN.TypeIs o T/\abo (abu prog w) A (aj7 o i) Q E nN) E cA) E s):
  abo (abu prog w) A (ahx (.Subscript value slice pos) env) Q E s:=by
 refine Subscript_ (acd h (λo cA pV=>acd pV (λi nN C3=>?_) λ_ _ x=>x) λ_ _ x=>x);obtain⟨hT,C3⟩:=C3;unfold alL;refine aab ?_;rw[getitemInPython_of_ne hT.not_modules];refine aab (ahq hT hl ?_);have fin:abo (abu prog w) A (ak4 slice false o i) (λr wC=>abo (abu prog w) A (letTemporaryGo value o r >>= λ_=>pure r) Q E wC) E nN:=by
  rw[hs o i];exact wpAny_operating (acd C3 (λr wC G3=>aab (wpAny_letTemporaryGo (aas G3))) λ_ _ x=>x)
 first
  |exact aas (aab fin)
  |exact aab (aas (aab fin))
  |exact aab fin
variable{X:Cx}
theorem Bk{pins:List (Addr×Obj)}{σ:St}{s:aaj}{y:V}{o:Option V}(I:Inv X pins σ H s)(g:wB H a y o):s.TypeIs (.ref a) "dict":=by
 rcases g with⟨aP,k,e,_,_⟩|⟨aP,k,b,e,_,_,_⟩
 .obtain⟨_,_,vs,_,dd⟩:=Ff I.bB e
  exact dd.typeIs
 .obtain⟨_,_,xs,_,dd⟩:=K1 I.bB e
  exact dd.typeIs
def Uc(td ty:TE):TE:=λσ H Q=>td σ H λx H1=>ty σ H1 λy H2=>∃a v,x= .ref a/\wB H2 a y (aa v)/\Q v H2
section
variable{X:Cx}{o i e value:acu}{pos pos' Ky:Pos}{td ty tv:TE}
theorem K5(hu:X.A.units+1<cLine)(ho:PE X o td)(hi:PE X i ty)(hs:K3 i):PE X (.Subscript o i pos) (Uc td ty):=by
 intro pins s σ H Q I h;refine K4 PySem.F.slot_dict_getitem.lookup hs (cF (ho pins s σ H _ I h) λu s1 ⟨x,H1,I1,rx,q1⟩=>cF (hi pins s1 σ H1 _ I1 q1) λiv s2 cg=>?_);obtain⟨y,H2,I2,ry,a,v,ex,g,q2⟩:=cg;subst ex;obtain rfl:u=abm a:=rx;exact⟨Bk I2 g,Fg hu I2 g ry λw' s3 I3 qc=>⟨v,H2,I3,qc,q2⟩⟩
end
theorem Iz(h:Heap)(hb:ahQ<h.objs.size):cH P w H (h.push { cls:=.type "dict",data:=.dict #[] }) h.objs.size (.dK []):=
 ⟨ab7 _,beq_eq_false_iff_ne.mpr (ahb (abA hb)),[],.nil,Heap.DictOf.new h⟩
section
variable{X:Cx}{pos:Pos}
end
def Bl:List (TE×TE)->St->Hp->(List (V×V)->Hp->Prop)->Prop
 |[],_,H,Q=>Q [] H
 |(tk,tv)::r,σ,H,Q=>tk σ H λx H1=>tv σ H1 λy H2=>Bl r σ H2 λps H3=>Q ((x,y)::ps) H3
abbrev VV:List (V×V)->List (Value×Value)->Prop:=ajo λp q=>RelV p.1 q.1/\RelV p.2 q.2
def K6(X:Cx)(pos:Pos)(keys:List (Option acu))(values:List acu)(Bm:List (TE×TE)):Prop:=
 ∀(pins:List (Addr×Obj)) (s:aaj) (σ:St) (H:Hp) (Q:List (V×V)->Hp->Prop),Inv X pins σ H s->Bl Bm σ H Q->
  abo (abu X.prog X.w) X.A (evalPairs (pairTrees keys values X.env pos)) (λvs s'=>∃ps H',Inv X pins σ H' s'/\VV ps vs/\Q ps H') X.xe s
theorem K7:K6 X pos [] [] []:=λpins s σ H Q I h=>pairTrees_nil_walk ⟨[],H,I,.nil,h⟩
variable{Bm:List (TE×TE)}
theorem Ap{k v:acu}{ks:List (Option acu)}{vs:List acu}{tk tv:TE}(hk:PE X k tk)(hv:PE X v tv)(hr:K6 X pos ks vs Bm):
  K6 X pos (aa k::ks) (v::vs) ((tk,tv)::Bm):=λpins s σ H Q I h=>
 pairTrees_cons_walk (cF (hk pins s σ H _ I h) λu s1 ⟨x,H1,I1,rx,q1⟩=>cF (hv pins s1 σ H1 _ I1 q1) λw2 s2 ⟨y,H2,I2,ry,q2⟩=>
  cF (hr pins s2 σ H2 _ I2 q2) λws s3 ⟨ps,H3,I3,rel,q3⟩=>⟨(x,y)::ps,H3,I3,.cons ⟨rx,ry⟩ rel,q3⟩)
def kz(aP more:List (Key×V)):List (Key×V):=more.foldl (λacc kv=>putK acc kv.1 kv.2) aP
theorem KV.merge:∀{more:List (Key×V)}{rs:List (Key×Value)}{aP:List (Key×V)}{vs:List (Key×Value)},KV more rs->KV aP vs->KV (kz aP more) (merged vs rs):=by
 intro more rs aP vs r;unfold KV at r
 induction r generalizing aP vs with
 |nil=>intro q;exact q
 |@cons p q ps qs h t ih=>
  intro r0;have e:KV (putK aP p.1 p.2) (stored vs q.1 q.2):=by
   have:=r0.put p.1 h.2;rw[<-h.1];exact this
  exact ih e
theorem qm:∀(more aP:List (Key×V)),(kz aP more).length<=aP.length+more.length
 |[],aP=>by show aP.length<=aP.length+0;omega
 |p::r,aP=>by
  have h1:=qm r (putK aP p.1 p.2);have h2:=Bj aP p.1 p.2;show(kz (putK aP p.1 p.2) r).length<=_;rw[aac];omega
theorem wD{P:Program}{w:abZ}:∀{aP:List (Key×V)}{ws:List (Value×Value)},VV (aP.map λkv=>(kV kv.1,kv.2)) ws->∃rs,Carries (d7 P w) ws rs/\KV aP rs
 |[],_,r=>by rw[agy]at r;cases r;exact⟨[],agA,.nil⟩
 |p::aP,_,r=>by
  rw[abk]at r;cases r with
  |@cons a b as bs h t=>
   obtain⟨rs,c,q⟩:=wD (P:=P) (w:=w) t;obtain⟨b1,b2⟩:=b;exact⟨(p.1,b2)::rs,⟨Fe h.1,rfl,c⟩,.cons ⟨rfl,h.2⟩ q⟩
def Ud(Bm:List (TE×TE)):TE:=λσ H Q=>∀p,H p=ae->Bl Bm σ (upd H p (.dK [])) λps H2=>H2 p=aa (.dK [])/\∃aP:List (Key×V),ps=aP.map (λkv=>(kV kv.1,kv.2))/\aP.length<=15/\Q (.ref p) (upd H2 p (.dK (kz [] aP)))
theorem K8{keys:List (Option acu)}{values:List acu}(h:K6 X pos keys values Bm)(wk:keys.all (·.isSome)=true)(hl:keys.length=values.length)(h0:keys≠[])
  (h15:keys.length<=15):PE X (.Dict keys values pos) (Ud Bm):=by
 intro pins s σ H Q I q;have hn:=I.bB.fresh (aat s.heap.objs.size);have I1:=I.laid (a:=s.heap.objs.size) (o:=.dK []) (h':=s.heap.push { cls:=.type "dict",data:=.dict #[] }) (t':=s.toks) (λ_ _ q=>aap _ q) (aat _) (Iz s.heap I.big);refine wpAny_Dict_walk (knd:=d7 X.prog X.w) wk hl h0 h15 (cF (h pins _ σ _ _ I1 (q _ hn)) λws s2 cg=>?_);obtain⟨ps,H2,I2,rel,e,aP,ep,lk,q2⟩:=cg;subst ep;obtain⟨rs,c,rk⟩:=wD (P:=X.prog) (w:=X.w) rel;obtain⟨z,hd,kA,r0,dd⟩:=Ub I2.bB e;cases r0;refine⟨rs,c,dd,λh' Z2 hs=>⟨.ref s.heap.objs.size,_,?_,rfl,q2⟩⟩;have hz:(kz [] aP).length<=sizeLine:=by
  have h1:=qm aP [];rw[aam]at h1;rw[adt];omega
 have he:∃q,h'.get? s.heap.objs.size=aa q:=let ⟨q,_,_,hq,_⟩:=Z2;⟨q,hq⟩;exact K2 I2 (by rw[e];exact agA) hs he (OH hz hd (rk.merge .nil) Z2)
section
variable{X:Cx}{pins:List (Addr×Obj)}{σ:St}{H:Hp}{s:aaj}{a:Addr}{y d:V}{u r:Value}{o:Option V}{A:abL}{E:Value->aaj->Prop}
end
section
variable{X:Cx}{o e f:acu}{apos cY:Pos}{td ty tx:TE}
end
section
variable{X:Cx}{pins:List (Addr×Obj)}{σ:St}{H:Hp}{s:aaj}{a:Addr}{aP:List (Key×V)}{A:abL}{E:Value->aaj->Prop}
end
section
variable{X:Cx}{pins:List (Addr×Obj)}{σ:St}{H:Hp}{s:aaj}{a:Addr}{y:V}{u:Value}{A:abL}{E:Value->aaj->Prop}
end
end L2
namespace My
structure Bd(k:Nat)(x:Int):Prop where
 lt:x.natAbs<2 ^ k
variable{j:Nat}{x:Int}
theorem Bd.mono{k:Nat}(h:Bd j x)(e:j<=k):Bd k x:=⟨aa1 h.lt (akM (by decide) e)⟩
variable{y:Int}
theorem Bd.mul{k:Nat}(h:Bd j x)(g:Bd k y):Bd (j+k) (x*y):=by
 refine⟨?_⟩;rw[amP,Nat.pow_add];exact Nat.mul_lt_mul_of_lt_of_lt h.lt g.lt
theorem Bd.add{k:Nat}(h:Bd j x)(g:Bd k y):Bd (max j k+1) (x+y):=by
 have h':=(h.mono (Nat.le_max_left j k)).lt;have g':=(g.mono (Nat.le_max_right j k)).lt;refine⟨?_⟩;rw[Nat.pow_succ];omega
theorem Bd.neg{k:Nat}(h:Bd k x):Bd k (-x):=⟨by have:=h.lt;omega⟩
theorem Bd.sub{k:Nat}(h:Bd j x)(g:Bd k y):Bd (max j k+1) (x - y):=by
 rw[Int.sub_eq_add_neg];exact h.add g.neg
theorem Bd.of_le{k:Nat}(h:Bd k y)(e:x.natAbs<=y.natAbs):Bd k x:=⟨Nat.lt_of_le_of_lt e h.lt⟩
theorem Bd.log2{k:Nat}(h:Bd k x)(hk: 0<k):x.natAbs.log2<k:=by
 have h:=h.lt
 by_cases z:x.natAbs=0
 .rw[z];simpa using hk
 .exact(amH z).mpr h
theorem xb(n:Int){m:Int}(h:m≠0):(n.fmod m).natAbs<m.natAbs:=by
 rcases Int.lt_or_gt_of_ne h with hm|hm
 .have e:n.fmod m= -((-n).fmod (-m)):=by
   rw[ame,ame,Int.neg_fdiv_neg]
   grind
  have h1: 0<=(-n).fmod (-m):=ako _ (by omega);have h2:(-n).fmod (-m)< -m:=alM _ (by omega);rw[e];omega
 .have h1: 0<=n.fmod m:=ako _ hm
  have h2:n.fmod m<m:=alM _ hm;omega
theorem IA(n m:Int):agO m (n.fmod m)=agO n m:=by
 rw[ame,Int.mul_comm,ajb,aiH]
theorem IB(n m:Int):agO m (n % m)=agO n m:=by
 rw[Int.emod_def,Int.mul_comm,ajb,aiH]
theorem gcd_zero(n:Int):((agO n 0:Nat):Int)=if n<0 then -n else n:=by
 rw[Int.gcd_zero_right];split<;>omega
theorem K9(n m:Int):agO (if n<0 then -n else n) (if m<0 then -m else m)=agO n m:=by
 split<;>split<;>simp[Int.gcd_neg,Int.neg_gcd]
def sg(n d:Int):Int:=if d<0 then -(agO n d:Int)else(agO n d:Int)
def nm(n d:Int):Int:=n.fdiv (sg n d)
def dn(n d:Int):Int:=d.fdiv (sg n d)
variable{n d:Int}
theorem yf(h:d≠0):(0:Int)<(agO n d:Int):=by
 have:=aiX n h;omega
theorem K_(h:d≠0):sg n d≠0:=by
 have:=yf (n:=n) h;unfold sg;split<;>omega
theorem IC(n d:Int):sg n d ∣ n:=by
 unfold sg;split
 .exact Int.neg_dvd.mpr (aml n d)
 .exact aml n d
theorem ID(n d:Int):sg n d ∣ d:=by
 unfold sg;split
 .exact Int.neg_dvd.mpr (ajN n d)
 .exact ajN n d
theorem G7(n d:Int):sg n d*nm n d=n:=akN (IC n d)
theorem Bn(n d:Int):sg n d*dn n d=d:=akN (ID n d)
theorem OI(h:d≠0): 0<dn n d:=by
 have e:=Bn n d;have g:=yf (n:=n) h;unfold sg at e;split at e
 .rename_i hd
  refine Int.not_le.mp λhle=>?_
  have: 0<=-(agO n d:Int)*dn n d:=Int.mul_nonneg_of_nonpos_of_nonpos (by omega) hle;omega
 .rename_i hd
  refine Int.not_le.mp λhle=>?_
  have:(agO n d:Int)*dn n d<=0:=Int.mul_nonpos_of_nonneg_of_nonpos (by omega) hle;omega
theorem yg(n d:Int):(sg n d).natAbs=agO n d:=by
 unfold sg;split<;>omega
theorem Fh(h:d≠0):agO (nm n d) (dn n d)=1:=by
 have e1:=G7 n d;have e2:=Bn n d;have e3:agO (sg n d*nm n d) (sg n d*dn n d)=(sg n d).natAbs*agO (nm n d) (dn n d):=Int.gcd_mul_left _ _ _;rw[e1,e2,yg]at e3;have g:=aiX n h;have:agO n d*1=agO n d*agO (nm n d) (dn n d):=by rw[Nat.mul_one];exact e3
 exact(Nat.eq_of_mul_eq_mul_left g this).symm
theorem Ue(h:d≠0):(nm n d).natAbs<=n.natAbs:=by
 have e:=congrArg Int.natAbs (G7 n d);rw[amP]at e;have: 0<(sg n d).natAbs:=by have:=K_ (n:=n) h;omega
 rw[<-e];exact Nat.le_mul_of_pos_left _ this
end My
namespace My
def sgn(n:Int):Int:=if 0<n then 1 else if n<0 then -1 else 0
end My
namespace My
end My
namespace My
def m0(a0 a1 a2 b0 b1 b2 c0 c1 c2 d0 d1 d2:Int):Int:=(a2*b0 - a0*b2)*(c0*d1 - c1*d0) - (a0*b1 - a1*b0)*(c2*d0 - c0*d2)
def m1(a0 a1 a2 b0 b1 b2 c0 c1 c2 d0 d1 d2:Int):Int:=(a0*b1 - a1*b0)*(c1*d2 - c2*d1) - (a1*b2 - a2*b1)*(c0*d1 - c1*d0)
def m2(a0 a1 a2 b0 b1 b2 c0 c1 c2 d0 d1 d2:Int):Int:=(a1*b2 - a2*b1)*(c2*d0 - c0*d2) - (a2*b0 - a0*b2)*(c1*d2 - c2*d1)
section
variable(a0 a1 a2 b0 b1 b2 c0 c1 c2 d0 d1 d2:Int)
def u0:Int:=b0*(a2*c2*d2) - a0*(b2*c2*d2)
def u1:Int:=b1*(a2*c2*d2) - a1*(b2*c2*d2)
def v0:Int:=d0*(a2*b2*c2) - c0*(a2*b2*d2)
def v1:Int:=d1*(a2*b2*c2) - c1*(a2*b2*d2)
def z0:Int:=c0*(a2*b2*d2) - a0*(b2*c2*d2)
def z1:Int:=c1*(a2*b2*d2) - a1*(b2*c2*d2)
end
section
variable{a0 a1 a2 b0 b1 b2 c0 c1 c2 d0 d1 d2:Int}
end
end My
namespace L2
open PySem PySem.Spec PyProof.Rows
section
variable{X:Cx}{a b:acu}{ta tb:TE}{pos:Pos}
theorem yh:eW X (ahu .Mult) (rI IntMulOk λi j=>.int (i*j)):=Ks λ_ _ _ _ _ _ _ hc q=>mul_int q hc
def Fi(_i j:Int):Prop:=j≠0/\j.natAbs.log2<9000
theorem eS:eW X (ahu .FloorDiv) (rI Fi λi j=>.int (i.fdiv j)):=Ks λ_ _ _ _ _ _ _ hc q=>floordiv_int hc.1 q (.inl (PyProof.noPylong_of_log2 hc.2))
theorem uv:fV X (.builtin "isinstance") (λxs H Q=>∃x n t k,xs=[x,.ty n]/\me X.K H x t/\ads X.K t (.type n)=aa k/\Q (.bl k) H):=by
 intro pins s σ H xs us Q I r h;obtain⟨x,n,t,k,rfl,ty,e,q⟩:=h;obtain⟨u,w',rfl,rx,rc⟩:=vals2 r;cases (show w'=ahP n from rc);exact E1 I rx ty e λtk=>⟨.bl k,H,I.tok tk,rfl,q⟩
end
section
variable{X:Cx}{K:aaa}
end
theorem aG{H:Hp}{p q:Addr}{x z:HO}(h:H p=aa x)(hq:H q=ae):upd H q z p=aa x:=by
 rw[aY (cM h hq)];exact h
theorem nU{H:Hp}{q:Addr}{z:HO}(hq:H q=ae):GY H (upd H q z):=λ_ _ h=>aG h hq
variable{us:List Value}
theorem Z3{v:Value}(h:(us++[v]).length=2):∃a,us=[a]:=by
 match us,h with
 |[a],_=>exact⟨a,rfl⟩
 |[],h=>simp at h
 |_::_::_,h=>simp at h
theorem RX{v:Value}(h:(us++[v]).length=3):∃a b,us=[a,b]:=by
 match us,h with
 |[a,b],_=>exact⟨a,b,rfl⟩
 |[],h=>simp at h
 |[_],h=>simp at h
 |_::_::_::_,h=>simp at h
theorem Ug(h:(us++[]).length=2):∃a b,us=[a,b]:=by
 match us,h with
 |[a,b],_=>exact⟨a,b,rfl⟩
 |[],h=>simp at h
 |[_],h=>simp at h
 |_::_::_::_,h=>simp at h
structure Aq(K:aaa)(x qual:Str)(st:Stmt)(f:Addr)(fd:abd):Prop where
 ex:∃(oc:Value) (od:Option Addr) (dV kV doc pm:Value) (an:Option Addr) (bS ct:Value) (sZ:Array (Option Value)),
  fd=aa2 x qual (aW st) (aS st) (ar st) dV kV doc pm an bS ct/\K.lookup f=aa ⟨oc,od,.func fd,sZ⟩/\aaM K bS qual=true
 kp:aaJ K (.ref f)=true
section
variable{P:Program}{w:abZ}{K:aaa}{mg:Str->Option Value}{base:Heap}
theorem Aq.ok{x qual:Str}{st:Stmt}{f:Addr}{fd:abd}{N ps:List Str}{k:Nat}{sp:Sp}(F:Aq K x qual st f fd)(S:bg N ps (ar st))(len:∀vs H Q E,sp vs H Q E->vs.length=ps.length)
  (kW:∀(bS:Value) (A:abL) (outer:List Env) (s:aaj) (H:Hp) (vs:List V) (Q:VK) (E:XK),eX k (A.deeper (aja qual (ar st) s.heap.objs.size f bS))->sp vs H Q E->
   ∃t,nM (mf d8 P w K mg base N qual (ar st) f bS A outer s H E).CA (aS st) t/\t { nx:=λ_ H'=>Q .aA H',rt:=Q } (start N vs) H):bX P w K mg base d8 (k+1) f fd ps sp:=by
 obtain⟨oc,od,dV,kV,doc,pm,an,bS,ct,sZ,rfl,lk,sV⟩:=F.ex;refine E3 lk sV S len λA outer s H vs Q E hr s_=>?_
 obtain⟨t,h,q⟩:=kW bS A outer s H vs Q E hr s_;exact⟨t,h.CA,q⟩
theorem Lb{x qual:Str}{st:Stmt}{f:Addr}{oc:Value}{od an:Option Addr}{sZ:Array (Option Value)}{dV kV doc pm bS ct:Value}(l:K.lookup f=aa ⟨oc,od,.func (aa2 x qual (aW st) (aS st) (ar st) dV kV doc pm an bS ct),sZ⟩)
  (c:aaM K bS qual=true)(k:aaJ K (.ref f)=true):Aq K x qual st f (aa2 x qual (aW st) (aS st) (ar st) dV kV doc pm an bS ct):=⟨⟨oc,od,dV,kV,doc,pm,an,bS,ct,sZ,rfl,l,c⟩,k⟩
end
end L2
namespace My
open PySem PyProof.Rows
variable{x:Int}
theorem bits_le{k:Nat}(h:Bd k x):ajA x<=k:=by
 unfold ajA;split
 .exact ab7 _
 .rename_i z
  have z':x.natAbs≠0:=by
   intro e;apply z;have:x=0:=by omega
   rw[this];rfl
  have:=(amH z').mpr h.lt;omega
theorem Uh{y:Int}{j k:Nat}(hx:Bd j x)(hy:Bd k y)(h:(decide (j<=100000)&&decide (k<=100000))=true):akY x y:=by
 rw[abw,decide_eq_true_eq,decide_eq_true_eq]at h;have e:(2:Nat) ^ 20=1048576:=by decide
 exact am6 (by have:=bits_le hx;omega) (by have:=bits_le hy;omega)
theorem OJ{y:Int}(h1: -(2 ^ 64)<x)(h2:x<2 ^ 64):akY x y:=am7 (ak5 h1 h2)
theorem OK{y:Int}(h1: -(2 ^ 64)<y)(h2:y<2 ^ 64):akY x y:=am3 (ak5 h1 h2)
end My
namespace L2
open PySem PySem.Spec PyProof.Rows
theorem xA:ab1 "abs" =aa (.builtin "abs"):=by decide +kernel
theorem dm:ab1 "len" =aa (.builtin "len"):=by decide +kernel
theorem OL:ab1 "max" =aa (.builtin "max"):=by decide +kernel
theorem OM:ab1 "min" =aa (.builtin "min"):=by decide +kernel
theorem bT:ab1 "isinstance" =aa (.builtin "isinstance"):=by decide +kernel
theorem mi:ab1 "int" =aa (.type "int"):=by decide +kernel
theorem Lc:ab1 "bool" =aa (.type "bool"):=by decide +kernel
theorem IE:ab1 "tuple" =aa (.type "tuple"):=by decide +kernel
theorem Ld:ab1 "list" =aa (.type "list"):=by decide +kernel
theorem uw:ab1 "str" =aa (.type "str"):=by decide +kernel
def Pl(H:Hp)(p:Addr):Prop:=∃a b:Int,H p=aa (.lst [.int a,.int b])/\0<=a/\0<=b
theorem Pl.new{H:Hp}{p:Addr}{a b:Int}(h1: 0<=a)(h2: 0<=b):Pl (upd H p (.lst [.int a,.int b])) p:=⟨a,b,bH,h1,h2⟩
theorem Z4{i j:Int}{k:Nat}(h0:j≠0)(h:My.Bd k j)(hk:(decide (0<k)&&decide (k<=9000))=true):Fi i j:=by
 rw[abw,decide_eq_true_eq,decide_eq_true_eq]at hk;exact⟨h0,aa1 (My.Bd.log2 h hk.1) hk.2⟩
end L2
namespace L2
open PySem PySem.Spec PyProof.Rows
def iO(cells:List (Str×Addr)):List (Str×ah9)->List (Str×Addr)->List (Str×Addr)
 |[],cs=>cs
 |(n,k)::r,cs=>iO cells r (if k==.free then(match cells.lookup n with|some a=>(n,a)::cs|none=>cs)else cs)
variable{env:Env}
theorem qo:∀(names:List (Str×ah9)) (cs:List (Str×Addr)),(∀y∈names,y.2= .free->∃c,env.cells.lookup y.1=aa c)->
  (forIn names cs (λ(x:Str×ah9) (r:List (Str×Addr))=>(do
   if x.2==.free then
    let a <-cellOf env x.1
    pure (ahM ((x.1,a)::r))
   else pure (ahM r):Sem (ForInStep (List (Str×Addr))))))=(pure (iO env.cells names cs):Sem _)
 |[],cs,_=>rfl
 |(n,k)::r,cs,h=>by
  rw[List.forIn_cons];have hr:∀y∈r,y.2= .free->∃c,env.cells.lookup y.1=aa c:=λy hy=>h y (aay _ hy)
  by_cases hk:k= .free
  .subst hk
   obtain⟨c,hc⟩:=h (n,.free) aa7 rfl;have i5:env.cells.lookup n=aa c:=hc;simp only[beq_self_eq_true,if_true,cellOf,i5,pure_bind,iO];exact qo r _ hr
  .have hb:(k==agw)=false:=by simpa using hk
   simp only[hb,abX,if_false,pure_bind,iO];exact qo r _ hr
variable{scope:Scope}
theorem qp(h:∀y∈scope.names,y.2= .free->∃c,env.cells.lookup y.1=aa c):closureFor scope env=pure (iO env.cells scope.names []):=by
 have e:=qo (env:=env) scope.names [] h;unfold closureFor;simp only[bind_pure_comp]at e |-
 first
  |(simpa using e)
  |(rw[<-e];rfl)
variable{cells:List (Str×Addr)}
theorem wF{x:Str}{c:Addr}:∀{names:List (Str×ah9)}{cs:List (Str×Addr)},(iO cells names cs).lookup x=aa c->(∀c',cs.lookup x=aa c'->cells.lookup x=aa c')->cells.lookup x=aa c
 |[],cs,h,hc=>hc c h
 |(n,k)::r,cs,h,hc=>by
  refine wF (names:=r) h λc' i5=>?_
  by_cases hk:(k==agw)=true
  .rw[if_pos hk]at i5
   cases e:cells.lookup n with
   |none=>rw[e]at i5;exact hc c' i5
   |some a=>
    rw[e]at i5
    by_cases hx:x=n
    .subst hx
     simp only[ahi,beq_self_eq_true]at i5;rw[e];exact i5
    .have hb:(x==n)=false:=beq_eq_false_iff_ne.mpr hx
     simp only[ahi,hb]at i5;exact hc c' i5
  .rw[if_neg hk]at i5
   exact hc c' i5
theorem uy{x:Str}:∀{names:List (Str×ah9)}{cs:List (Str×Addr)},(∃c,cs.lookup x=aa c)->∃c,(iO cells names cs).lookup x=aa c
 |[],_,h=>h
 |(n,k)::r,cs,h=>by
  refine uy (names:=r) ?_;split
  .split
   .rename_i a _
    by_cases hx:x=n
    .subst hx;exact⟨a,by simp⟩
    .have hb:(x==n)=false:=beq_eq_false_iff_ne.mpr hx
     simpa[ahi,hb]using h
   .exact h
  .exact h
theorem qq{x:Str}:∀{names:List (Str×ah9)}{cs:List (Str×Addr)},(x,agw)∈names->(∃c,cells.lookup x=aa c)->∃c,(iO cells names cs).lookup x=aa c
 |[],_,h,_=>nomatch h
 |(n,k)::r,cs,h,hc=>by
  rcases aaI.mp h with e|h
  .cases e
   refine uy (names:=r) ?_;obtain⟨c,hc⟩:=hc;rw[if_pos (by rfl),hc];exact⟨c,by simp⟩
  .exact qq (names:=r) h hc
theorem zW{prog:Program}{w:abZ}{A:abL}{R:amc->aaj->Prop}{s:aaj}{elt target iter:acu}{ifs:List acu}{pos:Pos}{it acc:Value}(I:Nat->aaj->Prop)
  (turn:∀n s,I n s->abo (abu prog w) A (pyNext it) (λr cA=>match r with
   |none=>R (.ok .next) cA
   |some v=>abo (abu prog w) A (ai8 target it v) (λ_ bR=>abo (abu prog w) A (akw target env v) (λ_ nN=>
     abo (abu prog w) A (forIn ifs true λc r=>if r=true then do let ok <-amB c env (ahx c env);pure (ahM ok)else pure (ahM r)) (λok wC=>
      if ok=true then abo (abu prog w) A (ahx elt env) (λx G8=>
       abo (abu prog w) A (call (.builtin "list.append") [acc,x]) (λ_ RY=>∃m,m<n/\I m RY) (λ_ _=>False) G8) (λ_ _=>False) wC
      else ∃m,m<n/\I m wC) (λ_ _=>False) nN) (λ_ _=>False) bR) (λ_ _=>False) cA) (λ_ _=>False) s)
  (n:Nat)(h:I n s):
  ai9 (abu prog w) A (.compLoop (.ListComp elt [⟨target,iter,ifs,0⟩] scope pos) 0 it acc env) R s:=by
 refine codeAny_loop rfl I (λn s hI=>?_) n h;show abo _ A ((compTurn (.ListComp elt [⟨target,iter,ifs,0⟩] scope pos) 0 it acc env).onRaise (λx=>do akA x env;theTreesLotGoes x)) _ _ s;refine wpAny_noted ?_;rw[compTurn_list];refine aab (aii (aab (acd (turn n s hI) (λr cA pV=>?_) λ_ _ h'=>h'.elim)));cases r with
 |none=>exact aas pV
 |some v=>
  refine aab (acd pV (λ_ bR h₀=>?_) λ_ _ h'=>h'.elim);refine aab (acd h₀ (λ_ nN C3=>aab (acd C3 (λok wC G3=>?_) λ_ _ h'=>h'.elim)) λ_ _ h'=>h'.elim);cases ok with
  |false=>exact aas ⟨rfl,G3⟩
  |true=>
   exact aab (aab (acd G3 (λx G8 Z5=>aab (acd Z5 (λ_ RY Z6=>aas (aas ⟨rfl,Z6⟩)) λ_ _ h'=>h'.elim)) λ_ _ h'=>h'.elim))
abbrev Cx.ke(X:Cx)(scope:Scope)(C:Addr)(N':List Str)(bR:aaj)(dP:Hp)(fp:List Addr):Cx:=
 { X with N:=N',bR:=bR,dP:=dP,env:=compEnvC scope (iO X.env.cells scope.names []) C X.env,outer:=X.stack,ex:=fp,fn:=λ_=>false,pn:=[],xe:=λ_ _=>False }
def xg(σ:St)(cap:List (Option Nat)):St:=cap.map λo=>match o with
 |some i=>(match σ[i]? with|some v=>v|none=>ae)
 |none=>ae
structure tm(X:Cx)(scope:Scope)(N':List Str)(cap:List (Option Nat)):Prop where
 kind:scope.kind= .function
 Fj:∀y∈scope.names,y.2≠.cell
 names:∀y∈scope.names,y.2= .local->scope.names.lookup y.1=aa .local
 frees:∀y∈scope.names,y.2= .free->X.env.kindOf y.1=aa .cell\/X.env.kindOf y.1=aa .free
 len:cap.length=N'.length
 Z7:∀(j i:Nat) (x:Str),cap[j]? =aa (aa i)->N'[j]? =aa x->X.N[i]? =aa x/\(x,agw)∈scope.names
 vis:∀(j i:Nat) (x:Str),cap[j]? =aa (aa i)->N'[j]? =aa x->EJ X.env.scope x
 un:∀(j i:Nat) (x:Str),cap[j]? =aa (aa i)->N'[j]? =aa x->∀z∈scope.names,z.1=x->z.2= .free
def jb(sc scope:Scope)(NN:List Str):List Str->List (Option Nat)->Bool
 |[],[]=>true
 |_::N,ae::c=>jb sc scope NN N c
 |x::N,aa i::c=>decide (NN[i]? =aa x)&&decide ((x,agw)∈scope.names)&&(decide (sc.names.lookup x=aa .local)||decide (sc.names.lookup x=aa .cell)||decide (sc.names.lookup x=aa .free))&&decide (∀z∈scope.names,z.1=x->z.2= .free)&&jb sc scope NN N c
 |_,_=>false
variable{sc:Scope}{NN:List Str}
theorem tp:∀{N':List Str}{cap:List (Option Nat)},jb sc scope NN N' cap=true->cap.length=N'.length
 |[],[],_=>rfl
 |_::_,ae::_,h=>congrArg (·+1) (tp (by simpa only[jb]using h))
 |_::_,aa _::_,h=>congrArg (·+1) (tp (by simp only[jb,abw]at h;exact h.2))
 |[],_::_,h=>by simp[jb]at h
 |_::_,[],h=>by simp[jb]at h
theorem kM:∀{N':List Str}{cap:List (Option Nat)},jb sc scope NN N' cap=true->∀(j i:Nat) (x:Str),cap[j]? =aa (aa i)->N'[j]? =aa x->
  NN[i]? =aa x/\(x,agw)∈scope.names/\EJ sc x/\∀z∈scope.names,z.1=x->z.2= .free
 |[],[],_,j,i,x,e,_=>by simp at e
 |_::_,ae::_,h,0,i,x,e,_=>by simp at e
 |_::_,ae::_,h,j+1,i,x,e,e'=>kM (by simpa only[jb]using h) j i x (by simpa using e) (by simpa using e')
 |y::_,aa k::_,h,0,i,x,e,e'=>by
  simp only[aj9,ajO]at e e';subst e e';simp only[jb,abw,ajc,decide_eq_true_eq]at h;obtain⟨⟨⟨⟨h1,h2⟩,h3⟩,h4⟩,_⟩:=h;refine⟨h1,h2,?_,h4⟩;rcases h3 with(h3|h3)|h3
  .exact .inl h3
  .exact .inr (.inl h3)
  .exact .inr (.inr h3)
 |_::_,aa _::_,h,j+1,i,x,e,e'=>kM (by simp only[jb,abw]at h;exact h.2) j i x (by simpa using e) (by simpa using e')
 |[],_::_,h,_,_,_,_,_=>by simp[jb]at h
 |_::_,[],h,_,_,_,_,_=>by simp[jb]at h
theorem rJ{X:Cx}{N':List Str}{cap:List (Option Nat)}(e:X.env.scope=sc)(eN:X.N=NN)(h1:scope.kind= .function)(h2:∀y∈scope.names,y.2≠.cell)(h3:∀y∈scope.names,y.2= .local->scope.names.lookup y.1=aa .local)
  (h4:∀y∈scope.names,y.2= .free->sc.names.lookup y.1=aa .cell\/sc.names.lookup y.1=aa .free)(h5:jb sc scope NN N' cap=true):tm X scope N' cap:=by
 subst e eN;exact⟨h1,h2,h3,h4,tp h5,λj i x a b=>⟨(kM h5 j i x a b).1,(kM h5 j i x a b).2.1⟩,λj i x a b=>(kM h5 j i x a b).2.2.1,λj i x a b=>(kM h5 j i x a b).2.2.2⟩
def Fm(wi:TI)(cap:List (Option Nat))(g:TG)(tt:TT)(te:TE):TE:=λσ H Q=>wi σ H λJ H1=>∀l,H1 l=ae->
 ∃W:Nat->Nat->St->Hp->Prop,(∃m,W 0 m (xg σ cap) (upd H1 l (.lst [])))/\∀i m τ H2,W i m τ H2->
  (J.stop i H2/\Q (.ref l) H2)\/(J.go i H2/\∃N:St->Hp->Prop,(∀sr H',N sr H'->∃m',m'<m/\W (i+1) m' sr H')/\
   ∀x H',J.Kk i H2 x H'->g x τ H' λBo H3=>tt Bo H3 λb H4=>if b=true then te Bo H4 λy H5=>∃ys,H5 l=aa (.lst ys)/\ys.length<sizeLine/\N Bo (upd H5 l (.lst (ys++[y])))else N Bo H4)
def jB:TT:=λ_ H Q=>Q true H
namespace Zu
set_option allowUnsafeReducibility true in
@[scoped irreducible] def _root_.L2.uz(X:Cx)(ifs:List acu)(t:TT):Prop:=
 ∀(pins:List (Addr×Obj)) (s:aaj) (σ:St) (H:Hp) (Q:Bool->Hp->Prop),Inv X pins σ H s->t σ H Q->
  abo (abu X.prog X.w) X.A (forIn ifs true λc r=>if r=true then do let ok <-amB c X.env (ahx c X.env);pure (ahM ok)else pure (ahM r)) (TP X pins σ Q) X.xe s
end Zu
theorem IF{X:Cx}:uz X [] jB:=λ_ _ _ H _ I h=>wpAny_tests_nil ⟨H,I,h⟩
theorem Le{X:Cx}{c:acu}{t:TT}(h:PT X c t):uz X [c] t:=λpins s σ H Q I q=>wpAny_tests_one (h pins s σ H Q I q)
section
variable{X:Cx}{pos:Pos}{elt iter tg:acu}{ifs:List acu}{scope:Scope}{N':List Str}{cap:List (Option Nat)}{wi:TI}{g:TG}{tt:TT}{te:TE}
theorem mS{X:Cx}:∀{names:List (Str×ah9)}{y:Str}{k:ah9},(names.map λ(n,k)=>if (k==agw&&X.env.scope.kind==.function&&X.env.kindOf n==aa .cell)then(n,aka)else(n,k)).lookup y=aa k->
  (k= .cell\/k= .free)->(∀z∈names,z.2≠.cell)->(y,agw)∈names
 |[],_,_,h,_,_=>by simp at h
 |(n,k0)::r,y,k,h,hk,hc=>by
  have hcr:∀z∈r,z.2≠.cell:=λz hz=>hc z (aay _ hz)
  have h0:k0≠.cell:=hc (n,k0) aa7;rw[abk]at h;dsimp only at h
  by_cases hy:y=n
  .subst hy
   have:k0= .free:=by
    by_cases hf:k0= .free
    .exact hf
    .exfalso
     have hb:(k0==agw)=false:=by simpa using hf
     simp only[hb,aiC,abX,if_false,ahi,beq_self_eq_true]at h;cases h;rcases hk with e|e
     .exact h0 e
     .exact hf e
   subst this;exact aa7
  .have hb:(y==n)=false:=beq_eq_false_iff_ne.mpr hy
   have h':(r.map λ(n,k)=>if (k==agw&&X.env.scope.kind==.function&&X.env.kindOf n==aa .cell)then(n,aka)else(n,k)).lookup y=aa k:=by
    split at h<;>simpa only[ahi,hb]using h
   exact aay _ (mS (X:=X) h' hk hcr)
theorem sC{X:Cx}:∀{names:List (Str×ah9)}{y:Str},(y,agw)∈names->(∀z∈names,z.1=y->z.2= .free)->∃k,(k=aka\/k= .free)/\
  (names.map λ(n,k)=>if (k==agw&&X.env.scope.kind==.function&&X.env.kindOf n==aa .cell)then(n,aka)else(n,k)).lookup y=aa k
 |[],_,h,_=>nomatch h
 |(n,k0)::r,y,h,hu=>by
  rw[abk];dsimp only
  by_cases hy:y=n
  .subst hy
   have:k0= .free:=hu (y,k0) aa7 rfl;subst this;split
   .exact⟨.cell,.inl rfl,by simp⟩
   .exact⟨.free,.inr rfl,by simp⟩
  .have hb:(y==n)=false:=beq_eq_false_iff_ne.mpr hy
   have hm:(y,agw)∈r:=by
    rcases aaI.mp h with e|h
    .cases e;exact absurd rfl hy
    .exact h
   obtain⟨k,hk,e⟩:=sC (X:=X) hm λz hz=>hu z (aay _ hz)
   refine⟨k,hk,?_⟩;split<;>simpa only[ahi,hb]using e
variable{pins:List (Addr×Obj)}
theorem Lg{σ:St}{H:Hp}{s:aaj}{fp:List Addr}{h1:Heap}{m:Str->Option Value}{t':Nat}(B:tm X scope N' cap)
  (I:Inv X pins σ H s)(hf:∀b∈fp,kU X pins H b)(ho:∀b∈fp,∃o,s.heap.get? b=aa o)(keep:∀b o,s.heap.get? b=aa o->h1.get? b=aa o)(Iw:h1.Ns s.heap.objs.size m):
  Inv (X.ke scope s.heap.objs.size N' s H fp) [] (xg σ cap) H { s with heap:=h1,toks:=t' }:=by
 have I1:Inv X pins σ H { s with heap:=h1,toks:=t' }:=I.kept keep;have Ar:∀y c,(iO X.env.cells scope.names []).lookup y=aa c->X.env.cells.lookup y=aa c:=λy c h=>wF h λc' i5=>by simp at i5
 refine⟨⟨I.ok.mod,B.kind,I.ok.glob,I.ok.blt,aat _,λy z c e1 e2=>I.ok.inj y z c (Ar y c e1) (Ar z c e2),λy hy=>?_,λy c e _=>absurd e (by simp),I.ok.hd,I.ok.frames,.inl rfl,λb hb=>⟨?_,λy c e=>(hf b hb).2.2.2.2.1 y c (Ar y c e)⟩,λb o e=>I.bs b o e,ab2 I.ok.zP I.sz,λb o e hb=>?_,λb hb hs=>?_,I.stack,I.uj⟩,
  rfl,I.bare,Un.kept keep,⟨m,Iw,λj y v e1 e2 e3=>?_⟩,λy c e=>I1.cell y c (Ar y c e),I.bB.fresh (aat _),λy c e=>(I.jE y c (Ar y c e)).imp id λz=>⟨rfl,z.2⟩,λp hp=>absurd hp (by simp),I1.bB,?_⟩
 .-- has
  have uf:(y,agw)∈scope.names:=by
   rcases hy with hy|hy
   .exact mS (X:=X) (k:=.cell) hy (.inl rfl) B.Fj
   .exact mS (X:=X) (k:=.free) hy (.inr rfl) B.Fj
  exact qq uf (I.ok.has y (B.frees (y,.free) uf rfl))
 .-- fp below oF Z8 frame
  obtain⟨o,e⟩:=ho b hb;exact abA (aaK e)
 .-- base
  rcases(hf b hb).2.2.2.1 with z|z
  .exact I.ok.pU b o e z
  .exact absurd (aa1 (aaK e) (ab2 I.ok.zP z)) (agu _)
 .-- frames
  rcases aaI.mp (I.Bb b hs)with z|z
  .exact(hf b hb).2.1 z
  .exact(hf b hb).2.2.1 z
 .-- Zm values
  have hc:∃i,cap[j]? =aa (aa i)/\σ[i]? =aa (aa v):=by
   unfold xg at e2;rw[aa6]at e2;cases e:cap[j]? with
   |none=>rw[e]at e2;cases e2
   |some o=>
    rw[e]at e2;cases o with
    |none=>simp at e2
    |some i=>
     refine⟨i,rfl,?_⟩;simp only[ajd,ajO]at e2;cases q:σ[i]? with
     |none=>rw[q]at e2;cases e2
     |some w=>
      rw[q]at e2;have Fn:w=aa v:=e2;rw[Fn]
  obtain⟨i,hi,hv⟩:=hc;obtain⟨hN,oy⟩:=B.Z7 j i y hi e1;obtain⟨m1,_,hl⟩:=I1.loc;obtain⟨u,r,l⟩:=hl i y v hN hv (B.vis j i y hi e1);refine⟨u,r,.inr ?_⟩;obtain⟨k,hk,ek⟩:=sC (X:=X) oy (B.un j i y hi e1);have oz:∃c,X.env.cells.lookup y=aa c/\h1.IsCell c (aa u):=by
   rcases l with⟨k1,_⟩|⟨_,c,e,z⟩
   .rcases B.frees (y,.free) oy rfl with q|q
    .rw[show X.env.kindOf y=aa NameKind.local from k1]at q;cases q
    .rw[show X.env.kindOf y=aa NameKind.local from k1]at q;cases q
   .exact⟨c,e,z⟩
  obtain⟨c,ec,zc⟩:=oz;obtain⟨c',IG⟩:=qq (cs:=[]) oy ⟨c,ec⟩;have:c'=c:=by have:=Ar y c' IG;rw[ec]at this;cases this;rfl
  subst this;refine⟨?_,c',IG,zc⟩;rcases hk with rfl|rfl
  .exact .inl ek
  .exact .inr ek
 .show(xg σ cap).length=N'.length
  unfold xg;rw[aaE];exact B.len
theorem yi{RR:Value->Addr->amc->aaj->Prop}{σ:St}{H2:Hp}{s2:aaj}{it:Addr}{fp:List Addr}{tn:Nat->Heap->Prop}{J:It}{Q:VK}(B:tm X scope N' cap)(hc:X.calm=true)
  (hg:∀C bR dP fp,PG (X.ke scope C N' bR dP fp) tg g)(ht:∀C bR dP fp,uz (X.ke scope C N' bR dP fp) ifs tt)(he:∀C bR dP fp,PE (X.ke scope C N' bR dP fp) elt te)
  (I2:Inv X pins σ H2 s2)(T:Turn X.prog X.w X.K tg J fp it tn)(oE:tn 0 s2.heap)(f2:∀b∈fp,kU X pins H2 b)
  (yj:∀l,H2 l=ae->∃W:Nat->Nat->St->Hp->Prop,(∃m,W 0 m (xg σ cap) (upd H2 l (.lst [])))/\∀i m τ H2,W i m τ H2->
   (J.stop i H2/\Q (.ref l) H2)\/(J.go i H2/\∃N:St->Hp->Prop,(∀sr H',N sr H'->∃m',m'<m/\W (i+1) m' sr H')/\
    ∀x H',J.Kk i H2 x H'->g x τ H' λBo H3=>tt Bo H3 λb H4=>if b=true then te Bo H4 λy H5=>∃ys,H5 l=aa (.lst ys)/\ys.length<sizeLine/\N Bo (upd H5 l (.lst (ys++[y])))else N Bo H4))
  (fin:∀(D C:Addr) (o:Obj) (m:Str->Option Value) (H5:Hp) (s5:aaj),Inv X pins σ H5 s5->kU X pins H5 C->s5.heap.get? C=aa o->(∀v,o.data≠.cell v)->s5.heap.Ns C m->Q (.ref D) H5->RR (.ref D) C (.ok .next) s5):
  abo (abu X.prog X.w) X.A (newList []) (λacc wC=>abo (abu X.prog X.w) X.A (newFunctionEnv scope X.env.globals (iO X.env.cells scope.names []) [] X.env.qual ae .none (aa X.env)) (λRZ G8=>
   ai9 (abu X.prog X.w) X.A (.compStart (.ListComp elt [⟨tg,iter,ifs,0⟩] scope pos) 0 (.ref it) acc { RZ with scope:=relabel scope X.env }) (RR acc RZ.locals) G8) X.xe wC) X.xe s2:=by
 refine agR (wpAny_newFunctionEnv B.Fj (by intro y hy;simp at hy) (λpV Bp G9=>?_) B.kind);dsimp only at Bp G9 |-
 have I3:Inv X pins σ (upd H2 s2.heap.objs.size (.lst [])) { s2 with heap:=s2.heap.push { cls:=.type "list",dict:=ae,data:=.seq ([]:List Value).toArray } }:=I2.RV (t':=s2.toks) (its:=[]) (ys:=[]) .nil (ab7 _);have hD:H2 s2.heap.objs.size=ae:=I2.fresh;have Z9:∀b∈fp,b≠s2.heap.objs.size:=λb hb=>by
  obtain⟨o,e,_⟩:=T.obj 0 _ oE b hb;exact abA (aaK e)
 have f3:∀b∈fp,kU X pins (upd H2 s2.heap.objs.size (.lst [])) b:=λb hb=>⟨by rw[aY (Z9 b hb)];exact(f2 b hb).1,(f2 b hb).2⟩
 obtain⟨W,⟨m0,w0⟩,turn⟩:=yj s2.heap.objs.size hD;generalize ON:({ s2 with heap:=s2.heap.push { cls:=.type "list",dict:=ae,data:=.seq ([]:List Value).toArray } }:aaj)=s3 at I3;have OO:s3.heap=s2.heap.push { cls:=.type "list",dict:=ae,data:=.seq ([]:List Value).toArray }:=by rw[<-ON]
 have keep:∀b o,s3.heap.get? b=aa o->pV.get? b=aa o:=λb o e=>by
  have fW:=aaK e;rw[OO]at e fW;exact G9.extBut b o (abA fW) (aap _ e)
 have ho3:∀b∈fp,∃o,s3.heap.get? b=aa o:=λb hb=>by
  obtain⟨o,e,_⟩:=T.obj 0 _ oE b hb;exact⟨o,by rw[OO];exact aap _ e⟩
 have Z_:s3.heap.objs.size=(s2.heap.push { cls:=.type "list",dict:=ae,data:=.seq ([]:List Value).toArray }).objs.size:=by rw[OO]
 rw[<-Z_]at Bp |-
 have J0:Inv (X.ke scope s3.heap.objs.size N' s3 (upd H2 s2.heap.objs.size (.lst [])) fp) [] (xg σ cap) (upd H2 s2.heap.objs.size (.lst [])) { s3 with heap:=pV,toks:=s3.toks }:=Lg (t':=s3.toks) B I3 f3 ho3 keep Bp;have tn0:tn 0 pV:=T.keep 0 s2.heap pV oE λb hb o e=>keep b o (by rw[OO];exact aap _ e)
 have es:({ s2 with heap:=pV,toks:=s2.toks+([]:List (Str×Value)).length }:aaj)= { s3 with heap:=pV,toks:=s3.toks }:=by
  rw[<-ON];rfl
 have Ui:∀{s5:aaj}{H5:Hp}{τ5:St},Inv (X.ke scope s3.heap.objs.size N' s3 (upd H2 s2.heap.objs.size (.lst [])) fp) [] τ5 H5 s5->Inv X pins σ H5 s5:=λ{s5 H5 τ5} J5=>
  I3.EL (ch:=fp) J5.os J5.base J5.bB J5.bare λb hb=>⟨(f3 b hb).2.2.2.1,(f3 b hb).2.1,(f3 b hb).2.2.2.2.1,(f3 b hb).2.2.2.2.2⟩
 have Uj:∀{H':Hp},(∀b∈fp,H' b=ae)->∀b∈fp,kU (X.ke scope s3.heap.objs.size N' s3 (upd H2 s2.heap.objs.size (.lst [])) fp) [] H' b:=λ{H'} hn b hb=>
  ⟨hn b hb,(J0.ok.Ka b hb).1,J0.ok.Ai b hb,.inl hb,(J0.ok.Ka b hb).2,λp hp=>absurd hp (by simp)⟩
 have loop:ai9 (abu X.prog X.w) X.A (.compLoop (.ListComp elt [⟨tg,iter,ifs,0⟩] scope pos) 0 (.ref it) (.ref s2.heap.objs.size) (compEnvC scope (iO X.env.cells scope.names []) s3.heap.objs.size X.env))
   (RR (.ref s2.heap.objs.size) s3.heap.objs.size) { s3 with heap:=pV,toks:=s3.toks }:=by
  refine zW (λn s'=>∃i τ H',Inv (X.ke scope s3.heap.objs.size N' s3 (upd H2 s2.heap.objs.size (.lst [])) fp) [] τ H' s'/\tn i s'.heap/\(∀b∈fp,H' b=ae)/\W i n τ H') ?_ m0 ⟨0,_,_,J0,tn0,λb hb=>(f3 b hb).1,w0⟩;rintro n s4 ⟨i,τ,H4,J4,OP,fr4,w4⟩;rcases turn i n τ H4 w4 with⟨stop,q⟩|⟨go,N,hN,step⟩
  .refine acd (T.done (X.ke scope s3.heap.objs.size N' s3 (upd H2 s2.heap.objs.size (.lst [])) fp) rfl rfl rfl hc i [] s4 τ H4 (λ_ _=>False) J4 (Uj fr4) OP stop) (λr s5 cg=>?_) (λ_ _ f=>f)
   obtain⟨hr,J5⟩:=cg;subst hr;obtain⟨m5,Lh,_⟩:=J5.loc;have I5:Inv X pins σ H4 s5:=Ui J5;obtain⟨o5,es5,ep5,ho5,hd5,_⟩:=id Lh;refine fin _ _ o5 m5 H4 s5 I5 ⟨J5.free,λe=>?_,I3.RH (aat _),.inr I3.sz,λy c e z=>?_,λp hp z=>?_⟩ ho5 (λv e=>?_) Lh q
   .have:=I3.lt
    rw[<-e]at this;exact agu _ this
   .obtain⟨v,o,Ig,_⟩:=I3.cell y c e
    have:=aaK Ig;rw[z]at this;exact agu _ this
   .have:=aaK (I3.pin p hp).1
    rw[z]at this;exact agu _ this
   .rw[hd5]at e;cases e
  .refine acd (T.item (X.ke scope s3.heap.objs.size N' s3 (upd H2 s2.heap.objs.size (.lst [])) fp) rfl rfl rfl hc i [] s4 τ H4 (λ_ _=>False) J4 (Uj fr4) OP go) (λr s5 cg=>?_) (λ_ _ f=>f)
   obtain⟨u,hr,h5⟩:=cg;subst hr;refine acd h5 (λ_ s6 cg=>?_) (λ_ _ f=>f);obtain⟨xv,H6,J6,r6,y6,Uk,fr6⟩:=cg;have J6':=J6.pinned (Uj fr6) (T.obj _ _ Uk);have again:∀{s7:aaj}{zX:St}{H7:Hp},Inv (X.ke scope s3.heap.objs.size N' s3 (upd H2 s2.heap.objs.size (.lst [])) fp) ([]++uk fp s6.heap) zX H7 s7->N zX H7->∃m,m<n/\∃i τ H',Inv (X.ke scope s3.heap.objs.size N' s3 (upd H2 s2.heap.objs.size (.lst [])) fp) [] τ H' s7/\tn i s7.heap/\(∀b∈fp,H' b=ae)/\W i m τ H':=λ{s7 zX H7} J7 n7=>by
    obtain⟨m',hm,w7⟩:=hN zX H7 n7;refine⟨m',hm,i+1,zX,H7,J7.nQ,T.keep _ _ _ Uk λb hb o e=>(J7.pin (b,o) (abz _ (abz _ (l_ hb e)))).1,λb hb=>?_,w7⟩;obtain⟨o,e,d⟩:=T.obj _ _ Uk b hb;exact(J7.pin (b,o) (abz _ (abz _ (l_ hb e)))).2.1
   refine acd (hg s3.heap.objs.size s3 (upd H2 s2.heap.objs.size (.lst [])) fp _ s6 τ H6 xv u _ J6' r6 (step xv H6 y6)) (λ_ s7 cg=>?_) (λ_ _ f=>f);obtain⟨zX,H7,J7,q7⟩:=cg;refine acd (ht s3.heap.objs.size s3 (upd H2 s2.heap.objs.size (.lst [])) fp _ s7 zX H7 _ J7 q7) (λok s8 cg=>?_) (λ_ _ f=>f);obtain⟨H8,J8,q8⟩:=cg;cases ok with
   |false=>
    rw[if_neg (by decide)]at q8 |-
    exact again J8 q8
   |true=>
    rw[if_pos rfl]at q8 |-
    refine acd (he s3.heap.objs.size s3 (upd H2 s2.heap.objs.size (.lst [])) fp _ s8 zX H8 _ J8 q8) (λyv s9 cg=>?_) (λ_ _ f=>f);obtain⟨y,H9,J9,r9,q9⟩:=cg;obtain⟨ys,hl,hz,n9⟩:=q9;exact acd (dw (X:=X.ke scope s3.heap.objs.size N' s3 (upd H2 s2.heap.objs.size (.lst [])) fp) _ s9 zX H9 (.ref s2.heap.objs.size) [y] (.ref s2.heap.objs.size) [yv] (λ_ H'=>N zX H') J9 rfl (.cons r9 .nil) ⟨_,ys,y,rfl,rfl,hl,hz,n9⟩) (λ_ s10 ⟨_,H10,J10,_,n10⟩=>again J10 n10) (λ_ _ f=>f)
 rw[es];exact codeAny_compStart_list loop (T.self _ 0 _ _ _ tn0 loop)
theorem Li(B:tm X scope N' cap)(hc:X.calm=true)
  (hi:PI X tg iter wi)(hg:∀C bR dP fp,PG (X.ke scope C N' bR dP fp) tg g)(ht:∀C bR dP fp,uz (X.ke scope C N' bR dP fp) ifs tt)(he:∀C bR dP fp,PE (X.ke scope C N' bR dP fp) elt te)
  (hs:∀x,agS iter X.env x=pure x:=by intro _;rfl):
  PE X (.ListComp elt [⟨tg,iter,ifs,0⟩] scope pos) (Fm wi cap g tt te):=by
 intro pins s σ H Q I h;rw[eval_ListComp];refine ajP (use:=ae) rfl hs (qp λy hy hf=>I.ok.has y.1 (B.frees y hy hf)) B.kind B.names ?_;refine cF (hi pins s σ H _ I h) λv s1 h1=>cF h1 λOe s2 h2=>?_
 obtain⟨it,fp,tn,J,H2,e,I2,T,oE,f2,yj⟩:=h2;subst e;refine yi (RR:=λacc C=>compPost (abu X.prog X.w) X.A X.xe ae (EP X pins σ Q) acc C) B hc hg ht he I2 T oE f2 yj λD C o m H5 s5 I5 f5 ho hd hn q=>?_
 refine⟨m,hn,λh' Fo=>?_⟩;exact⟨.ref D,H5,I5.turned (t':=s5.toks) (it:=C) (λb o hb e=>Fo.extBut b o hb e) f5.1 (λe=>f5.2.1 e) f5.2.2.2.1 f5.2.2.2.2.1 f5.2.2.2.2.2,rfl,q⟩
theorem Lj{i:Nat}{y:Str}{py C4:Pos}(B:tm X scope N' cap)(hc:X.calm=true)
  (hi:PI X tg iter wi)(hg:∀C bR dP fp,PG (X.ke scope C N' bR dP fp) tg g)(ht:∀C bR dP fp,uz (X.ke scope C N' bR dP fp) ifs tt)(he:∀C bR dP fp,PE (X.ke scope C N' bR dP fp) elt te)
  (hN:X.N.Nodup)(Ul:X.N[i]? =aa y)(hy:Loc X.env.scope y)(C5:aih (.ListComp elt [⟨tg,iter,ifs,0⟩] scope pos) (aa (.Name y py)) C4.line X.env=pure true)
  (hf:X.fn y=true\/X.env.scope.names.lookup y=aa .local:=by first|exact .inl rfl|exact .inr rfl|assumption)
  (hs:∀x,agS iter X.env x=pure x:=by intro _;rfl):
  PS X (.Assign [.Name y py] (.ListComp elt [⟨tg,iter,ifs,0⟩] scope pos) C4) (Kj (Fm wi cap g tt te) (aM i)):=by
 intro pins s σ H D I h;rw[exec_Assign_Name_used _ _ _ _ C5];refine aab (aii (aab ?_));show abo _ X.A (do let _ <-comprehension (.ListComp elt [⟨tg,iter,ifs,0⟩] scope pos) scope X.env _ (newList []) false (ahx iter X.env) (aa (akw (.Name y py) X.env))) _ _ s;refine aab (acd (ajP (use:=aa (akw (.Name y py) X.env)) (Q:=λ_ s'=>SP X pins D .next s') rfl hs (qp λy hy hf=>I.ok.has y.1 (B.frees y hy hf)) B.kind B.names
  (cF (hi pins s σ H _ I h) λv s1 h1=>cF h1 λOe s2 h2=>?_)) (λ_ s' hq=>aas (aas hq)) λ_ _ e=>e)
 obtain⟨it,fp,tn,J,H2,e,I2,T,oE,f2,yj⟩:=h2;subst e;refine yi (Q:=λv H'=>aM i v σ H' D.nx) (RR:=λacc C=>compPost (abu X.prog X.w) X.A X.xe (aa (akw (.Name y py) X.env)) (λ_ s'=>SP X pins D .next s') acc C) B hc hg ht he I2 T oE f2 yj λD' C o m H5 s5 I5 f5 ho hd hn q=>?_
 show abo _ X.A (akw (.Name y py) X.env (.ref D')) _ _ _;have TF:Inv X (pins++[(C,o)]) σ H5 s5:=I5.xT λp hp=>by
  rcases abc.mp hp with z|z
  .exact I5.pin p (abz _ z)
  .have:p=(C,o):=by simpa using z
   subst this;exact⟨ho,f5.1,f5.2.1,f5.2.2.1,hd⟩
 refine cF (CC (pos:=py) hN Ul hy hf (pins++[(C,o)]) s5 σ H5 (.ref D') (.ref D') _ TF rfl q) λ_ s6 cg=>?_
 obtain⟨TH,H6,I6,q6⟩:=cg;obtain⟨e6,n6,_⟩:=I6.pin (C,o) (abz _ (abz _ aa7));have Um:s6.heap.Ns C m:=by
  obtain⟨o',es,ep,q1,r⟩:=hn;rw[ho]at q1;cases q1;exact⟨o,es,ep,e6,r⟩
 refine⟨m,Um,λh' Fo=>⟨TH,H6,I6.nQ.turned (t':=s6.toks) (it:=C) (λb o hb e=>Fo.extBut b o hb e) n6 f5.2.1 f5.2.2.2.1 f5.2.2.2.2.1 f5.2.2.2.2.2,q6⟩⟩
end
end L2
namespace L2
open PySem PySem.Spec PyProof.Rows
end L2
namespace L2
open PySem PySem.Spec PyProof.Rows
end L2
namespace L2
open PySem PySem.Spec PyProof.Rows
mutual
inductive kX(K:aaa)(H:Hp):V->agI->Prop
 |aA:kX K H .aA .none
 |bl (b:Bool):kX K H (.bl b) (.bool b)
 |int (i:Int):kX K H (.int i) (.int i)
 |str (x:Str):kX K H (.str x) (.str x)
 |tup {p:Addr}{xs:List V}{ds:List agI}:ja K H p xs->tq K H xs ds->kX K H (.ref p) (.tuple ds)
 |lst {p:Addr}{xs:List V}{ds:List agI}:dX K H p xs->tq K H xs ds->kX K H (.ref p) (.list ds)
inductive tq(K:aaa)(H:Hp):List V->List agI->Prop
 |nil:tq K H [] []
 |cons {x:V}{xs:List V}{d:agI}{ds:List agI}:kX K H x d->tq K H xs ds->tq K H (x::xs) (d::ds)
end
section
variable{X:Cx}{pins:List (Addr×Obj)}{σ:St}{H:Hp}{s:aaj}
mutual
theorem kX.reads(I:Inv X pins σ H s):∀{x:V}{d:agI},kX X.K H x d->∀{v:Value},RelV x v->∃as,Reads s.heap v d as
 |_,_,.aA,v,r=>by cases (show v=ag3 from r);exact⟨_,.none⟩
 |_,_,.bl b,v,r=>by cases (show v=ai1 b from r);exact⟨_,.bool b⟩
 |_,_,.int i,v,r=>by
  obtain⟨t,e⟩:=(show ∃t,v=ah4 i t from r);cases e;exact⟨_,.int i t⟩
 |_,_,.str x,v,r=>by
  obtain⟨t,e⟩:=(show ∃t,v=ag0 x t from r);cases e;exact⟨_,.str x t⟩
 |_,_,.tup (p:=p) h a,v,r=>by
  cases (show v=abm p from r);obtain⟨its,hv,⟨o,ho,hc,n,hd⟩,_⟩:=I.tuple h;obtain⟨as,ra⟩:=tq.reads I a hv;exact⟨as,.tuple ho hc hd (by simpa using ra)⟩
 |_,_,.lst (p:=p) h a,v,r=>by
  cases (show v=abm p from r);obtain⟨its,hv,pl,_⟩:=I.list h;obtain⟨o,ho,hc,n,hd⟩:=pl.isList;obtain⟨as,ra⟩:=tq.reads I a hv;exact⟨_,.list ho hc hd (by simpa using ra)⟩
theorem tq.reads(I:Inv X pins σ H s):∀{xs:List V}{ds:List agI},tq X.K H xs ds->∀{us:List Value},Vals xs us->∃as,ReadsAll s.heap us ds as
 |_,_,.nil,_,.nil=>⟨_,.nil⟩
 |_,_,.cons h a,_,.cons r t=>by
  obtain⟨as,ra⟩:=kX.reads I h r;obtain⟨bs,rb⟩:=tq.reads I a t;exact⟨_,.cons ra rb⟩
end
end
def yk(K:aaa)(neg:Bool):R2:=λx y H Q=>∃d e,kX K H x d/\kX K H y e/\agt d=true/\agt e=true/\Q (.bl (if neg then !PyData.eqv d e else ado d e)) H
section
variable{X:Cx}
theorem OR(hu:X.A.units+64<cLine):eW X (agq .Eq) (yk X.K false):=by
 intro pins s σ H x y v u Q I rx ry h;obtain⟨d,e,h1,h2,s1,s2,q⟩:=h;obtain⟨as,ra⟩:=h1.reads I rx;obtain⟨bs,rb⟩:=h2.reads I ry;exact eq_dataH ra rb s1 s2 hu ⟨.bl (ado d e),H,I,rfl,q⟩
theorem OS(hu:X.A.units+64<cLine):eW X (agq .NotEq) (yk X.K true):=by
 intro pins s σ H x y v u Q I rx ry h;obtain⟨d,e,h1,h2,s1,s2,q⟩:=h;obtain⟨as,ra⟩:=h1.reads I rx;obtain⟨bs,rb⟩:=h2.reads I ry;exact ne_dataH ra rb s1 s2 hu ⟨.bl (!PyData.eqv d e),H,I,rfl,q⟩
end
section
variable{X:Cx}
theorem sD{h:Heap}{d:agI}{e:Value->Bool}:∀{us:List Value}{ds:List agI}{as:List Addr},ReadsAll h us ds as->(∀u d' Br,u∈us->d'∈ds->Reads h u d' Br->e u=ado d' d)->us.any e=ds.any λd'=>ado d' d
 |_,_,_,.nil,_=>rfl
 |_,_,_,.cons r t,h=>by
  rw[aiW,aiW,h _ _ _ aa7 aa7 r,sD t λu d' Br hu hd r'=>h u d' Br (aay _ hu) (aay _ hd) r']
theorem readsAll_mem{h:Heap}:∀{us:List Value}{ds:List agI}{as:List Addr},ReadsAll h us ds as->∀u∈us,∃d'∈ds,∃Br,Reads h u d' Br
 |_,_,_,.nil,_,hu=>nomatch hu
 |_,_,_,.cons r t,u,hu=>by
  rcases aaI.mp hu with rfl|hu
  .exact⟨_,aa7,_,r⟩
  .obtain⟨d',hd,Br,r'⟩:=readsAll_mem t u hu
   exact⟨d',aay _ hd,Br,r'⟩
open Classical in
noncomputable def uA(h:Heap)(d:agI)(u:Value):Bool:=if e:∃d',agD d'=true/\∃as,Reads h u d' as then ado (aiP e) d else false
theorem C6{h:Heap}{d d':agI}{u:Value}{as:List Addr}(c:agD d'=true)(r:Reads h u d' as):uA h d u=ado d' d:=by
 have e:∃d',agD d'=true/\∃as,Reads h u d' as:=⟨d',c,as,r⟩;unfold uA;rw[dif_pos e];obtain⟨c1,as1,r1⟩:=aiI e;rw[SeqAt.Reads.unique _ _ _ _ _ c1 r1 r]
end
end L2
namespace L2
open PySem PySem.W PySem.Spec
abbrev vE:List Value:=[.type "ValueError",.type "Exception",.type "BaseException",.type "object"]
structure XK0(K:Frag)(C S:Addr)(cd:ag8):Prop where
 cls:clsIn K C=aa cd
 mro:cd.mro= .ref C::.ref S::vE
 lX:cd.hasDict=true
 ty:typeIn K (.ref C)=aa (.type "type")
 sa:findIn K (.ref C) "__setattr__" =aa (aa (.builtin "object.__setattr__"))
 ga:findIn K (.ref C) "__getattribute__" =aa (aa (.builtin "BaseException.__getattribute__"))
 gt:findIn K (.ref C) "__getattr__" =aa ae
 cl:findIn K (.ref C) "__class__" =aa (aa (.builtin "object.__class__"))
def xm(a:Addr)(o:Obj):HO:=.ext λh=>h.get? a=aa o
def xh(a:Addr)(o:Obj):HO:=.iS o (xm a o)
abbrev xo(C:Addr)(d:Option Addr)(vs:Array Value)(sl:Array (Option Value)):Obj:=⟨.ref C,d,.fields vs,sl⟩
def aad(H:Hp):Option Addr->Option Obj->Prop
 |some dx,aa od=>H dx=aa (xh dx od)
 |none,ae=>True
 |_,_=>False
structure qr(K:Frag)(H:Hp)(a C S:Addr)(vs:List (Key×V)):Prop where
 ex:∃(cd:ag8) (d:Option Addr) (kA:Array Value) (sl:Array (Option Value)) (ym:Option Obj),XK0 K C S cd/\H a=aa (xh a (xo C d kA sl))/\aad H d ym/\
  ∀(f:Str) (v:V),(ahY f,v)∈vs->findIn K (.ref C) f=aa ae/\∃od u,ym=aa od/\lookIn f od=aa (aa u)/\RelV v u
theorem qr.up{K:Frag}{H H':Hp}{a C S:Addr}{vs:List (Key×V)}(h:qr K H a C S vs)(fz:∀p o x,H p=aa (.iS o x)->H' p=aa (.iS o x)):qr K H' a C S vs:=by
 obtain⟨cd,d,kA,sl,ym,h1,h2,h3,h4⟩:=h.ex;refine⟨cd,d,kA,sl,ym,h1,fz _ _ _ h2,?_,h4⟩;cases d with
 |none=>
  cases ym with
  |none=>exact agA
  |some od=>exact h3
 |some dx=>
  cases ym with
  |none=>exact h3
  |some od=>exact fz _ _ _ h3
end L2
namespace Qm
open PySem
structure G_ where
 params:Arguments
 body:acu
 scope:Scope
 qual:Str
 code:Nat
 pos:Pos
 free:List Str
end Qm
namespace L2
open PySem PySem.W PySem.Spec PyProof.Rows
structure Ha(H:Hp)(a:Addr)(t:Qm.G_)(vs:List V):Prop where
 ex:∃(yo:List (Str×Addr)) (pm Uo:Value) (c':Addr) (oc:Obj) (fs:Array Value) (tk:Tok),H a=aa (xh a (kla_obj "<lambda>" t.qual t.params t.body t.scope yo pm c' Uo))/\
  H c'=aa (xh c' oc)/\oc.data= .fields fs/\fs[1]? =aa (.str t.qual tk)/\(∀x y c,yo.lookup x=aa c->yo.lookup y=aa c->x=y)/\
  (∀x c,yo.lookup x=aa c->x∈t.free)/\vs.length=t.free.length/\
  ∀(i:Nat) (x:Str) (v:V),t.free[i]? =aa x->vs[i]? =aa v->∃c o u u0,yo.lookup x=aa c/\H c=aa (.iS o u0)/\o.data= .cell (aa u)/\RelV v u
theorem Ha.up{H H':Hp}{a:Addr}{t:Qm.G_}{vs:List V}(h:Ha H a t vs)(fz:∀p o x,H p=aa (.iS o x)->H' p=aa (.iS o x)):Ha H' a t vs:=by
 obtain⟨yo,pm,Uo,c',oc,fs,tk,h1,h2,h3,h4,h5,h6,h7,h8⟩:=h.ex;refine⟨yo,pm,Uo,c',oc,fs,tk,fz _ _ _ h1,fz _ _ _ h2,h3,h4,h5,h6,h7,λi x v e1 e2=>?_⟩;obtain⟨c,o,u,u0,g1,g2,g3⟩:=h8 i x v e1 e2;exact⟨c,o,u,u0,g1,fz _ _ _ g2,g3⟩
structure As(K:Frag)(H:Hp)(cd:Addr)(q:Str)(P:Addr):Prop where
 hd:codeHdIn K cd P=true
 ex:∃ps:Array Value,H P=aa (.A_ ps)/\TriplesOk ps.toList/\∀pos cv,codeAmong pos ps.toList=aa cv->∃c' oc fs tk,cv= .ref c'/\H c'=aa (xh c' oc)/\oc.data= .fields fs/\fs[1]? =aa (.str q tk)
theorem As.up{K:Frag}{H H':Hp}{cd P:Addr}{q:Str}(h:As K H cd q P)(fz:∀p o x,H p=aa (.iS o x)->H' p=aa (.iS o x))(hs:∀o,H P=aa o->H' P=aa o):As K H' cd q P:=by
 obtain⟨ps,h1,h2,h3⟩:=h.ex;refine⟨h.hd,ps,hs _ h1,h2,λpos cv e=>?_⟩;obtain⟨c',oc,fs,tk,g1,g2,g3⟩:=h3 pos cv e;exact⟨c',oc,fs,tk,g1,fz _ _ _ g2,g3⟩
end L2
namespace Qm
open PySem
noncomputable section
inductive D where
 |aA|bl(b:Bool)|int(i:Int)|str(x:Str)|tup(xs:List D)|ref(n:Nat)|ty(n:String)|adr(a:Nat)|Lk(t:G_)(bs:List D)
inductive Cell where
 |lst(xs:List D)
 |ro(xs:List D)
 |lX(ps:List (Str×D))
 |zY(ps:List (Str×D))
 |Ll(ps:List (List Int×D))
 |Lm(ps:List (List (List Int)×D))
 |Au(ps:List (List (List Int)×D))
 |exc(C S:Nat)(fs:List (Str×D))
 |tab(cd:Nat)(q:Str)
def Cell.mt:Cell->Bool
 |.ro _=>false
 |.zY _=>false
 |.Au _=>false
 |.exc _ _ _=>false
 |_=>true
abbrev Cells:=List Cell
abbrev Env:=List (Option D)
abbrev XE:=Env->Cells->Option (D×Cells)
abbrev XA:=Env->Cells->Option (List D×Cells)
abbrev XT:=Env->Cells->Option (Bool×Cells)
abbrev XO:=Env->Cells->Option (Option Int×Cells)
inductive Fl where
 |nx|rt(d:D)|bk|ct
abbrev XS:=Env->Cells->Option (Fl×Env×Cells)
abbrev XG:=D->Env->Cells->Option (Env×Cells)
abbrev zZ:=List D->Env->Cells->Option (Env×Cells)
abbrev FN:=List D->Cells->Option (D×Cells)
structure Itm where
 ds:List D
 ks:List (Nat×Cell)
abbrev XI:=Env->Cells->Option (Itm×Cells)
abbrev G1:=D->Cells->Option (D×Cells)
abbrev G2:=D->D->Cells->Option (D×Cells)
def dJ:Nat:=aiP (⟨10000000,rfl⟩:∃n:Nat,n=10000000)
theorem uB:dJ=10000000:=aiI (⟨10000000,rfl⟩:∃n:Nat,n=10000000)
def eC(d:D):XE:=λ_ c=>aa (d,c)
def eV(i:Nat):XE:=λσ c=>(σ[i]?.join).bind λd=>aa (d,c)
def e1(g:G1)(a:XE):XE:=λσ c=>(a σ c).bind λp=>g p.1 p.2
def e2(g:G2)(a b:XE):XE:=λσ c=>(a σ c).bind λp=>(b σ p.2).bind λq=>g p.1 q.1 q.2
def qd(d:D):Option Bool:=match d with
 |.bl b=>aa b
 |_=>ae
def yp(a b:XE):XE:=λσ c=>(a σ c).bind λp=>(qd p.1).bind λk=>if k=true then b σ p.2 else aa (.bl false,p.2)
def eOr(a b:XE):XE:=λσ c=>(a σ c).bind λp=>(qd p.1).bind λk=>if k=true then aa (.bl true,p.2)else b σ p.2
def Ln(a:XE):XE:=λσ c=>(a σ c).bind λp=>(qd p.1).bind λk=>aa (.bl (!k),p.2)
def lY(t:XT)(a b:XE):XE:=λσ c=>(t σ c).bind λp=>if p.1=true then a σ p.2 else b σ p.2
def aj:XA:=λ_ c=>aa ([],c)
def af(a:XE)(r:XA):XA:=λσ c=>(a σ c).bind λp=>(r σ p.2).bind λq=>aa (p.1::q.1,q.2)
def dc(a:XA):XE:=λσ c=>(a σ c).bind λp=>if p.1.length<=dJ then aa (.tup p.1,p.2)else ae
def aL(a:XA):XE:=λσ c=>(a σ c).bind λp=>if p.1.length<=dJ then aa (.ref p.2.length,p.2++[.lst p.1])else ae
def av(F:FN)(ds:List D)(a:XA):XE:=λσ c=>(a σ c).bind λp=>F (p.1++ds) p.2
def eB(F:FN)(a:XA):XE:=λσ c=>(a σ c).bind λp=>F p.1 p.2
def bU:XO:=λ_ c=>aa (ae,c)
def bF(a:XE):XO:=λσ c=>(a σ c).bind λp=>match p.1 with
 |.int i=>aa (aa i,p.2)
 |_=>ae
def eH(g:D->Option Int->Option Int->Cells->Option (D×Cells))(a:XE)(lo hi:XO):XE:=λσ c=>(a σ c).bind λp=>(lo σ p.2).bind λl=>(hi σ l.2).bind λh=>g p.1 l.1 h.1 h.2
def mj(g h:G2)(a b d:XE):XE:=λσ c=>(a σ c).bind λp=>(b σ p.2).bind λq=>(g p.1 q.1 q.2).bind λz=>(qd z.1).bind λk=>
 if k=true then(d σ z.2).bind λu=>h q.1 u.1 u.2 else aa (.bl false,z.2)
def tV(a:XE):XT:=λσ c=>(a σ c).bind λp=>(qd p.1).bind λk=>aa (k,p.2)
def dI(a b:XT):XT:=λσ c=>(a σ c).bind λp=>if p.1=true then b σ p.2 else aa (false,p.2)
def oB(a b:XT):XT:=λσ c=>(a σ c).bind λp=>if p.1=true then aa (true,p.2)else b σ p.2
def sy(a:XT):XT:=λσ c=>(a σ c).bind λp=>aa (!p.1,p.2)
def bz:XS:=λσ c=>aa (.nx,σ,c)
def ax(a b:XS):XS:=λσ c=>(a σ c).bind λp=>match p.1 with
 |.nx=>b p.2.1 p.2.2
 |_=>aa p
def aE(i:Nat)(e:XE):XS:=λσ c=>(e σ c).bind λp=>aa (.nx,σ.set i (aa p.1),p.2)
def j5(e:XE)(g:XG):XS:=λσ c=>(e σ c).bind λp=>(g p.1 σ p.2).bind λq=>aa (.nx,q.1,q.2)
def Hb(is:List Nat)(a:XA):XS:=λσ c=>(a σ c).bind λp=>if p.1.length=is.length then aa (.nx,(is.zip p.1).foldl (λσ q=>σ.set q.1 (aa q.2)) σ,p.2)else ae
def cu(t:XT)(a b:XS):XS:=λσ c=>(t σ c).bind λp=>if p.1=true then a σ p.2 else b σ p.2
def bj(e:XE):XS:=λσ c=>(e σ c).bind λp=>aa (.rt p.1,σ,p.2)
def de(e:XE):XS:=λσ c=>(e σ c).bind λp=>aa (.nx,σ,p.2)
def aM(i:Nat):XG:=λd σ c=>aa (σ.set i (aa d),c)
def kS:zZ:=λds σ c=>match ds with
 |[]=>aa (σ,c)
 |_=>ae
def dY(g:XG)(r:zZ):zZ:=λds σ c=>match ds with
 |d::t=>(g d σ c).bind λp=>r t p.1 p.2
 |[]=>ae
def kT(n:Nat)(g:zZ):XG:=λd σ c=>match d with
 |.tup xs=>if xs.length=n then g xs σ c else ae
 |_=>ae
def stays(ks:List (Nat×Cell))(c:Cells):Prop:=∀p∈ks,c[p.1]? =aa p.2
open Classical in
def bY(ks:List (Nat×Cell))(g:XG)(body:XS):List D->XS
 |[],σ,c=>if stays ks c then aa (.nx,σ,c)else ae
 |d::r,σ,c=>if stays ks c then(g d σ c).bind λp=>(body p.1 p.2).bind λq=>(match q.1 with
   |.nx=>bY ks g body r q.2.1 q.2.2
   |.ct=>bY ks g body r q.2.1 q.2.2
   |.bk=>aa (.nx,q.2.1,q.2.2)
   |.rt d=>aa (.rt d,q.2.1,q.2.2))else ae
def jc(it:XI)(g:XG)(body:XS):XS:=λσ c=>(it σ c).bind λp=>bY p.1.ks g body p.1.ds σ p.2
def j6(t:XT)(b:XS):Nat->XS
 |0,_,_=>ae
 |n+1,σ,c=>(t σ c).bind λp=>if p.1=true then(b σ p.2).bind λq=>(match q.1 with
   |.nx=>j6 t b n q.2.1 q.2.2
   |.ct=>j6 t b n q.2.1 q.2.2
   |.bk=>aa (.nx,q.2.1,q.2.2)
   |.rt d=>aa (.rt d,q.2.1,q.2.2))else aa (.nx,σ,p.2)
open Classical in
def eY(t:XT)(b:XS):XS:=λσ c=>if h:∃n r,j6 t b n σ c=aa r then j6 t b (aiP h) σ c else ae
def uC(σ:Env)(cap:List (Option Nat)):Env:=cap.map λo=>match o with
 |some i=>(match σ[i]? with|some v=>v|none=>ae)
 |none=>ae
open Classical in
def g7(L:Nat)(ks:List (Nat×Cell))(g:XG)(tt:XT)(te:XE):List D->Env->Cells->Option Cells
 |[],_,c=>if stays ks c then aa c else ae
 |d::r,τ,c=>if stays ks c then(g d τ c).bind λp=>(tt p.1 p.2).bind λb=>if b.1=true then(te p.1 b.2).bind λy=>
   (match y.2[L]? with
    |some (.lst ys)=>if ys.length<dJ then g7 L ks g tt te r p.1 (y.2.set L (.lst (ys++[y.1])))else ae
    |_=>ae)else g7 L ks g tt te r p.1 b.2 else ae
def eJ(it:XI)(cap:List (Option Nat))(g:XG)(tt:XT)(te:XE):XE:=λσ c=>(it σ c).bind λp=>
 (g7 p.2.length p.1.ks g tt te p.1.ds (uC σ cap) (p.2++[.lst []])).bind λc'=>aa (.ref p.2.length,c')
def jB:XT:=λ_ c=>aa (true,c)
def eP(n N:Nat)(b:XS):FN:=λds c=>if ds.length=n then(b (ds.map aa++aaL (N - n) ae) c).bind λp=>(match p.1 with
 |.rt d=>aa (d,p.2.2)
 |.nx=>aa (.aA,p.2.2)
 |_=>ae)else ae
def dq(d:D)(c:Cells):Option (List D):=match d with
 |.tup xs=>aa xs
 |.ref n=>(match c[n]? with
  |some (.lst xs)=>aa xs
  |some (.ro xs)=>aa xs
  |_=>ae)
 |_=>ae
def cj(d:D)(c:Cells):Option (Nat×List D):=match d with
 |.ref n=>(match c[n]? with
  |some (.lst xs)=>aa (n,xs)
  |_=>ae)
 |_=>ae
def qt(d:D):Option Int:=match d with
 |.int i=>aa i
 |_=>ae
def ii(f:Int->Int->Option D):G2:=λx y c=>(qt x).bind λi=>(qt y).bind λj=>(f i j).bind λd=>aa (d,c)
def MulOk(i j:Int):Prop:=(My.Bd 90000 i/\My.Bd 90000 j)\/(My.Bd 64 i\/My.Bd 64 j)
open Classical in
def Av:G2:=ii λi j=>if MulOk i j then aa (.int (i*j))else ae
def iC:G2:=ii λi j=>aa (.int (i - j))
open Classical in
def eK:G2:=ii λi j=>if j≠0/\My.Bd 8900 j then aa (.int (i.fdiv j))else ae
def cG:G2:=ii λi j=>if j≠0 then aa (.int (i.fmod j))else ae
def qv:G2:=ii λi j=>if 0<=j/\j<=100/\i.natAbs<1000 then aa (.int (i ^ j.toNat))else ae
def nV:G2:=ii λi j=>aa (.bl (decide (i<j)))
def OT:G2:=ii λi j=>aa (.bl (decide (i<=j)))
def xi:G2:=ii λi j=>aa (.bl (decide (j<i)))
def OU:G2:=ii λi j=>aa (.bl (decide (j<=i)))
def bc:G2:=λx y c=>match x,y with
 |.int i,.int j=>aa (.int (i+j),c)
 |.tup xs,.tup ys=>if xs≠[]/\xs.length+ys.length<=dJ then aa (.tup (xs++ys),c)else ae
 |x,y=>(cj x c).bind λp=>(cj y c).bind λq=>if p.2.length+q.2.length<=dJ then aa (.ref c.length,c++[.lst (p.2++q.2)])else ae
def ez:G1:=λx c=>(qt x).bind λi=>aa (.int (-i),c)
def omap{α β:Type}(f:α->Option β):List α->Option (List β)
 |[]=>aa []
 |x::xs=>(f x).bind λd=>(omap f xs).bind λds=>aa (d::ds)
def data(c:Cells):Nat->D->Option agI
 |0,_=>ae
 |k+1,d=>match d with
  |.aA=>aa .none
  |.int i=>aa (.int i)
  |.str x=>if x.cps.all (·<1114112)=true then aa (.str x)else ae
  |.tup xs=>(omap (data c k) xs).bind λds=>aa (.tuple ds)
  |.ref n=>(match c[n]? with
   |some (.lst xs)=>(omap (data c k) xs).bind λds=>aa (.list ds)
   |some (.ro xs)=>(omap (data c k) xs).bind λds=>aa (.list ds)
   |_=>ae)
  |_=>ae
open Classical in
def vH(x y:D)(c:Cells):Option Bool:=match x,y with
 |.bl a,.bl b=>aa (a==b)
 |x,y=>(data c 6 x).bind λd=>(data c 6 y).bind λe=>aa (decide (d=e))
def cO:G2:=λx y c=>(vH x y c).bind λb=>aa (.bl b,c)
def gG:G2:=λx y c=>(vH x y c).bind λb=>aa (.bl (!b),c)
def ik:G2:=λx y c=>match y with
 |.aA=>aa (.bl (match x with|.aA=>true|_=>false),c)
 |_=>ae
open Classical in
def Lo(x y:D)(c:Cells):Option Bool:=(dq y c).bind λxs=>(data c 5 x).bind λd=>(omap (data c 5) xs).bind λds=>aa (decide (d∈ds))
def OV:G2:=λx y c=>(Lo x y c).bind λb=>aa (.bl b,c)
def rK:G2:=λx y c=>(Lo x y c).bind λb=>aa (.bl (!b),c)
def qw(n:Nat)(i:Int):Option Nat:=if 0<=i then(if i<n then aa i.toNat else ae)else if -(n:Int)<=i then aa (i+n).toNat else ae
def eI{α:Type}(xs:List α)(i:Int):Option α:=(qw xs.length i).bind λj=>xs[j]?
def aK:G2:=λx y c=>(dq x c).bind λxs=>(qt y).bind λi=>(eI xs i).bind λd=>aa (d,c)
def yq(n d:Nat):Option Int->Nat
 |none=>d
 |some v=>if v<0 then(v+n).toNat else min v.toNat n
def cutD{α:Type}(xs:List α)(lo hi:Option Int):List α:=(xs.drop (yq xs.length 0 lo)).take (yq xs.length xs.length hi - yq xs.length 0 lo)
def cN(x:D)(lo hi:Option Int)(c:Cells):Option (D×Cells):=match x with
 |.tup xs=>aa (.tup (cutD xs lo hi),c)
 |x=>(dq x c).bind λxs=>aa (.ref c.length,c++[.lst (cutD xs lo hi)])
def pW(o i:XE):XG:=λd σ c=>(o σ c).bind λp=>(i σ p.2).bind λq=>(cj p.1 q.2).bind λl=>(qt q.1).bind λk=>(qw l.2.length k).bind λj=>aa (σ,q.2.set l.1 (.lst (l.2.set j d)))
def one(g:G1):FN:=λds c=>match ds with
 |[x]=>g x c
 |_=>ae
def two(g:G2):FN:=λds c=>match ds with
 |[x,y]=>g x y c
 |_=>ae
def wG:FN:=one λx c=>(qt x).bind λi=>aa (.int (if i<0 then -i else i),c)
def bA:FN:=one λx c=>(dq x c).bind λxs=>aa (.int xs.length,c)
def yr:FN:=one λx c=>match x with
 |.int i=>aa (.int i,c)
 |.bl k=>aa (.int (if k then 1 else 0),c)
 |_=>ae
def Bs:FN:=two (ii λi j=>aa (.int (if j > i then j else i)))
def Bt:FN:=two (ii λi j=>aa (.int (if j<i then j else i)))
def vI:FN:=one λx c=>(dq x c).bind λxs=>aa (.ref c.length,c++[.lst xs])
def Hc(n:String)(d:D)(c:Cells):Option Bool:=match d with
 |.int _=>if n= "int" then aa true else if n= "bool" then aa false else ae
 |.bl _=>if n= "bool" then aa true else ae
 |.tup _=>if n= "tuple" then aa true else ae
 |.ref m=>(match c[m]? with
  |some (.lst _)=>if n= "list" then aa true else ae
  |_=>ae)
 |_=>ae
def qx:FN:=two λx y c=>match y with
 |.ty n=>(Hc n x c).bind λk=>aa (.bl k,c)
 |_=>ae
def Hd:FN:=one λx c=>(cj x c).bind λl=>(omap qd l.2).bind λbs=>aa (.bl (bs.all id),c)
def Lp:FN:=one λx c=>(cj x c).bind λl=>(omap qd l.2).bind λbs=>aa (.bl (bs.any id),c)
def aae(xs ys:List D):List D:=(xs.zip ys).map λp=>.tup [p.1,p.2]
def eM(g:D->FN)(o:XE)(a:XA):XE:=λσ c=>(o σ c).bind λp=>(cj p.1 p.2).bind λ_=>(a σ p.2).bind λq=>g p.1 q.1 q.2
def bI(o:D):FN:=one λy c=>(cj o c).bind λl=>if l.2.length<dJ then aa (.aA,c.set l.1 (.lst (l.2++[y])))else ae
def fJ(a:XE):XI:=λσ c=>(a σ c).bind λp=>match p.1 with
 |.ref n=>(p.2[n]?).bind λz=>(dq (.ref n) p.2).bind λxs=>aa (⟨xs,[(n,z)]⟩,p.2)
 |_=>ae
def eU(lo:Int)(n:Nat):List D:=(agz n).map λ(i:Nat)=>.int (lo+i)
structure Uq(j:Int):Prop where
 lo: -(2 ^ 62)<=j
 hi:j<2 ^ 62
open Classical in
def dZ(a:XA):XI:=λσ c=>(a σ c).bind λp=>match p.1 with
 |[.int j]=>if Uq j then aa (⟨eU 0 j.toNat,[]⟩,p.2)else ae
 |_=>ae
open Classical in
def sW(a:XA):XI:=λσ c=>(a σ c).bind λp=>match p.1 with
 |[.int i,.int j]=>if Uq i/\Uq j then aa (⟨eU i (j - i).toNat,[]⟩,p.2)else ae
 |_=>ae
variable{b:XS}
theorem oJ{t:XT}:∀{n k:Nat}{σ:Env}{c:Cells}{r},j6 t b n σ c=aa r->j6 t b (n+k) σ c=aa r
 |0,_,_,_,_,h=>by simp[j6]at h
 |n+1,k,σ,c,r,h=>by
  rw[show n+1+k=(n+k)+1 by omega];simp only[j6]at h |-
  cases ht:t σ c with
  |none=>rw[ht]at h;simp at h
  |some p=>
   rw[ht]at h;simp only[Zu]at h |-
   split
   .rename_i hp
    rw[if_pos hp]at h;cases hb:b σ p.2 with
    |none=>rw[hb]at h;simp at h
    |some q=>
     rw[hb]at h;simp only[Zu]at h |-
     obtain⟨f,σ',c'⟩:=q;cases f with
     |nx=>exact oJ h
     |ct=>exact oJ h
     |bk=>exact h
     |rt d=>exact h
   .rename_i hp
    rw[if_neg hp]at h;exact h
variable{σ:Env}{c:Cells}
theorem yt{t:XT}{n:Nat}{r}(h:j6 t b n σ c=aa r):eY t b σ c=aa r:=by
 have hx:∃n r,j6 t b n σ c=aa r:=⟨n,r,h⟩;unfold eY;rw[dif_pos hx];obtain⟨r',h'⟩:=aiI hx;have h1:=oJ (k:=n) h';have h2:=oJ (k:=aiP hx) h;rw[Nat.add_comm]at h2;rw[h'];exact h1.symm.trans h2
theorem yu{t:XT}{r}(h:eY t b σ c=aa r):∃n,j6 t b n σ c=aa r:=by
 unfold eY at h;split at h
 .exact⟨_,h⟩
 .cases h
theorem g8{t:XT}{c':Cells}(h:t σ c=aa (false,c')):eY t b σ c=aa (.nx,σ,c'):=
 yt (n:=1) (by simp[j6,h])
theorem oK{t:XT}{σ':Env}{c' c2:Cells}{r}(h:t σ c=aa (true,c'))(hb:b σ c'=aa (.nx,σ',c2))(hr:eY t b σ' c2=aa r):eY t b σ c=aa r:=by
 obtain⟨n,hn⟩:=yu hr;exact yt (n:=n+1) (by simp[j6,h,hb,hn])
end
end Qm
namespace L2
open PySem PySem.Spec PyProof.Rows
theorem aJ{α β:Type}{x:Option α}{f:α->Option β}{z:β}(h:x.bind f=aa z):∃a,x=aa a/\f a=aa z:=by
 cases x with
 |none=>cases h
 |some a=>exact⟨a,rfl,h⟩
theorem kY{n:Nat}(h:n<=Qm.dJ):n<=sizeLine:=ab2 h (by rw[Qm.uB,adt];decide)
theorem C7{n:Nat}(h:n<Qm.dJ):n<sizeLine:=aa1 h (by rw[Qm.uB,adt];decide)
mutual
inductive RD(K:aaa)(ρ:Nat->Addr)(N:Nat)(H:Hp):Qm.D->V->Prop
 |aA:RD K ρ N H .aA .aA
 |bl (b:Bool):RD K ρ N H (.bl b) (.bl b)
 |int (i:Int):RD K ρ N H (.int i) (.int i)
 |str (x:Str):RD K ρ N H (.str x) (.str x)
 |ty (n:String):RD K ρ N H (.ty n) (.ty n)
 |tup {p:Addr}{xs:List V}{ds:List Qm.D}:H p=aa (.tup xs)->RA K ρ N H ds xs->RD K ρ N H (.tup ds) (.ref p)
 |ref {n:Nat}:n<N->RD K ρ N H (.ref n) (.ref (ρ n))
 |adr (a:Nat):RD K ρ N H (.adr a) (.ref a)
 |Lk {a:Addr}{t:Qm.G_}{ds:List Qm.D}{vs:List V}:Ha H a t vs->RA K ρ N H ds vs->RD K ρ N H (.Lk t ds) (.ref a)
inductive RA(K:aaa)(ρ:Nat->Addr)(N:Nat)(H:Hp):List Qm.D->List V->Prop
 |nil:RA K ρ N H [] []
 |cons {d:Qm.D}{ds:List Qm.D}{x:V}{xs:List V}:RD K ρ N H d x->RA K ρ N H ds xs->RA K ρ N H (d::ds) (x::xs)
end
structure Up(K:aaa)(ρ:Nat->Addr)(N:Nat)(H:Hp)(aZ:Nat->Addr)(N':Nat)(H':Hp):Prop where
 agree:∀n,n<N->aZ n=ρ n
 len:N<=N'
 ts:∀p xs,H p=aa (.tup xs)->H' p=aa (.tup xs)
 fz:∀p o x,H p=aa (.iS o x)->H' p=aa (.iS o x)
section
variable{K:aaa}{ρ aZ C8:Nat->Addr}{N N' N'':Nat}{H H' jA:Hp}
theorem Up.refl:Up K ρ N H ρ N H:=⟨λ_ _=>rfl,aat _,λ_ _ h=>h,λ_ _ _ h=>h⟩
theorem Up.trans(a:Up K ρ N H aZ N' H')(b:Up K aZ N' H' C8 N'' jA):Up K ρ N H C8 N'' jA:=
 ⟨λn h=>(b.agree n (aa1 h a.len)).trans (a.agree n h),ab2 a.len b.len,λp xs h=>b.ts p xs (a.ts p xs h),λp o x h=>b.fz p o x (a.fz p o x h)⟩
mutual
theorem RD.up(u:Up K ρ N H aZ N' H'):∀{d:Qm.D}{v:V},RD K ρ N H d v->RD K aZ N' H' d v
 |_,_,.aA=>.aA
 |_,_,.bl b=>.bl b
 |_,_,.int i=>.int i
 |_,_,.str x=>.str x
 |_,_,.ty n=>.ty n
 |_,_,.adr a=>.adr a
 |_,_,.Lk h a=>.Lk (h.up u.fz) (RA.up u a)
 |_,_,.tup h a=>.tup (u.ts _ _ h) (RA.up u a)
 |_,_,.ref (n:=n) h=>by rw[<-u.agree n h];exact .ref (aa1 h u.len)
theorem RA.up(u:Up K ρ N H aZ N' H'):∀{ds:List Qm.D}{vs:List V},RA K ρ N H ds vs->RA K aZ N' H' ds vs
 |_,_,.nil=>.nil
 |_,_,.cons h a=>.cons (RD.up u h) (RA.up u a)
end
theorem RA.length:∀{ds:List Qm.D}{vs:List V},RA K ρ N H ds vs->ds.length=vs.length
 |_,_,.nil=>rfl
 |_,_,.cons _ a=>congrArg (·+1) (RA.length a)
theorem RA.append:∀{ds es:List Qm.D}{vs us:List V},RA K ρ N H ds vs->RA K ρ N H es us->RA K ρ N H (ds++es) (vs++us)
 |_,_,_,_,.nil,b=>b
 |_,_,_,_,.cons h a,b=>.cons h (RA.append a b)
theorem RA.get:∀{ds:List Qm.D}{vs:List V}{i:Nat}{d:Qm.D},RA K ρ N H ds vs->ds[i]? =aa d->∃v,vs[i]? =aa v/\RD K ρ N H d v
 |_,_,_,_,.nil,e=>by simp at e
 |_,_,0,_,.cons h _,e=>by simp at e;subst e;exact⟨_,rfl,h⟩
 |_,_,i+1,d,.cons _ a,e=>by
  obtain⟨v,h1,h2⟩:=RA.get (i:=i) (d:=d) a (by simpa using e);exact⟨v,by simpa using h1,h2⟩
theorem RA.take:∀{ds:List Qm.D}{vs:List V} (n:Nat),RA K ρ N H ds vs->RA K ρ N H (ds.take n) (vs.take n)
 |_,_,0,_=>.nil
 |_,_,_+1,.nil=>.nil
 |_,_,n+1,.cons h a=>.cons h (RA.take n a)
theorem RA.drop:∀{ds:List Qm.D}{vs:List V} (n:Nat),RA K ρ N H ds vs->RA K ρ N H (ds.drop n) (vs.drop n)
 |_,_,0,a=>a
 |_,_,_+1,.nil=>.nil
 |_,_,n+1,.cons _ a=>RA.drop n a
variable{d:Qm.D}{v:V}
theorem RA.set(r:RD K ρ N H d v):∀{ds:List Qm.D}{vs:List V} (n:Nat),RA K ρ N H ds vs->RA K ρ N H (ds.set n d) (vs.set n v)
 |_,_,_,.nil=>.nil
 |_,_,0,.cons _ a=>.cons r a
 |_,_,n+1,.cons h a=>.cons h (RA.set r n a)
theorem RA.one(h:RD K ρ N H d v):RA K ρ N H [d] [v]:=.cons h .nil
variable{vs:List V}
theorem RA.kr(h:RA K ρ N H [d] vs):∃v,vs=[v]/\RD K ρ N H d v:=by
 cases h with
 |cons r t=>cases t;exact⟨_,rfl,r⟩
theorem RA.uD{e:Qm.D}(h:RA K ρ N H [d,e] vs):∃v u,vs=[v,u]/\RD K ρ N H d v/\RD K ρ N H e u:=by
 cases h with
 |cons r t=>obtain⟨u,rfl,q⟩:=RA.kr t;exact⟨_,_,rfl,r,q⟩
theorem RA.aag(h:RA K ρ N H [] vs):vs=[]:=by cases h;rfl
theorem RD.gr{i:Int}(h:RD K ρ N H (.int i) v):v= .int i:=by cases h;rfl
theorem RD.kZ{b:Bool}(h:RD K ρ N H (.bl b) v):v= .bl b:=by cases h;rfl
theorem RD.Lq(h:RD K ρ N H .aA v):v= .aA:=by cases h;rfl
theorem RD.uE{ds:List Qm.D}(h:RD K ρ N H (.tup ds) v):∃p xs,v= .ref p/\H p=aa (.tup xs)/\RA K ρ N H ds xs:=by cases h with|tup a b=>exact⟨_,_,rfl,a,b⟩
theorem RD.wH{n:Nat}(h:RD K ρ N H (.ref n) v):v= .ref (ρ n)/\n<N:=by cases h with|ref h=>exact⟨rfl,h⟩
end
def Aw(K:aaa)(H:Hp)(a:Addr)(xs:List V):Prop:=(∃o,H a=aa (.iS o (.lst xs)))\/dX K (λ_=>ae) a xs
variable{K:aaa}{H:Hp}
theorem Aw.seq{a:Addr}{xs:List V}(h:Aw K H a xs):dX K H a xs:=by
 rcases h with⟨o,h⟩|h
 .exact .inl (.inr ⟨o,h⟩)
 .rcases h with(h|⟨o,h⟩)|h
  .cases h
  .cases h
  .exact .inr h
theorem Aw.of{a:Addr}{xs:List V}(hO:C2 H)(h:dX K H a xs):Aw K H a xs:=by
 rcases h with(h|⟨o,h⟩)|h
 .rcases hO a with z|⟨o,ys,z⟩
  .rw[z]at h;cases h
  .rw[z]at h;cases h
 .exact .inl ⟨o,h⟩
 .exact .inr (.inr h)
inductive RK(K:aaa)(ρ:Nat->Addr)(N:Nat)(H:Hp):List (Str×Qm.D)->List (Key×V)->Prop
 |nil:RK K ρ N H [] []
 |cons {k:Str}{d:Qm.D}{ds:List (Str×Qm.D)}{x:V}{xs:List (Key×V)}:RD K ρ N H d x->RK K ρ N H ds xs->RK K ρ N H ((k,d)::ds) ((.inr k,x)::xs)
variable{ρ aZ:Nat->Addr}{N':Nat}
theorem RK.up{N:Nat}{H':Hp}(u:Up K ρ N H aZ N' H'):∀{ds:List (Str×Qm.D)}{vs:List (Key×V)},RK K ρ N H ds vs->RK K aZ N' H' ds vs
 |_,_,.nil=>.nil
 |_,_,.cons h a=>.cons (h.up u) (RK.up u a)
inductive uF(K:aaa)(ρ:Nat->Addr)(N:Nat)(H:Hp):List (List Int×Qm.D)->List (List Key×V)->Prop
 |nil:uF K ρ N H [] []
 |cons {k:List Int}{d:Qm.D}{ds:List (List Int×Qm.D)}{x:V}{xs:List (List Key×V)}:RD K ρ N H d x->uF K ρ N H ds xs->uF K ρ N H ((k,d)::ds) ((k.map ajz,x)::xs)
inductive tu(K:aaa)(ρ:Nat->Addr)(N:Nat)(H:Hp):List (List (List Int)×Qm.D)->List (List (List Key)×V)->Prop
 |nil:tu K ρ N H [] []
 |cons {k:List (List Int)}{d:Qm.D}{ds:List (List (List Int)×Qm.D)}{x:V}{xs:List (List (List Key)×V)}:RD K ρ N H d x->tu K ρ N H ds xs->tu K ρ N H ((k,d)::ds) ((k.map (List.map ajz),x)::xs)
theorem uF.up{N:Nat}{H':Hp}(u:Up K ρ N H aZ N' H'):∀{ds:List (List Int×Qm.D)}{vs:List (List Key×V)},uF K ρ N H ds vs->uF K aZ N' H' ds vs
 |_,_,.nil=>.nil
 |_,_,.cons h a=>.cons (h.up u) (uF.up u a)
theorem tu.up{N:Nat}{H':Hp}(u:Up K ρ N H aZ N' H'):∀{ds:List (List (List Int)×Qm.D)}{vs:List (List (List Key)×V)},tu K ρ N H ds vs->tu K aZ N' H' ds vs
 |_,_,.nil=>.nil
 |_,_,.cons h a=>.cons (h.up u) (tu.up u a)
def CO(K:aaa)(ρ:Nat->Addr)(N:Nat)(H:Hp)(a:Addr):Qm.Cell->Prop
 |.lst ds=>∃vs,H a=aa (.lst vs)/\RA K ρ N H ds vs
 |.ro ds=>∃vs,Aw K H a vs/\RA K ρ N H ds vs
 |.lX ds=>∃vs,H a=aa (.dK vs)/\RK K ρ N H ds vs
 |.zY ds=>∃o vs,H a=aa (.iS o (.dK vs))/\RK K ρ N H ds vs
 |.Ll ds=>∃vs,H a=aa (.dT vs)/\uF K ρ N H ds vs
 |.Lm ds=>∃vs,H a=aa (.dU vs)/\tu K ρ N H ds vs
 |.Au ds=>∃o vs,H a=aa (.iS o (.dU vs))/\tu K ρ N H ds vs
 |.exc C S ds=>∃vs,qr K H a C S vs/\RK K ρ N H ds vs
 |.tab cd q=>As K H cd q a
structure RS(K:aaa)(ρ:Nat->Addr)(c:Qm.Cells)(H:Hp):Prop where
 inj:∀(i j:Nat) (z y:Qm.Cell),c[i]? =aa z->c[j]? =aa y->z.mt=true->y.mt=true->ρ i=ρ j->i=j
 ok:∀(n:Nat) (z:Qm.Cell),c[n]? =aa z->CO K ρ c.length H (ρ n) z
structure RE(K:aaa)(ρ:Nat->Addr)(N:Nat)(H:Hp)(env:Qm.Env)(σ:St):Prop where
 len:env.length=σ.length
 at_:∀(i:Nat) (d:Qm.D),env[i]? =aa (aa d)->∃v:V,σ[i]? =aa (aa v)/\RD K ρ N H d v
structure Nx(K:aaa)(ρ:Nat->Addr)(c:Qm.Cells)(H:Hp)(aZ:Nat->Addr)(c':Qm.Cells)(H':Hp):Prop where
 up:Up K ρ c.length H aZ c'.length H'
 rs:RS K aZ c' H'
section
variable{K:aaa}{ρ aZ C8:Nat->Addr}{N N':Nat}{c c' yw:Qm.Cells}{H H' jA:Hp}{env:Qm.Env}{σ:St}
theorem RE.up(h:RE K ρ N H env σ)(u:Up K ρ N H aZ N' H'):RE K aZ N' H' env σ:=⟨h.len,λi d e=>let ⟨v,h1,h2⟩:=h.at_ i d e;⟨v,h1,h2.up u⟩⟩
theorem Nx.refl(r:RS K ρ c H):Nx K ρ c H ρ c H:=⟨Up.refl,r⟩
theorem Nx.trans(a:Nx K ρ c H aZ c' H')(b:Nx K aZ c' H' C8 yw jA):Nx K ρ c H C8 yw jA:=⟨a.up.trans b.up,b.rs⟩
variable{z:Qm.Cell}
theorem CO.up{a:Addr}(h:CO K ρ N H a z)(u:Up K ρ N H aZ N' H')(hs:∀o,H a=aa o->H' a=aa o):CO K aZ N' H' a z:=by
 cases z with
 |lst ds=>obtain⟨vs,h1,h2⟩:=h;exact⟨vs,hs _ h1,h2.up u⟩
 |ro ds=>
  obtain⟨vs,h1,h2⟩:=h;refine⟨vs,?_,h2.up u⟩;rcases h1 with⟨o,h1⟩|h1
  .exact .inl ⟨o,hs _ h1⟩
  .exact .inr h1
 |lX ds=>obtain⟨vs,h1,h2⟩:=h;exact⟨vs,hs _ h1,h2.up u⟩
 |zY ds=>obtain⟨o,vs,h1,h2⟩:=h;exact⟨o,vs,hs _ h1,h2.up u⟩
 |Ll ds=>obtain⟨vs,h1,h2⟩:=h;exact⟨vs,hs _ h1,h2.up u⟩
 |Lm ds=>obtain⟨vs,h1,h2⟩:=h;exact⟨vs,hs _ h1,h2.up u⟩
 |Au ds=>obtain⟨o,vs,h1,h2⟩:=h;exact⟨o,vs,hs _ h1,h2.up u⟩
 |exc C S ds=>obtain⟨vs,h1,h2⟩:=h;exact⟨vs,h1.up u.fz,h2.up u⟩
 |tab cd q=>exact As.up h u.fz hs
theorem CO.obj{a:Addr}(h:CO K ρ N H a z)(m:z.mt=true):∃o,H a=aa o/\(∀xs,o≠.tup xs)/\∀q x,o≠.iS q x:=by
 cases z with
 |lst ds=>obtain⟨vs,h1,_⟩:=h;exact⟨_,h1,(λ_ z=>by cases z),(λ_ _ z=>by cases z)⟩
 |ro ds=>cases m
 |zY ds=>cases m
 |lX ds=>obtain⟨vs,h1,_⟩:=h;exact⟨_,h1,(λ_ z=>by cases z),(λ_ _ z=>by cases z)⟩
 |Ll ds=>obtain⟨vs,h1,_⟩:=h;exact⟨_,h1,(λ_ z=>by cases z),(λ_ _ z=>by cases z)⟩
 |Lm ds=>obtain⟨vs,h1,_⟩:=h;exact⟨_,h1,(λ_ z=>by cases z),(λ_ _ z=>by cases z)⟩
 |Au ds=>cases m
 |exc C S ds=>cases m
 |tab cd q=>obtain⟨ps,h1,_⟩:=As.ex h;exact⟨_,h1,(λ_ z=>by cases z),(λ_ _ z=>by cases z)⟩
variable{d:Qm.D}
theorem RE.set{v:V}{i:Nat}(h:RE K ρ N H env σ)(r:RD K ρ N H d v):RE K ρ N H (env.set i (aa d)) (σ.set i (aa v)):=by
 refine⟨by rw[abB,abB];exact h.len,λj e he=>?_⟩;rw[aal]at he |-
 have hl:=h.len
 by_cases w_:i=j
 .rw[if_pos w_]at he |-
  subst w_;split at he
  .rename_i fW
   rw[if_pos (by omega)];cases he;exact⟨v,rfl,r⟩
  .cases he
 .rw[if_neg w_]at he |-
  exact h.at_ j e he
theorem Nx.same(r:RS K ρ c H)(e:GY H H'):Nx K ρ c H ρ c H':=by
 have u:Up K ρ c.length H ρ c.length H':=⟨λ_ _=>rfl,aat _,λp xs h=>e _ _ h,λp o x h=>e _ _ h⟩;exact⟨u,r.inj,λn z hz=>(r.ok n z hz).up u (λo h=>e _ _ h)⟩
theorem Nx.Bu(r:RS K ρ c H){l:Addr}(hl:H l=ae){o:HO}(hz:∀aZ N' H',Up K ρ c.length H aZ N' H'->H' l=aa o->CO K aZ N' H' l z):Nx K ρ c H (λn=>if n=c.length then l else ρ n) (c++[z]) (upd H l o)/\RD K (λn=>if n=c.length then l else ρ n) (c++[z]).length (upd H l o) (.ref c.length) (.ref l):=by
 have hlen:(c++[z]).length=c.length+1:=by simp
 have u:Up K ρ c.length H (λn=>if n=c.length then l else ρ n) (c++[z]).length (upd H l o):=by
  refine⟨λn h=>if_neg (by omega),by omega,λp xs h=>aG h hl,λp o x h=>aG h hl⟩
 refine⟨⟨u,λi j x y h1 h2 m1 m2 e=>?_,λn z' OW=>?_⟩,?_⟩
 .have lt1:i<c.length+1:=by rw[<-hlen];exact(aan.mp h1).1
  have lt2:j<c.length+1:=by rw[<-hlen];exact(aan.mp h2).1
  have fresh:∀k y,k<c.length->(c++[z])[k]? =aa y->y.mt=true->ρ k≠l:=λk y hk hz m e'=>by
   rw[abi hk]at hz;obtain⟨o',h',_⟩:=(r.ok k _ hz).obj m;rw[e',hl]at h';cases h'
  by_cases hi:i=c.length<;>by_cases hj:j=c.length
  .omega
  .exfalso
   simp only[hi,if_true,if_neg hj]at e;exact fresh j y (by omega) h2 m2 e.symm
  .exfalso
   simp only[hj,if_true,if_neg hi]at e;exact fresh i x (by omega) h1 m1 e
  .simp only[if_neg hi,if_neg hj]at e
   rw[abi (by omega)]at h1 h2;exact r.inj i j x y h1 h2 m1 m2 e
 .have lt:n<c.length+1:=by rw[<-hlen];exact(aan.mp OW).1
  by_cases hn:n=c.length
  .subst hn
   have:z'=z:=by simpa using OW.symm
   subst this;simp only[if_true];exact hz _ _ _ u bH
  .simp only[if_neg hn]
   rw[abi (by omega)]at OW;exact(r.ok n z' OW).up u (λo h=>aG h hl)
 .have:=RD.ref (K:=K) (ρ:=λn=>if n=c.length then l else ρ n) (N:=(c++[z]).length) (H:=upd H l o) (n:=c.length) (by omega)
  simpa using this
variable{ds:List Qm.D}
theorem Nx.alloc(r:RS K ρ c H){l:Addr}(hl:H l=ae){vs:List V}(a:RA K ρ c.length H ds vs):Nx K ρ c H (λn=>if n=c.length then l else ρ n) (c++[.lst ds]) (upd H l (.lst vs))/\RD K (λn=>if n=c.length then l else ρ n) (c++[Qm.Cell.lst ds]).length (upd H l (.lst vs)) (.ref c.length) (.ref l):=
 Nx.Bu r hl λ_ _ _ u h=>⟨vs,h,a.up u⟩
theorem Nx.OX(r:RS K ρ c H){l:Addr}(hl:H l=ae){ds:List (Str×Qm.D)}{vs:List (Key×V)}(a:RK K ρ c.length H ds vs):Nx K ρ c H (λn=>if n=c.length then l else ρ n) (c++[.lX ds]) (upd H l (.dK vs))/\RD K (λn=>if n=c.length then l else ρ n) (c++[Qm.Cell.lX ds]).length (upd H l (.dK vs)) (.ref c.length) (.ref l):=
 Nx.Bu r hl λ_ _ _ u h=>⟨vs,h,a.up u⟩
variable{n:Nat}
theorem Nx.aah(r:RS K ρ c H){y:Qm.Cell}(hn:c[n]? =aa y)(my:y.mt=true){o:HO}(hz:∀N' H',Up K ρ c.length H ρ N' H'->H' (ρ n)=aa o->CO K ρ N' H' (ρ n) z):Nx K ρ c H ρ (c.set n z) (upd H (ρ n) o):=by
 obtain⟨w,hw,hk⟩:=(r.ok n _ hn).obj my;have fW:n<c.length:=(aan.mp hn).1;have Lr:∀{p:Addr}{q:HO},H p=aa q->((∃ys,q= .tup ys)\/∃o x,q= .iS o x)->p≠ρ n:=λ{p q} h h1 e=>by
  rw[e,hw]at h;cases h;rcases h1 with⟨_,rfl⟩|⟨_,_,rfl⟩
  .exact hk.1 _ rfl
  .exact hk.2 _ _ rfl
 have u:Up K ρ c.length H ρ (c.set n z).length (upd H (ρ n) o):=by
  refine⟨λ_ _=>rfl,by rw[abB];exact aat _,λp ys h=>?_,λp q x h=>?_⟩
  .rw[aY (Lr h (.inl ⟨_,rfl⟩))];exact h
  .rw[aY (Lr h (.inr ⟨_,_,rfl⟩))];exact h
 have look:∀{j:Nat}{x:Qm.Cell},j≠n->(c.set n z)[j]? =aa x->c[j]? =aa x:=λ{j x} hj hx=>by
  rw[aal,if_neg (λe=>hj e.symm)]at hx;exact hx
 have back:∀{j:Nat}{x:Qm.Cell},(c.set n z)[j]? =aa x->x.mt=true->∃x',c[j]? =aa x'/\x'.mt=true:=λ{j x} hx m=>by
  by_cases hj:j=n
  .subst hj;exact⟨y,hn,my⟩
  .exact⟨x,look hj hx,m⟩
 refine⟨u,λi j p q h1 h2 m1 m2 e=>?_,λj x hx=>?_⟩
 .obtain⟨_,g1,w1⟩:=back h1 m1
  obtain⟨_,g2,w2⟩:=back h2 m2;exact r.inj i j _ _ g1 g2 w1 w2 e
 .by_cases hj:j=n
  .subst hj
   have:x=z:=by
    rw[aal,if_pos rfl,if_pos fW]at hx;cases hx;rfl
   subst this;exact hz _ _ u bH
  .have wZ:=look hj hx
   by_cases hm:x.mt=true
   .have hp:ρ j≠ρ n:=λe=>hj (r.inj j n _ _ wZ hn hm my e)
    exact(r.ok j _ wZ).up u (λys h=>by rw[aY hp];exact h)
   .cases x with
    |lst zs=>exact absurd rfl hm
    |lX zs=>exact absurd rfl hm
    |Ll zs=>exact absurd rfl hm
    |Lm zs=>exact absurd rfl hm
    |tab cd q=>exact absurd rfl hm
    |zY zs=>
     obtain⟨o',k_,h1,h2⟩:=r.ok j _ wZ;exact⟨o',k_,by rw[aY (Lr h1 (.inr ⟨_,_,rfl⟩))];exact h1,h2.up u⟩
    |Au zs=>
     obtain⟨o',k_,h1,h2⟩:=r.ok j _ wZ;exact⟨o',k_,by rw[aY (Lr h1 (.inr ⟨_,_,rfl⟩))];exact h1,h2.up u⟩
    |exc C S zs=>
     obtain⟨k_,h1,h2⟩:=r.ok j _ wZ;exact⟨k_,h1.up u.fz,h2.up u⟩
    |ro zs=>
     obtain⟨k_,h1,h2⟩:=r.ok j _ wZ;refine⟨k_,?_,h2.up u⟩;rcases h1 with⟨o,h1⟩|h1
     .exact .inl ⟨o,by rw[aY (Lr h1 (.inr ⟨_,_,rfl⟩))];exact h1⟩
     .exact .inr h1
theorem Nx.put(r:RS K ρ c H){xs:List Qm.D}(hn:c[n]? =aa (.lst xs)){vs:List V}(a:RA K ρ c.length H ds vs):Nx K ρ c H ρ (c.set n (.lst ds)) (upd H (ρ n) (.lst vs)):=
 Nx.aah r hn rfl λ_ _ u h=>⟨vs,h,a.up u⟩
theorem RS.lst(r:RS K ρ c H)(h:c[n]? =aa (.lst ds)):∃vs,H (ρ n)=aa (.lst vs)/\RA K ρ c.length H ds vs:=r.ok n _ h
theorem RS.seq(r:RS K ρ c H){v:V}(h:RD K ρ c.length H d v)(e:Qm.dq d c=aa ds):∃p vs,v= .ref p/\(dX K H p vs\/H p=aa (.tup vs))/\RA K ρ c.length H ds vs:=by
 unfold Qm.dq at e;split at e
 .cases e
  obtain⟨p,xs,rfl,h1,h2⟩:=h.uE;exact⟨p,xs,rfl,.inr h1,h2⟩
 .rename_i n
  obtain⟨rfl,hn⟩:=h.wH;split at e
  .rename_i xs hx
   cases e;obtain⟨vs,h1,h2⟩:=r.lst hx;exact⟨_,vs,rfl,.inl (dX.of h1),h2⟩
  .rename_i xs hx
   cases e;obtain⟨vs,h1,h2⟩:=r.ok n _ hx;exact⟨_,vs,rfl,.inl h1.seq,h2⟩
  .cases e
 .cases e
theorem Bv{c:Qm.Cells}(e:Qm.dq d c=aa ds):d= .tup ds\/∃n,d= .ref n:=by
 unfold Qm.dq at e;split at e
 .cases e;exact .inl rfl
 .exact .inr ⟨_,rfl⟩
 .cases e
theorem RS.Ls(r:RS K ρ c H){v:V}(h:RD K ρ c.length H (.ref n) v)(e:Qm.dq (.ref n) c=aa ds):∃vs,v= .ref (ρ n)/\dX K H (ρ n) vs/\RA K ρ c.length H ds vs:=by
 obtain⟨rfl,hn⟩:=h.wH;unfold Qm.dq at e;dsimp only at e;split at e
 .rename_i xs hx
  cases e;obtain⟨vs,h1,h2⟩:=r.lst hx;exact⟨vs,rfl,dX.of h1,h2⟩
 .rename_i xs hx
  cases e;obtain⟨vs,h1,h2⟩:=r.ok n _ hx;exact⟨vs,rfl,h1.seq,h2⟩
 .cases e
theorem RS.cj(r:RS K ρ c H){v:V}(h:RD K ρ c.length H d v)(e:Qm.cj d c=aa (n,ds)):d= .ref n/\c[n]? =aa (.lst ds)/\∃vs,v= .ref (ρ n)/\H (ρ n)=aa (.lst vs)/\RA K ρ c.length H ds vs:=by
 unfold Qm.cj at e;split at e
 .obtain⟨rfl,hn⟩:=h.wH
  split at e
  .rename_i xs hx
   cases e;obtain⟨vs,h1,h2⟩:=r.lst hx;exact⟨rfl,hx,vs,rfl,h1,h2⟩
  .cases e
 .cases e
end
def TQ(K:aaa)(f:Qm.XE):TE:=λσ H Q=>∃ρ env c d c',RS K ρ c H/\RE K ρ c.length H env σ/\f env c=aa (d,c')/\∀aZ v H',Nx K ρ c H aZ c' H'->RD K aZ c'.length H' d v->Q v H'
def AQ(K:aaa)(f:Qm.XA):TA:=λσ H Q=>∃ρ env c ds c',RS K ρ c H/\RE K ρ c.length H env σ/\f env c=aa (ds,c')/\∀aZ vs H',Nx K ρ c H aZ c' H'->RA K aZ c'.length H' ds vs->Q vs H'
def BQ(K:aaa)(f:Qm.XT):TT:=λσ H Q=>∃ρ env c b c',RS K ρ c H/\RE K ρ c.length H env σ/\f env c=aa (b,c')/\∀aZ H',Nx K ρ c H aZ c' H'->Q b H'
def OQ(K:aaa)(f:Qm.XO):TO:=λσ H Q=>∃ρ env c o c',RS K ρ c H/\RE K ρ c.length H env σ/\f env c=aa (o,c')/\∀aZ H',Nx K ρ c H aZ c' H'->Q o H'
def aai(K:aaa)(ρ:Nat->Addr)(c:Qm.Cells)(H:Hp)(env:Qm.Env)(D:Ends):Qm.Fl->Prop
 |.nx=>∀σ,RE K ρ c.length H env σ->D.nx σ H
 |.bk=>∀σ,RE K ρ c.length H env σ->D.bk σ H
 |.ct=>∀σ,RE K ρ c.length H env σ->D.ct σ H
 |.rt d=>∀v,RD K ρ c.length H d v->D.rt v H
def SQ(K:aaa)(f:Qm.XS):TS:=λD σ H=>∃ρ env c fl bW c',RS K ρ c H/\RE K ρ c.length H env σ/\f env c=aa (fl,bW,c')/\∀aZ H',Nx K ρ c H aZ c' H'->aai K aZ c' H' bW D fl
def GQ(K:aaa)(g:Qm.XG):TG:=λv σ H Q=>∃ρ env c d bW c',RS K ρ c H/\RE K ρ c.length H env σ/\RD K ρ c.length H d v/\g d env c=aa (bW,c')/\∀aZ H' σ',Nx K ρ c H aZ c' H'->RE K aZ c'.length H' bW σ'->Q σ' H'
def GsQ(K:aaa)(g:Qm.zZ):Bc:=λvs σ H Q=>∃ρ env c ds bW c',RS K ρ c H/\RE K ρ c.length H env σ/\RA K ρ c.length H ds vs/\g ds env c=aa (bW,c')/\∀aZ H' σ',Nx K ρ c H aZ c' H'->RE K aZ c'.length H' bW σ'->Q σ' H'
def R0(K:aaa)(yx:Nat->Addr)(N0:Nat)(H0:Hp)(m:Qm.Itm)(J:It):Prop:=∀ρ c H,Up K yx N0 H0 ρ c.length H->RS K ρ c H->Qm.stays m.ks c->
 (∀i,i<m.ds.length->J.go i H)/\J.stop m.ds.length H/\∀i d x H',m.ds[i]? =aa d->J.Kk i H x H'->Nx K ρ c H ρ c H'/\RD K ρ c.length H' d x
def IQ(K:aaa)(f:Qm.XI):TI:=λσ H R=>∃ρ env c m c',RS K ρ c H/\RE K ρ c.length H env σ/\f env c=aa (m,c')/\∀aZ J H',Nx K ρ c H aZ c' H'->R0 K aZ c'.length H' m J->R J H'
abbrev QE(X:Cx)(e:acu)(f:Qm.XE):Prop:=PE X e (TQ X.K f)
abbrev QA(X:Cx)(es:List acu)(f:Qm.XA):Prop:=PA X es (AQ X.K f)
abbrev QT(X:Cx)(e:acu)(f:Qm.XT):Prop:=PT X e (BQ X.K f)
abbrev QW(X:Cx)(e:acu)(f:Qm.XT):Prop:=PW X e (BQ X.K f)
abbrev QO(X:Cx)(e:Option acu)(f:Qm.XO):Prop:=PO X e (OQ X.K f)
abbrev QS(X:Cx)(e:Stmt)(f:Qm.XS):Prop:=PS X e (SQ X.K f)
abbrev z4(X:Cx)(e:List Stmt)(f:Qm.XS):Prop:=nM X e (SQ X.K f)
abbrev QG(X:Cx)(e:acu)(f:Qm.XG):Prop:=PG X e (GQ X.K f)
abbrev OY(X:Cx)(e:List acu)(f:Qm.zZ):Prop:=CB X e (GsQ X.K f)
abbrev QI(X:Cx)(tg e:acu)(f:Qm.XI):Prop:=PI X tg e (IQ X.K f)
abbrev He(X:Cx)(e:List acu)(f:Qm.XT):Prop:=uz X e (BQ X.K f)
section
variable{X:Cx}
variable{e:acu}
theorem PE.imp{t t':TE}(h:PE X e t)(k:∀σ H Q,t' σ H Q->t σ H Q):PE X e t':=λpins s σ H Q I q=>h pins s σ H Q I (k σ H Q q)
theorem PT.imp{t t':TT}(h:PT X e t)(k:∀σ H Q,t' σ H Q->t σ H Q):PT X e t':=λpins s σ H Q I q=>h pins s σ H Q I (k σ H Q q)
theorem PW.imp{t t':TT}(h:PW X e t)(k:∀σ H Q,t' σ H Q->t σ H Q):PW X e t':=λwh pins s σ H Q I q=>h wh pins s σ H Q I (k σ H Q q)
theorem PA.imp{e:List acu}{t t':TA}(h:PA X e t)(k:∀σ H Q,t' σ H Q->t σ H Q):PA X e t':=λpos pins s σ H Q I q=>h pos pins s σ H Q I (k σ H Q q)
theorem PS.imp{e:Stmt}{t t':TS}(h:PS X e t)(k:∀D σ H,t' D σ H->t D σ H):PS X e t':=λpins s σ H D I q=>h pins s σ H D I (k D σ H q)
theorem nM.imp{e:List Stmt}{t t':TS}(h:nM X e t)(k:∀D σ H,t' D σ H->t D σ H):nM X e t':=λpins s σ H D I q=>h pins s σ H D I (k D σ H q)
theorem PO.imp{e:Option acu}{t t':TO}(h:PO X e t)(k:∀σ H Q,t' σ H Q->t σ H Q):PO X e t':=λpins s σ H Q I q=>h pins s σ H Q I (k σ H Q q)
theorem PG.imp{t t':TG}(h:PG X e t)(k:∀v σ H Q,t' v σ H Q->t v σ H Q):PG X e t':=λpins s σ H x v Q I r q=>h pins s σ H x v Q I r (k x σ H Q q)
theorem CB.imp{e:List acu}{t t':Bc}(h:CB X e t)(k:∀v σ H Q,t' v σ H Q->t v σ H Q):CB X e t':=λpins s σ H x v Q I r q=>h pins s σ H x v Q I r (k x σ H Q q)
theorem PI.imp{tg:acu}{t t':TI}(h:PI X tg e t)(k:∀σ H Q,t' σ H Q->t σ H Q):PI X tg e t':=λpins s σ H R I q=>h pins s σ H R I (k σ H R q)
theorem uz.imp{e:List acu}{t t':TT}(h:uz X e t)(k:∀σ H Q,t' σ H Q->t σ H Q):uz X e t':=λpins s σ H Q I q=>h pins s σ H Q I (k σ H Q q)
end
end L2
namespace L2
open PySem PySem.Spec PyProof.Rows
section
variable{X:Cx}{a b e:acu}{es:List acu}{fa fb fc fe:Qm.XE}{ft fu:Qm.XT}{pos:Pos}
theorem ah(i:Nat)(h:PE X e (Cz i)):QE X e (Qm.eV i):=h.imp <| by
 rintro σ H Q ⟨ρ,env,c,d,c',rs,re,e,k⟩;unfold Qm.eV at e;obtain⟨d',e1,e2⟩:=aJ e;cases e2;have e3:env[i]? =aa (aa d):=by
  cases h:env[i]? with
  |none=>rw[h]at e1;cases e1
  |some o=>rw[h]at e1;rw[show o=aa d from e1]
 obtain⟨v,h1,h2⟩:=re.at_ i d e3;exact⟨v,h1,k ρ v H (Nx.refl rs) h2⟩
theorem nW{v:V}(d:Qm.D)(h:PE X e (tC v))(r:∀ρ N H,RD X.K ρ N H d v):QE X e (Qm.eC d):=h.imp <| by
 rintro σ H Q ⟨ρ,env,c,d',c',rs,re,e,k⟩;unfold Qm.eC at e;cases e;exact k ρ v H (Nx.refl rs) (r _ _ _)
theorem aq{i:Int}{j pos}:QE X (.Constant (.int i) j pos) (Qm.eC (.int i)):=nW _ GL λ_ _ _=>.int i
theorem Lu{i:Bool}{j pos}:QE X (.Constant (.bool i) j pos) (Qm.eC (.bl i)):=nW _ Tt λ_ _ _=>.bl i
theorem eZ{j pos}:QE X (.Constant .none j pos) (Qm.eC .aA):=nW _ N1 λ_ _ _=>.aA
variable{x:Str}
theorem aI{j pos}:QE X (.Constant (.str x) j pos) (Qm.eC (.str x)):=nW _ rE λ_ _ _=>.str x
def gJ(K:aaa)(r:R2)(g:Qm.G2):Prop:=∀ρ c H x y d c' v u Q,RS K ρ c H->RD K ρ c.length H x v->RD K ρ c.length H y u->g x y c=aa (d,c')->(∀aZ w H',Nx K ρ c H aZ c' H'->RD K aZ c'.length H' d w->Q w H')->r v u H Q
variable{K:aaa}{g:Qm.G2}{σ:St}{H:Hp}{Q:VK}
theorem Bw{r:R2}(hl:gJ K r g)(h:TQ K (Qm.e2 g fa fb) σ H Q):Kp r (TQ K fa) (TQ K fb) σ H Q:=by
 obtain⟨ρ,env,c,d,c',rs,re,e,k⟩:=h;obtain⟨p,e1,e⟩:=aJ e;obtain⟨q,e2,e3⟩:=aJ e;exact⟨ρ,env,c,p.1,p.2,rs,re,e1,λaN v H1 n1 r1=>⟨aN,env,p.2,q.1,q.2,n1.rs,re.up n1.up,e2,λi9 u H2 n2 r2=>
  hl i9 q.2 H2 p.1 q.1 d c' v u Q n2.rs (r1.up n2.up) r2 e3 λaZ w H' n3 r3=>k aZ w H' (n1.trans (n2.trans n3)) r3⟩⟩
theorem aD{op:Operator}{r:R2}(ho:eW X (ahu op) r)(hl:gJ X.K r g)(ha:QE X a fa)(hb:QE X b fb):QE X (.BinOp a op b pos) (Qm.e2 g fa fb):=(TK ho ha hb).imp λ_ _ _ h=>Bw hl h
theorem uG{op:amZ}{r:R2}(ho:eW X (agq op) r)(hl:gJ X.K r g)(ha:QE X a fa)(hb:QE X b fb)(hm:agX op b=false):QE X (.Compare a [op] [b] pos) (Qm.e2 g fa fb):=(CJ ho ha hb hm).imp λ_ _ _ h=>Bw hl h
theorem Lv{r:R2}(hr:zS X r)(hl:gJ X.K r g)(ha:QE X a fa)(hb:QE X b fb)(hs:uq b):QE X (.Subscript a b pos) (Qm.e2 g fa fb):=(T5 hr ha hb hs).imp λ_ _ _ h=>Bw hl h
theorem jd{d:Qm.D}{i:Int}(h:Qm.qt d=aa i):d= .int i:=by
 unfold Qm.qt at h;split at h
 .cases h;rfl
 .cases h
theorem uH{d:Qm.D}{i:Bool}(h:Qm.qd d=aa i):d= .bl i:=by
 unfold Qm.qd at h;split at h
 .cases h;rfl
 .cases h
theorem uI{C:Int->Int->Prop}{g:Int->Int->V}{f:Int->Int->Option Qm.D}(h:∀i j d,f i j=aa d->C i j/\∀ρ N H,RD K ρ N H d (g i j)):gJ K (rI C g) (Qm.ii f):=by
 intro ρ c H x y d c' v u Q rs rx ry e k;obtain⟨i,e1,e⟩:=aJ e;obtain⟨j,e2,e⟩:=aJ e;obtain⟨d',e3,e⟩:=aJ e;cases e;cases jd e1;cases jd e2;cases rx.gr;cases ry.gr;obtain⟨hc,hr⟩:=h i j d e3;exact⟨i,j,rfl,rfl,hc,k ρ _ H (Nx.refl rs) (hr _ _ _)⟩
theorem qy{g:Int->Int->V}{f:Int->Int->Option Qm.D}(h:∀i j d,f i j=aa d->∀ρ N H,RD K ρ N H d (g i j)):gJ K (sk g) (Qm.ii f):=by
 intro ρ c H x y d c' v u Q rs rx ry e k;obtain⟨i,e1,e⟩:=aJ e;obtain⟨j,e2,e⟩:=aJ e;obtain⟨d',e3,e⟩:=aJ e;cases e;cases jd e1;cases jd e2;cases rx.gr;cases ry.gr;exact⟨i,j,rfl,rfl,k ρ _ H (Nx.refl rs) (h i j d e3 _ _ _)⟩
theorem ml:gJ K (sk λi j=>.int (i - j)) Qm.iC:=qy λi j d e ρ N H=>by cases e;exact .int _
theorem Bx:gJ K (rI IntMulOk λi j=>.int (i*j)) Qm.Av:=uI λi j d e=>by
 split at e
 .rename_i h
  cases e;refine⟨?_,λ_ _ _=>.int _⟩;have e64:(2:Nat) ^ 64=18446744073709551616:=by decide
  rcases h with h|h|h
  .exact My.Uh h.1 h.2 rfl
  .have:=h.lt
   exact My.OJ (by omega) (by omega)
  .have:=h.lt
   exact My.OK (by omega) (by omega)
 .cases e
theorem gu:gJ K (rI Fi λi j=>.int (i.fdiv j)) Qm.eK:=uI λi j d e=>by
 split at e
 .rename_i h
  cases e;exact⟨Z4 h.1 h.2 rfl,λ_ _ _=>.int _⟩
 .cases e
theorem dy:gJ K (rI (λ_ j=>j≠0) λi j=>.int (i.fmod j)) Qm.cG:=uI λi j d e=>by
 split at e
 .rename_i h
  cases e;exact⟨h,λ_ _ _=>.int _⟩
 .cases e
theorem By:gJ K (rI RM λi j=>.int (i ^ j.toNat)) Qm.qv:=uI λi j d e=>by
 split at e
 .rename_i h
  cases e;exact⟨⟨h.1,by omega,by(have:=h.2.2;have:(2:Nat) ^ 64=18446744073709551616:=(by decide);omega)⟩,λ_ _ _=>.int _⟩
 .cases e
theorem oM:gJ K (sk λi j=>.bl (decide (i<j))) Qm.nV:=qy λi j d e ρ N H=>by cases e;exact .bl _
theorem Lw:gJ K (sk λi j=>.bl (decide (i<=j))) Qm.OT:=qy λi j d e ρ N H=>by cases e;exact .bl _
theorem Fp:gJ K (sk λi j=>.bl (decide (j<i))) Qm.xi:=qy λi j d e ρ N H=>by cases e;exact .bl _
theorem Ur:gJ K (sk λi j=>.bl (decide (j<=i))) Qm.OU:=qy λi j d e ρ N H=>by cases e;exact .bl _
theorem bG:gJ K (λx y H Q=>(sk λi j=>.int (i+j)) x y H Q\/(E7 K x y H Q\/KR x y H Q)) Qm.bc:=by
 intro ρ c H x y d c' v u Q rs rx ry e k;unfold Qm.bc at e;split at e
 .cases e
  cases rx.gr;cases ry.gr;exact .inl ⟨_,_,rfl,rfl,k ρ _ H (Nx.refl rs) (.int _)⟩
 .rename_i xs ys
  split at e
  .rename_i h
   cases e;obtain⟨p,vs,rfl,h1,a1⟩:=rx.uE;obtain⟨q,us,rfl,h2,a2⟩:=ry.uE;have l1:=a1.length;have l2:=a2.length;refine .inr (.inl ⟨p,q,vs,us,rfl,rfl,ja.of h1,ja.of h2,?_,kY (by omega),λz=>?_,λ_ l hl=>?_⟩)
   .intro z;subst z
    have:xs=[]:=agN.mp (by simpa using l1);exact h.1 this
   .subst z
    have:ys=[]:=agN.mp (by simpa using l2);subst this;rw[aa5]at k;exact k ρ _ H (Nx.refl rs) (.tup h1 a1)
   .have n:=Nx.same rs (nU (z:=.tup (vs++us)) hl)
    exact k ρ _ _ n (.tup bH ((a1.append a2).up n.up))
  .cases e
 .obtain⟨p,e1,e⟩:=aJ e
  obtain⟨q,e2,e⟩:=aJ e;split at e
  .rename_i h
   cases e;obtain⟨_,hp,vs,rfl,h1,a1⟩:=rs.cj rx e1;obtain⟨_,hq,us,rfl,h2,a2⟩:=rs.cj ry e2;have l1:=a1.length;have l2:=a2.length;refine .inr (.inr ⟨_,_,vs,us,rfl,rfl,h1,h2,kY (by omega),λl hl=>?_⟩);obtain⟨n,r⟩:=Nx.alloc rs hl (a1.append a2);exact k _ _ _ n r
  .cases e
theorem bh:eW X (ahu .Add) (λx y H Q=>(sk λi j=>.int (i+j)) x y H Q\/(E7 X.K x y H Q\/KR x y H Q)):=Of.or (KH.or OC)
theorem oN{α:Type}{xs:List α}{i:Int}:Qm.eI xs i=E9 xs i:=rfl
theorem Us:gJ K (ZS K) Qm.aK:=by
 intro ρ c H x y d c' v u Q rs rx ry e k;obtain⟨xs,e1,e⟩:=aJ e;obtain⟨i,e2,e⟩:=aJ e;obtain⟨d',e3,e⟩:=aJ e;cases e;cases jd e2;cases ry.gr;obtain⟨p,vs,rfl,h,a⟩:=rs.seq rx e1;obtain⟨j,hj,hx⟩:=aJ (show(Qm.qw xs.length i).bind (λj=>xs[j]?)=aa d from e3);obtain⟨w,hw,qc⟩:=a.get hx;have hat:E9 vs i=aa w:=by
  show(E8 vs.length i).bind (λj=>vs[j]?)=aa w;rw[<-a.length,show E8 xs.length i=aa j from hj];exact hw
 rcases h with h|h
 .exact .inl ⟨p,vs,i,w,rfl,rfl,h,hat,k ρ _ H (Nx.refl rs) qc⟩
 .exact .inr (.inl ⟨p,vs,i,w,rfl,rfl,ja.of h,hat,k ρ _ H (Nx.refl rs) qc⟩)
theorem aF(ha:QE X a fa)(hb:QE X b fb)(hs:uq b):QE X (.Subscript a b pos) (Qm.e2 Qm.aK fa fb):=Lv Ox Us ha hb hs
theorem gF(ha:QE X a fa):QE X (.UnaryOp .USub a pos) (Qm.e1 Qm.ez fa):=(TL Og ha).imp <| by
 rintro σ H Q ⟨ρ,env,c,d,c',rs,re,e,k⟩;obtain⟨p,e1,e⟩:=aJ e;obtain⟨i,e2,e⟩:=aJ e;cases e;refine⟨ρ,env,c,p.1,p.2,rs,re,e1,λaN v H1 n1 r1=>?_⟩;rw[jd e2]at r1;cases r1.gr;exact⟨i,rfl,k aN _ H1 n1 (.int _)⟩
theorem Bz{op}(h:QE X a fa):QE X (.BoolOp op [a] pos) fa:=N7 h
theorem uJ{rest:List acu}(ha:QE X a fa)(hb:QE X (.BoolOp .And (b::rest) pos) fb):QE X (.BoolOp .And (a::b::rest) pos) (Qm.yp fa fb):=(N8 ha hb).imp <| by
 rintro σ H Q ⟨ρ,env,c,d,c',rs,re,e,k⟩;obtain⟨p,e1,e⟩:=aJ e;obtain⟨i,e2,e⟩:=aJ e;refine⟨ρ,env,c,p.1,p.2,rs,re,e1,λaN v H1 n1 r1=>?_⟩;rw[uH e2]at r1;cases r1.kZ;refine⟨i,rfl,?_⟩;split at e
 .rename_i hi
  rw[if_pos hi];exact⟨aN,env,p.2,d,c',n1.rs,re.up n1.up,e,λaZ w H' n r=>k aZ w H' (n1.trans n) r⟩
 .rename_i hi
  rw[if_neg hi];cases e;exact k aN _ H1 n1 (.bl _)
theorem OZ(ha:QE X a fa):QE X (.UnaryOp .Not a pos) (Qm.Ln fa):=(N9 ha).imp <| by
 rintro σ H Q ⟨ρ,env,c,d,c',rs,re,e,k⟩;obtain⟨p,e1,e⟩:=aJ e;obtain⟨i,e2,e⟩:=aJ e;cases e;refine⟨ρ,env,c,p.1,p.2,rs,re,e1,λaN v H1 n1 r1=>?_⟩;rw[uH e2]at r1;cases r1.kZ;exact⟨i,rfl,k aN _ H1 n1 (.bl _)⟩
theorem jG{c0:acu}(hc:QT X c0 ft)(ha:QE X a fa)(hb:QE X b fb):QE X (.IfExp c0 a b pos) (Qm.lY ft fa fb):=(Ij hc ha hb).imp <| by
 rintro σ H Q ⟨ρ,env,c,d,c',rs,re,e,k⟩;obtain⟨p,e1,e⟩:=aJ e;refine⟨ρ,env,c,p.1,p.2,rs,re,e1,λaN H1 n1=>?_⟩;split at e
 .rename_i hi
  rw[if_pos hi];exact⟨aN,env,p.2,d,c',n1.rs,re.up n1.up,e,λaZ w H' n r=>k aZ w H' (n1.trans n) r⟩
 .rename_i hi
  rw[if_neg hi];exact⟨aN,env,p.2,d,c',n1.rs,re.up n1.up,e,λaZ w H' n r=>k aZ w H' (n1.trans n) r⟩
theorem IH{r r':R2}{g':Qm.G2}(hl:gJ K r g)(EE:gJ K r' g')(h:TQ K (Qm.mj g g' fa fb fc) σ H Q):GS r r' (TQ K fa) (TQ K fb) (TQ K fc) σ H Q:=by
 obtain⟨ρ,env,c,d,c',rs,re,e,k⟩:=h;obtain⟨p,e1,e⟩:=aJ e;obtain⟨q,e2,e⟩:=aJ e;obtain⟨z,e3,e⟩:=aJ e;obtain⟨i,e4,e⟩:=aJ e;refine⟨ρ,env,c,p.1,p.2,rs,re,e1,λaN v H1 n1 r1=>⟨aN,env,p.2,q.1,q.2,n1.rs,re.up n1.up,e2,λi9 u H2 n2 r2=>?_⟩⟩;refine hl i9 q.2 H2 p.1 q.1 z.1 z.2 v u _ n2.rs (r1.up n2.up) r2 e3 λxj w H3 n3 r3=>?_
 rw[uH e4]at r3;cases r3.kZ;refine⟨i,rfl,?_⟩;split at e
 .rename_i hi
  rw[if_pos hi];obtain⟨s,e5,e⟩:=aJ e;refine⟨xj,env,z.2,s.1,s.2,n3.rs,re.up (n1.trans (n2.trans n3)).up,e5,λoO w4 H4 n4 r4=>?_⟩;exact EE oO s.2 H4 q.1 s.1 d c' u w4 Q n4.rs ((r2.up n3.up).up n4.up) r4 e λUt w5 H5 n5 r5=>k Ut w5 H5 (n1.trans (n2.trans (n3.trans (n4.trans n5)))) r5
 .rename_i hi
  rw[if_neg hi];cases e;exact k xj _ H3 (n1.trans (n2.trans n3)) (.bl _)
theorem II{op EV:amZ}{r r':R2}{g':Qm.G2}{c0:acu}(ho:eW X (agq op) r)(hl:gJ X.K r g)(xS:eW X (agq EV) r')(EE:gJ X.K r' g')(ha:QE X a fa)(hb:QE X b fb)(hc:QE X c0 fc)
  (hm:lastMarks [op,EV] [b,c0]=false:=by with_unfolding_all rfl):QE X (.Compare a [op,EV] [b,c0] pos) (Qm.mj g g' fa fb fc):=(Io ho xS ha hb hc hm).imp λσ H Q h=>IH hl EE h
theorem ak:QA X [] Qm.aj:=GU.imp <| by
 rintro σ H Q ⟨ρ,env,c,ds,c',rs,re,e,k⟩;cases e;exact k ρ [] H (Nx.refl rs) .nil
theorem ag{fr:Qm.XA}(ha:QE X e fa)(hr:QA X es fr)(hs:aa9 (e::es) X.env=(false,ahx e X.env)::aa9 es X.env:=by rfl):QA X (e::es) (Qm.af fa fr):=(CN ha hr hs).imp <| by
 rintro σ H Q ⟨ρ,env,c,ds,c',rs,re,e,k⟩;obtain⟨p,e1,e⟩:=aJ e;obtain⟨q,e2,e⟩:=aJ e;cases e;exact⟨ρ,env,c,p.1,p.2,rs,re,e1,λaN v H1 n1 r1=>⟨aN,env,p.2,q.1,q.2,n1.rs,re.up n1.up,e2,λi9 vs H2 n2 r2=>k i9 (v::vs) H2 (n1.trans n2) (.cons (r1.up n2.up) r2)⟩⟩
variable{f:Qm.XA}
theorem d_{x1}(h:QA X es f):QE X (.Tuple es x1 pos) (Qm.dc f):=(Oj h).imp <| by
 rintro σ H Q ⟨ρ,env,c,d,c',rs,re,e,k⟩;obtain⟨p,e1,e⟩:=aJ e;split at e
 .rename_i hz
  cases e;refine⟨ρ,env,c,p.1,p.2,rs,re,e1,λaN vs H1 n1 r1=>⟨kY (by rw[<-r1.length];exact hz),λl hl=>?_⟩⟩;have n:=Nx.same n1.rs (nU (z:=.tup vs) hl);exact k aN _ _ (n1.trans n) (.tup bH (r1.up n.up))
 .cases e
theorem aX(h:QA X es f):QE X (.List es pos) (Qm.aL f):=(Ol h).imp <| by
 rintro σ H Q ⟨ρ,env,c,d,c',rs,re,e,k⟩;obtain⟨p,e1,e⟩:=aJ e;split at e
 .rename_i hz
  cases e;refine⟨ρ,env,c,p.1,p.2,rs,re,e1,λaN vs H1 n1 r1=>⟨kY (by rw[<-r1.length];exact hz),λl hl=>?_⟩⟩;obtain⟨n,r⟩:=Nx.alloc n1.rs hl r1;exact k _ _ _ (n1.trans n) r
 .cases e
def fK(K:aaa)(F:Qm.FN):Sp:=λvs H Q _=>∃ρ c ds d c',RS K ρ c H/\RA K ρ c.length H ds vs/\F ds c=aa (d,c')/\∀aZ v H',Nx K ρ c H aZ c' H'->RD K aZ c'.length H' d v->Q v H'
variable{F:Qm.FN}
theorem Lx{ds:List Qm.D}{sY:List V}{E:XK}(hd:∀ρ N H,RA K ρ N H ds sY)(h:TQ K (Qm.av F ds f) σ H Q):KA (fK K F) sY E (AQ K f) σ H Q:=by
 obtain⟨ρ,env,c,d,c',rs,re,e,k⟩:=h;obtain⟨p,e1,e⟩:=aJ e;exact⟨ρ,env,c,p.1,p.2,rs,re,e1,λaN vs H1 n1 r1=>⟨aN,p.2,p.1++ds,d,c',n1.rs,r1.append (hd _ _ _),e,λaZ v H' n r=>k aZ v H' (n1.trans n) r⟩⟩
theorem aC{k:Nat}{f:Addr}{fd:abd}{ps:List Str}{sY:List V}{ds:List Value}{p:Pos}{fx:Qm.XA}(qs:List Qm.D)(G:bX X.prog X.w X.K X.mg X.base d8 k f fd ps (fK X.K F))(hr:eX k X.A)(hg:Gl X x)(hm:X.mg x=aa (.ref f))(hk:aaJ X.K (.ref f)=true)(hb:Binds X.K fd ps ds)(hd:Vals sY ds)(hq:∀ρ N H,RA X.K ρ N H qs sY)
  (ha:QA X (e::es) fx)(mR:(x==("__debug__":Str))=false:=by decide)(he:aa9 (e::es) X.env=(false,ahx e X.env)::aa9 es X.env:=by rfl)(jZ:(ahJ pos (aa9 es X.env)).any (·.1)=false:=by rfl):
  QE X (.Call (.Name x p) (e::es) [] pos) (Qm.av F qs fx):=(CP (E:=E0) G hr hg hm hk hb hd Ua ha mR he jZ).imp λ_ _ _ h=>Lx hq h
def qe(K:aaa)(r:List V->Hp->VK->Prop)(F:Qm.FN):Prop:=∀ρ c H ds d c' vs Q,RS K ρ c H->RA K ρ c.length H ds vs->F ds c=aa (d,c')->(∀aZ w H',Nx K ρ c H aZ c' H'->RD K aZ c'.length H' d w->Q w H')->r vs H Q
variable{r:List V->Hp->VK->Prop}
theorem Ly(hl:qe K r F)(h:TQ K (Qm.eB F f) σ H Q):T2 r (AQ K f) σ H Q:=by
 obtain⟨ρ,env,c,d,c',rs,re,e,k⟩:=h;obtain⟨p,e1,e⟩:=aJ e;exact⟨ρ,env,c,p.1,p.2,rs,re,e1,λaN vs H1 n1 r1=>hl aN p.2 H1 p.1 d c' vs Q n1.rs r1 e λaZ v H' n r=>k aZ v H' (n1.trans n) r⟩
theorem aQ{id:String}{p:Pos}(hc:fV X (.builtin id) r)(hl:qe X.K r F)(hg:Gl X x)(hm:X.mg x=ae)(hv:ab1 x=aa (.builtin id))(ha:QA X (e::es) f)(hn:x≠"__name__":=by decide)(mR:(x==("__debug__":Str))=false:=by decide)
  (he:aa9 (e::es) X.env=(false,ahx e X.env)::aa9 es X.env:=by rfl)(jZ:(ahJ pos (aa9 es X.env)).any (·.1)=false:=by rfl):QE X (.Call (.Name x p) (e::es) [] pos) (Qm.eB F f):=(Iq hc hg hm hv ha hn mR he jZ).imp λ_ _ _ h=>Ly hl h
theorem d6{id:String}{p:Pos}(hc:fV X (.type id) r)(hl:qe X.K r F)(hg:Gl X x)(hm:X.mg x=ae)(hv:ab1 x=aa (.type id))(ha:QA X (e::es) f)(hn:x≠"__name__":=by decide)(mR:(x==("__debug__":Str))=false:=by decide)
  (he:aa9 (e::es) X.env=(false,ahx e X.env)::aa9 es X.env:=by rfl)(jZ:(ahJ pos (aa9 es X.env)).any (·.1)=false:=by rfl):QE X (.Call (.Name x p) (e::es) [] pos) (Qm.eB F f):=(E4 hc hg hm hv ha hn mR he jZ).imp λ_ _ _ h=>Ly hl h
end
end L2
namespace L2
open PySem PySem.Spec PyProof.Rows
section
variable{X:Cx}{a b e:acu}{es:List acu}{fa fb fc fe:Qm.XE}{ft fu:Qm.XT}{pos:Pos}
theorem R3{K:aaa}{t:TE}{f:Qm.XE}(ht:∀σ H Q,TQ K f σ H Q->t σ H Q){σ:St}{H:Hp}{Q:Bool->Hp->Prop}(h:BQ K (Qm.tV f) σ H Q):t σ H λx H1=>∃k,x= .bl k/\Q k H1:=by
 obtain⟨ρ,env,c,d,c',rs,re,e,k⟩:=h;obtain⟨p,e1,e⟩:=aJ e;obtain⟨i,e2,e⟩:=aJ e;cases e;refine ht σ H _ ⟨ρ,env,c,p.1,p.2,rs,re,e1,λaN v H1 n1 r1=>?_⟩;rw[uH e2]at r1;cases r1.kZ;exact⟨_,rfl,k aN H1 n1⟩
theorem jP(h:QE X e fe)(he:∀whole,amB e X.env whole=(do let v <-whole;amC e.pos;aj3 [v] (truthy v)):=by intro _;rfl):QT X e (Qm.tV fe):=(N2 h he).imp λ_ _ _ q=>R3 (λ_ _ _ z=>z) q
theorem aO{op:amZ}{r:R2}{g:Qm.G2}(ho:eW X (agq op) r)(hl:gJ X.K r g)(ha:QE X a fa)(hb:QE X b fb)(hm:agX op b=false):QT X (.Compare a [op] [b] pos) (Qm.tV (Qm.e2 g fa fb)):=(Ku ho ha hb hm).imp λ_ _ _ q=>R3 (λ_ _ _ z=>Bw hl z) q
theorem iD(ha:QT X a ft):QW X (.BoolOp .And [a] pos) ft:=Kd ha
theorem mm(ha:QT X a ft):QW X (.BoolOp .Or [a] pos) ft:=N4 ha
theorem g_{rest:List acu}(ha:QT X a ft)(hb:QW X (.BoolOp .And (b::rest) pos) fu):QW X (.BoolOp .And (a::b::rest) pos) (Qm.dI ft fu):=(N5 ha hb).imp <| by
 rintro σ H Q ⟨ρ,env,c,d,c',rs,re,e,k⟩;obtain⟨p,e1,e⟩:=aJ e;refine⟨ρ,env,c,p.1,p.2,rs,re,e1,λaN H1 n1=>?_⟩;split at e
 .rename_i hi
  rw[if_pos hi];exact⟨aN,env,p.2,d,c',n1.rs,re.up n1.up,e,λaZ H' n=>k aZ H' (n1.trans n)⟩
 .rename_i hi
  rw[if_neg hi];cases e;exact k aN H1 n1
theorem mT{rest:List acu}(ha:QT X a ft)(hb:QW X (.BoolOp .Or (b::rest) pos) fu):QW X (.BoolOp .Or (a::b::rest) pos) (Qm.oB ft fu):=(Tu ha hb).imp <| by
 rintro σ H Q ⟨ρ,env,c,d,c',rs,re,e,k⟩;obtain⟨p,e1,e⟩:=aJ e;refine⟨ρ,env,c,p.1,p.2,rs,re,e1,λaN H1 n1=>?_⟩;split at e
 .rename_i hi
  rw[if_pos hi];cases e;exact k aN H1 n1
 .rename_i hi
  rw[if_neg hi];exact⟨aN,env,p.2,d,c',n1.rs,re.up n1.up,e,λaZ H' n=>k aZ H' (n1.trans n)⟩
theorem uK(ha:QT X a ft):QT X (.UnaryOp .Not a pos) (Qm.sy ft):=(N6 ha).imp <| by
 rintro σ H Q ⟨ρ,env,c,d,c',rs,re,e,k⟩;obtain⟨p,e1,e⟩:=aJ e;cases e;exact⟨ρ,env,c,p.1,p.2,rs,re,e1,λaN H1 n1=>k aN H1 n1⟩
theorem dg:QO X ae Qm.bU:=CU.imp <| by
 rintro σ H Q ⟨ρ,env,c,d,c',rs,re,e,k⟩;cases e;exact k ρ H (Nx.refl rs)
theorem dh(h:QE X e fe):QO X (aa e) (Qm.bF fe):=(CV h).imp <| by
 rintro σ H Q ⟨ρ,env,c,d,c',rs,re,e,k⟩;obtain⟨p,e1,e⟩:=aJ e;refine⟨ρ,env,c,p.1,p.2,rs,re,e1,λaN v H1 n1 r1=>?_⟩;split at e
 .rename_i i hi
  cases e;rw[hi]at r1;cases r1.gr;exact⟨_,rfl,k aN H1 n1⟩
 .cases e
theorem vJ{K:aaa}{ρ:Nat->Addr}{N:Nat}{H:Hp}{ds:List Qm.D}{vs:List V}(a:RA K ρ N H ds vs)(lo hi:Option Int):RA K ρ N H (Qm.cutD ds lo hi) (qj vs lo hi):=by
 have e:∀n d o,Qm.yq n d o=HT.da n d o:=λn d o=>by cases o<;>rfl
 unfold Qm.cutD qj;rw[e,e,a.length];exact(a.drop _).take _
end
section
variable{prog:Program}{w:abZ}{A:abL}{E:Value->aaj->Prop}{s:aaj}
theorem qz{t sl:Addr}{items:Array Value}{vl vu:Value}{lo hi:Option Int}{Q:Value->aaj->Prop}(ht:IsTup s.heap t items)(hs:s.heap.IsSliceOf sl vl vu .none)(pl:alJ vl lo)(pu:alJ vu hi)
  (hw:HT.da items.size 0 lo=0/\HT.da items.size items.size hi=items.size)(h:Q (.ref t) s):abo (abu prog w) A (aj7 (.ref t) (.ref sl)) Q E s:=by
 obtain⟨os,E6,Ou,tf⟩:=id hs;have T3:s.TypeIs (.ref sl) "slice":=⟨os,E6,Ou⟩;unfold aj7
 try with_reducible refine agG ?_
 first|refine aab (aas ?_)|skip
 refine aab (wpAny_sequenceKey ht.typeIs (by decide) ?_);refine aab (aj8 (name:=abV "__getitem__") ht.typeIs adl
  (aiM adl ht.typeIs ak3 ?_ (alK _ _)))
 show abo _ _ (ahV (.ref t) >>= _) _ _ s;refine aab (tupleItemsOf_ ht ?_);refine aab (aiF T3 ?_);rw[if_pos (by decide)];refine aab (HT.mh hs pl pu ?_);have aak:(((HT.da items.size 0 lo:Nat):Int)==0&&(1:Int)==1&&(HT.da items.size items.size hi - HT.da items.size 0 lo)==items.size)=true:=by
  rw[hw.1,hw.2];simp
 show abo _ _ (if (((HT.da items.size 0 lo:Nat):Int)==0&&(1:Int)==1&&(HT.da items.size items.size hi - HT.da items.size 0 lo)==items.size)=true then _ else _) _ _ s;rw[if_pos aak];unfold Builtin.Tuple.tupleIsExact;refine aab (aab (aiF ht.typeIs (aas ?_)));rw[if_pos (by decide)];refine aab (ajC ?_);exact aas ⟨_,rfl,aas h⟩
end
section
variable{X:Cx}{a b e:acu}{es:List acu}{fa fb fc fe:Qm.XE}{ft fu:Qm.XT}{pos p2:Pos}{lo hi:Option acu}{fl fh:Qm.XO}
def Lz(K:aaa):V->Option Int->Option Int->Hp->VK->Prop:=λx lo hi H Q=>∃a xs,x= .ref a/\ja K H a xs/\(HT.da xs.length 0 lo=0/\HT.da xs.length xs.length hi=xs.length)/\Q (.ref a) H
theorem LA:zR X (Lz X.K):=by
 intro pins s σ H x v vl vu lo hi sl Q I rx hs pl pu h;obtain⟨a,xs,rfl,hx,hw,q⟩:=h;cases rx;obtain⟨its,r,ht,hz⟩:=I.tuple hx;have hlen:its.toArray.size=xs.length:=by rw[aa3];exact r.length.symm
 refine⟨"tuple",_,adl.lookup,ht.typeIs,?_⟩;exact qz ht hs pl pu (by rw[hlen];exact hw) ⟨.ref a,H,I,rfl,q⟩
def R4(K:aaa):V->Option Int->Option Int->Hp->VK->Prop:=λx lo hi H Q=>RP K x lo hi H Q\/(Lz K x lo hi H Q\/RU K x lo hi H Q)
theorem O0:zR X (R4 X.K):=Ov.or (LA.or KN)
variable{K:aaa}{c:Qm.Cells}
theorem O2{ρ:Nat->Addr}{c':Qm.Cells}{H:Hp}{x d:Qm.D}{v:V}{lo hi:Option Int}{Q:VK}(rs:RS K ρ c H)(rx:RD K ρ c.length H x v)(e:Qm.cN x lo hi c=aa (d,c'))(k:∀aZ w H',Nx K ρ c H aZ c' H'->RD K aZ c'.length H' d w->Q w H'):R4 K v lo hi H Q:=by
 unfold Qm.cN at e;split at e
 .rename_i xs
  cases e;obtain⟨p,vs,rfl,h1,a1⟩:=rx.uE
  by_cases hw:HT.da vs.length 0 lo=0/\HT.da vs.length vs.length hi=vs.length
  .refine .inr (.inl ⟨p,vs,rfl,ja.of h1,hw,?_⟩)
   have:qj vs lo hi=vs:=by
    unfold qj;rw[hw.1,hw.2];simp
   have a2:=vJ a1 lo hi;rw[this]at a2;exact k ρ _ H (Nx.refl rs) (.tup h1 a2)
  .refine .inl ⟨p,vs,rfl,ja.of h1,hw,λl hl=>?_⟩
   have n:=Nx.same rs (nU (z:=.tup (qj vs lo hi)) hl);exact k ρ _ _ n (.tup bH ((vJ a1 lo hi).up n.up))
 .rename_i x' kf
  obtain⟨xs,e1,e⟩:=aJ e;cases e;rcases Bv e1 with z|⟨n,z⟩
  .exact absurd z (kf xs)
  .subst z
   obtain⟨vs,rfl,h,a⟩:=rs.Ls rx e1;refine .inr (.inr ⟨_,vs,rfl,h,λl hl=>?_⟩);obtain⟨n,r⟩:=Nx.alloc rs hl (vJ a lo hi);exact k _ _ _ n r
theorem cT(he:QE X e fe)(hl:QO X lo fl)(hu:QO X hi fh):QE X (.Subscript e (.Slice lo hi ae p2) pos) (Qm.eH Qm.cN fe fl fh):=(An O0 he hl hu).imp <| by
 rintro σ H Q ⟨ρ,env,c,d,c',rs,re,e,k⟩;obtain⟨p,e1,e⟩:=aJ e;obtain⟨l,e2,e⟩:=aJ e;obtain⟨h,e3,e⟩:=aJ e;exact⟨ρ,env,c,p.1,p.2,rs,re,e1,λaN v H1 n1 r1=>⟨aN,env,p.2,l.1,l.2,n1.rs,re.up n1.up,e2,λi9 H2 n2=>⟨i9,env,l.2,h.1,h.2,n2.rs,re.up (n1.trans n2).up,e3,λxj H3 n3=>
  O2 n3.rs ((r1.up n2.up).up n3.up) e λaZ w H' n r=>k aZ w H' (n1.trans (n2.trans (n3.trans n))) r⟩⟩⟩
def C9(K:aaa)(r:V->List V->Hp->VK->Prop)(g:Qm.D->Qm.FN):Prop:=∀ρ c H x ds d c' v vs Q,RS K ρ c H->RD K ρ c.length H x v->RA K ρ c.length H ds vs->g x ds c=aa (d,c')->(∀aZ w H',Nx K ρ c H aZ c' H'->RD K aZ c'.length H' d w->Q w H')->r v vs H Q
theorem tyL{ρ:Nat->Addr}{H:Hp}{x:Qm.D}{v:V}{z:Nat×List Qm.D}(rs:RS K ρ c H)(rx:RD K ρ c.length H x v)(e:Qm.cj x c=aa z):Oz K "list" v H:=by
 obtain⟨_,_,vs,rfl,h,_⟩:=rs.cj rx e;exact .inl ⟨rfl,_,dX.of h⟩
variable{r:V->List V->Hp->VK->Prop}
theorem nX{name:Str}{id:String}{g:Qm.D->Qm.FN}{o:acu}{fo:Qm.XE}{f:Qm.XA}{apos cY:Pos}(slot:Slot "list" name id)(vD:amF (.builtin id)=pure (.type "method_descriptor"))(hm:KO X id r)(hl:C9 X.K r g)(ho:QE X o fo)(ha:QA X (e::es) f)
  (jF:ahc o name X.env (ahx o X.env)=ahx o X.env:=by rfl)
  (nR:((ahJ cY (aa9 (e::es) X.env)).all (λx=>!x.1)&&(akL cY (aiz [] X.env)).all (λx=>x.1.isSome)
   &&decide ((e::es).length+([]:List aik).length+(if ([]:List aik).isEmpty then 0 else 1)<30))=true:=by rfl)
  (gH:(apos.endLine==cY.line)=true:=by rfl)(hs:aa9 (e::es) X.env=(false,ahx e X.env)::aa9 es X.env:=by rfl)(ur:(ahJ cY (aa9 es X.env)).any (·.1)=false:=by rfl):
  QE X (.Call (.Attribute o name apos) (e::es) [] cY) (Qm.eM g fo f):=(Fb akb slot vD hm ho ha jF nR gH hs ur).imp <| by
 rintro σ H Q ⟨ρ,env,c,d,c',rs,re,e,k⟩;obtain⟨p,e1,e⟩:=aJ e;obtain⟨z,e2,e⟩:=aJ e;obtain⟨q,e3,e⟩:=aJ e;exact⟨ρ,env,c,p.1,p.2,rs,re,e1,λaN v H1 n1 r1=>⟨tyL n1.rs r1 e2,aN,env,p.2,q.1,q.2,n1.rs,re.up n1.up,e3,λi9 vs H2 n2 r2=>
  hl i9 q.2 H2 p.1 q.1 d c' v vs Q n2.rs (r1.up n2.up) r2 e λaZ w H' n r=>k aZ w H' (n1.trans (n2.trans n)) r⟩⟩
theorem Uu{name:Str}{id:String}{g:Qm.D->Qm.FN}{o:acu}{fo:Qm.XE}{apos cY:Pos}(slot:Slot "list" name id)(vD:amF (.builtin id)=pure (.type "method_descriptor"))(hm:KO X id r)(hl:C9 X.K r g)(ho:QE X o fo)
  (jF:ahc o name X.env (ahx o X.env)=ahx o X.env:=by rfl)(gH:(apos.endLine==cY.line)=true:=by rfl):
  QE X (.Call (.Attribute o name apos) [] [] cY) (Qm.eM g fo Qm.aj):=(OA akb slot vD hm ho jF gH).imp <| by
 rintro σ H Q ⟨ρ,env,c,d,c',rs,re,e,k⟩;obtain⟨p,e1,e⟩:=aJ e;obtain⟨z,e2,e⟩:=aJ e;obtain⟨q,e3,e⟩:=aJ e;cases e3;exact⟨ρ,env,c,p.1,p.2,rs,re,e1,λaN v H1 n1 r1=>⟨tyL n1.rs r1 e2,hl aN p.2 H1 p.1 [] d c' v [] Q n1.rs r1 .nil e λaZ w H' n r=>k aZ w H' (n1.trans n) r⟩⟩
theorem dQ:C9 K CZ Qm.bI:=by
 intro ρ c H x ds d c' v vs Q rs rx ra e k;unfold Qm.bI Qm.one at e;split at e
 .rename_i y
  obtain⟨l,e1,e⟩:=aJ e;obtain⟨u,rfl,ry⟩:=ra.kr;split at e
  .rename_i hz
   cases e;obtain⟨_,hn,ws,rfl,h,a⟩:=rs.cj rx e1;have n:=Nx.put rs hn (a.append (RA.one ry));exact⟨_,ws,u,rfl,rfl,h,C7 (by rw[<-a.length];exact hz),k ρ _ _ n .aA⟩
  .cases e
 .cases e
theorem kB{g:Qm.G1}{ds:List Qm.D}{z}(h:Qm.one g ds c=aa z):∃x,ds=[x]/\g x c=aa z:=by
 unfold Qm.one at h;split at h
 .exact⟨_,rfl,h⟩
 .cases h
theorem xB{g:Qm.G2}{ds:List Qm.D}{z}(h:Qm.two g ds c=aa z):∃x y,ds=[x,y]/\g x y c=aa z:=by
 unfold Qm.two at h;split at h
 .exact⟨_,_,rfl,h⟩
 .cases h
theorem xC:qe K (λxs H Q=>∃i,xs=[.int i]/\Q (.int (if i<0 then -i else i)) H) Qm.wG:=by
 intro ρ c H ds d c' vs Q rs ra e k;obtain⟨x,rfl,e⟩:=kB e;obtain⟨v,rfl,rx⟩:=ra.kr;obtain⟨i,e1,e⟩:=aJ e;cases e;cases jd e1;cases rx.gr;exact⟨i,rfl,k ρ _ H (Nx.refl rs) (.int _)⟩
theorem dz:qe K (λxs H Q=>∃p ys,xs=[.ref p]/\(dX K H p ys\/ja K H p ys)/\Q (.int ys.length) H) Qm.bA:=by
 intro ρ c H ds d c' vs Q rs ra e k;obtain⟨x,rfl,e⟩:=kB e;obtain⟨v,rfl,rx⟩:=ra.kr;obtain⟨xs,e1,e⟩:=aJ e;cases e;obtain⟨p,ws,rfl,h,a⟩:=rs.seq rx e1;exact⟨p,ws,rfl,h.imp id ja.of,k ρ _ H (Nx.refl rs) (by rw[a.length];exact .int _)⟩
theorem yy:qe K (λxs H Q=>(∃i,xs=[.int i]/\Q (.int i) H)\/∃k,xs=[.bl k]/\Q (.int (if k then 1 else 0)) H) Qm.yr:=by
 intro ρ c H ds d c' vs Q rs ra e k;obtain⟨x,rfl,e'⟩:=kB e;obtain⟨v,rfl,rx⟩:=ra.kr;split at e'
 .cases e'
  cases rx.gr;exact .inl ⟨_,rfl,k ρ _ H (Nx.refl rs) (.int _)⟩
 .cases e'
  cases rx.kZ;exact .inr ⟨_,rfl,k ρ _ H (Nx.refl rs) (.int _)⟩
 .cases e'
theorem LB{f:Int->Int->Option Qm.D}{x y d:Qm.D}{c':Qm.Cells}(h:Qm.ii f x y c=aa (d,c')):∃i j,x= .int i/\y= .int j/\f i j=aa d/\c'=c:=by
 obtain⟨i,e1,e⟩:=aJ h;obtain⟨j,e2,e⟩:=aJ e;obtain⟨z,e3,e⟩:=aJ e;cases e;exact⟨i,j,jd e1,jd e2,e3,rfl⟩
theorem LC:qe K (λxs H Q=>∃i j,xs=[.int i,.int j]/\Q (.int (if j > i then j else i)) H) Qm.Bs:=by
 intro ρ c H ds d c' vs Q rs ra e k;obtain⟨x,y,rfl,e⟩:=xB e;obtain⟨v,u,rfl,rx,ry⟩:=ra.uD;obtain⟨i,j,rfl,rfl,e,rfl⟩:=LB e;cases e;cases rx.gr;cases ry.gr;exact⟨i,j,rfl,k ρ _ H (Nx.refl rs) (.int _)⟩
theorem LD:qe K (λxs H Q=>∃i j,xs=[.int i,.int j]/\Q (.int (if j<i then j else i)) H) Qm.Bt:=by
 intro ρ c H ds d c' vs Q rs ra e k;obtain⟨x,y,rfl,e⟩:=xB e;obtain⟨v,u,rfl,rx,ry⟩:=ra.uD;obtain⟨i,j,rfl,rfl,e,rfl⟩:=LB e;cases e;cases rx.gr;cases ry.gr;exact⟨i,j,rfl,k ρ _ H (Nx.refl rs) (.int _)⟩
theorem LF:qe K (λxs H Q=>∃p ys,xs=[.ref p]/\(dX K H p ys\/ja K H p ys)/\∀l,H l=ae->Q (.ref l) (upd H l (.lst ys))) Qm.vI:=by
 intro ρ c H ds d c' vs Q rs ra e k;obtain⟨x,rfl,e⟩:=kB e;obtain⟨v,rfl,rx⟩:=ra.kr;obtain⟨xs,e1,e⟩:=aJ e;cases e;obtain⟨p,ws,rfl,h,a⟩:=rs.seq rx e1;refine⟨p,ws,rfl,h.imp id ja.of,λl hl=>?_⟩;obtain⟨n,r⟩:=Nx.alloc rs hl a;exact k _ _ _ n r
end
end L2
namespace L2
open PySem PySem.Spec PyProof.Rows
section
variable{X:Cx}{a b e tg:acu}{es:List acu}{fa fb fc fe:Qm.XE}{ft fu:Qm.XT}{pos:Pos}{st:Stmt}{rest:List Stmt}{fs fr:Qm.XS}{fg:Qm.XG}
theorem bo:z4 X [] Qm.bz:=Ke.imp <| by
 rintro D σ H ⟨ρ,env,c,fl,bW,c',rs,re,e,k⟩;cases e;exact k ρ H (Nx.refl rs) σ re
theorem ao(h1:QS X st fs)(h2:z4 X rest fr):z4 X (st::rest) (Qm.ax fs fr):=(Ak h1 h2).imp <| by
 rintro D σ H ⟨ρ,env,c,fl,bW,c',rs,re,e,k⟩;obtain⟨p,e1,e⟩:=aJ e;obtain⟨f,e2,c2⟩:=p;cases f with
 |nx=>exact⟨ρ,env,c,.nx,e2,c2,rs,re,e1,λaN H1 n1 σ1 qA=>⟨aN,e2,c2,fl,bW,c',n1.rs,qA,e,λaZ H' n=>k aZ H' (n1.trans n)⟩⟩
 |rt d=>cases e;exact⟨ρ,env,c,.rt d,bW,c',rs,re,e1,λaN H1 n1=>k aN H1 n1⟩
 |bk=>cases e;exact⟨ρ,env,c,.bk,bW,c',rs,re,e1,λaN H1 n1=>k aN H1 n1⟩
 |ct=>cases e;exact⟨ρ,env,c,.ct,bW,c',rs,re,e1,λaN H1 n1=>k aN H1 n1⟩
theorem ay(h1:QS X st fs):z4 X [st] fs:=xV h1
theorem fL(he:QE X e fe)(hs:aih e ae pos.line X.env=pure false:=by rfl):QS X (.Expr e pos) (Qm.de fe):=(Kf he hs).imp <| by
 rintro D σ H ⟨ρ,env,c,fl,bW,c',rs,re,e,k⟩;obtain⟨p,e1,e⟩:=aJ e;cases e;exact⟨ρ,env,c,p.1,p.2,rs,re,e1,λaN v H1 n1 _=>k aN H1 n1 σ (re.up n1.up)⟩
theorem aT(he:QE X e fe):QS X (.Return (aa e) pos) (Qm.bj fe):=(GN he).imp <| by
 rintro D σ H ⟨ρ,env,c,fl,bW,c',rs,re,e,k⟩;obtain⟨p,e1,e⟩:=aJ e;cases e;exact⟨ρ,env,c,p.1,p.2,rs,re,e1,λaN v H1 n1 r1=>k aN H1 n1 v r1⟩
variable{c0:acu}
theorem ck{x y:List Stmt}(hc:QT X c0 ft)(ha:z4 X x fs)(hb:z4 X y fr):QS X (.If c0 x y pos) (Qm.cu ft fs fr):=(Kg hc ha hb).imp <| by
 rintro D σ H ⟨ρ,env,c,fl,bW,c',rs,re,e,k⟩;obtain⟨p,e1,e⟩:=aJ e;refine⟨ρ,env,c,p.1,p.2,rs,re,e1,λaN H1 n1=>?_⟩;split at e
 .rename_i hi
  rw[if_pos hi];exact⟨aN,env,p.2,fl,bW,c',n1.rs,re.up n1.up,e,λaZ H' n=>k aZ H' (n1.trans n)⟩
 .rename_i hi
  rw[if_neg hi];exact⟨aN,env,p.2,fl,bW,c',n1.rs,re.up n1.up,e,λaZ H' n=>k aZ H' (n1.trans n)⟩
variable{i:Nat}
theorem aH{x:Str}{pos':Pos}(hN:X.N.Nodup)(hi:X.N[i]? =aa x)(hx:Loc X.env.scope x)(he:QE X e fe)(hs:aih e (aa (.Name x pos')) pos.line X.env=pure false:=by rfl)(hf:X.fn x=true\/X.env.scope.names.lookup x=aa .local:=by first|exact .inl rfl|exact .inr rfl|assumption):
  QS X (.Assign [.Name x pos'] e pos) (Qm.aE i fe):=(GO hN hi hx he hs hf).imp <| by
 rintro D σ H ⟨ρ,env,c,fl,bW,c',rs,re,e,k⟩;obtain⟨p,e1,e⟩:=aJ e;cases e;exact⟨ρ,env,c,p.1,p.2,rs,re,e1,λaN v H1 n1 r1=>k aN H1 n1 _ ((re.up n1.up).set r1)⟩
theorem mn(he:QE X e fe)(hg:QG X tg fg)(hs:aj4 [tg] e pos.line X.env=pure false:=by rfl)(hw:aj5 [tg] e X.env=pure ae:=by rfl)
  (h1:(ahA [tg] X.env).map (·.2)=[akw tg X.env]:=by rfl):QS X (.Assign [tg] e pos) (Qm.j5 fe fg):=(Ob he hg hs hw h1).imp <| by
 rintro D σ H ⟨ρ,env,c,fl,bW,c',rs,re,e,k⟩;obtain⟨p,e1,e⟩:=aJ e;obtain⟨q,e2,e⟩:=aJ e;cases e;exact⟨ρ,env,c,p.1,p.2,rs,re,e1,λaN v H1 n1 r1=>⟨aN,env,p.2,p.1,q.1,q.2,n1.rs,re.up n1.up,r1,e2,λaZ H' σ' n Uv=>k aZ H' (n1.trans n) σ' Uv⟩⟩
variable{f:Qm.XA}
theorem LG{j:Nat}{x y:Str}{px py pt:Pos}{kt k2 EM}(hc:X.calm=true)(hN:X.N.Nodup)(hi:X.N[i]? =aa x)(hj:X.N[j]? =aa y)(w_:i≠j)
  (hx:X.env.scope.names.lookup x=aa .local)(hy:X.env.scope.names.lookup y=aa .local)(ha:QA X [a,b] f)
  (hw:aj5 [.Tuple [.Name x px,.Name y py] kt pt] (.Tuple [a,b] k2 EM) X.env=pure (aa [x,y]))
  (hs:aj4 [.Tuple [.Name x px,.Name y py] kt pt] (.Tuple [a,b] k2 EM) pos.line X.env=pure false:=by rfl):
  QS X (.Assign [.Tuple [.Name x px,.Name y py] kt pt] (.Tuple [a,b] k2 EM) pos) (Qm.Hb [i,j] f):=(Oc hc hN hi hj w_ hx hy ha hw hs).imp <| by
 rintro D σ H ⟨ρ,env,c,fl,bW,c',rs,re,e,k⟩;obtain⟨p,e1,e⟩:=aJ e;split at e
 .rename_i hl
  cases e;refine⟨ρ,env,c,p.1,p.2,rs,re,e1,λaN vs H1 n1 r1=>?_⟩;obtain⟨ds,c2⟩:=p
  match ds,hl,r1 with
  |[d1,d2],_,r1=>
   obtain⟨v,u,rfl,ra,rb⟩:=r1.uD;exact⟨v,u,rfl,k aN H1 n1 _ (((re.up n1.up).set ra).set rb)⟩
 .cases e
theorem cP{x:Str}(hN:X.N.Nodup)(hi:X.N[i]? =aa x)(hx:Loc X.env.scope x)(hf:X.fn x=true\/X.env.scope.names.lookup x=aa .local:=by first|exact .inl rfl|exact .inr rfl|assumption):QG X (.Name x pos) (Qm.aM i):=(CC hN hi hx hf).imp <| by
 rintro v σ H Q ⟨ρ,env,c,d,bW,c',rs,re,rd,e,k⟩;cases e;exact k ρ H _ (Nx.refl rs) (re.set rd)
theorem qB:OY X [] Qm.kS:=Ki.imp <| by
 rintro vs σ H Q ⟨ρ,env,c,ds,bW,c',rs,re,ra,e,k⟩;unfold Qm.kS at e;split at e
 .cases e
  exact⟨ra.aag,k ρ H σ (Nx.refl rs) re⟩
 .cases e
theorem gA{LH:Qm.zZ}(h1:QG X e fg)(h2:OY X es LH)(hs:(ahA (e::es) X.env).map (·.2)=akw e X.env::(ahA es X.env).map (·.2):=by rfl):OY X (e::es) (Qm.dY fg LH):=(Ik h1 h2 hs).imp <| by
 rintro vs σ H Q ⟨ρ,env,c,ds,bW,c',rs,re,ra,e,k⟩;unfold Qm.dY at e;split at e
 .rename_i d t
  obtain⟨p,e1,e⟩:=aJ e;cases ra with
  |cons r1 r2=>
   exact⟨_,_,rfl,ρ,env,c,d,p.1,p.2,rs,re,r1,e1,λaN H1 σ1 n1 qA=>⟨aN,p.1,p.2,t,bW,c',n1.rs,qA,r2.up n1.up,e,λaZ H' σ' n Uv=>k aZ H' σ' (n1.trans n) Uv⟩⟩
 .cases e
variable{n:Nat}
theorem uL{k0:Nat}{LH:Qm.zZ}(hc:X.calm=true)(h:OY X es LH)(hn:(ahA es X.env).length=n:=by rfl)(i6:(ahA es X.env).findIdx? (·.1)=ae:=by rfl):QG X (.Tuple es k0 pos) (Qm.kT n LH):=(N_ hc h hn i6).imp <| by
 rintro v σ H Q ⟨ρ,env,c,d,bW,c',rs,re,rd,e,k⟩;unfold Qm.kT at e;split at e
 .rename_i xs
  split at e
  .rename_i hl
   obtain⟨p,vs,rfl,h1,a1⟩:=rd.uE;exact⟨p,vs,rfl,ja.of h1,by rw[<-a1.length];exact hl,ρ,env,c,xs,bW,c',rs,re,a1,e,k⟩
  .cases e
 .cases e
theorem xD{o i:acu}{fo fi:Qm.XE}(ho:QE X o fo)(hi:QE X i fi)
  (ha:∀v,akw (.Subscript o i pos) X.env v=(do
   let ov <-aj3 [v] (ahx o X.env)
   let iv <-aj3 [v,ov] (ahx i X.env)
   amC pos
   aj3 [v,ov,iv] (setItem ov iv v)
   release [v,ov,iv] []):=by intro _;rfl):QG X (.Subscript o i pos) (Qm.pW fo fi):=(Oa ho hi set_list ha).imp <| by
 rintro v σ H Q ⟨ρ,env,c,d,bW,c',rs,re,rd,e,k⟩;obtain⟨p,e1,e⟩:=aJ e;obtain⟨q,e2,e⟩:=aJ e;obtain⟨l,e3,e⟩:=aJ e;obtain⟨m,e4,e⟩:=aJ e;obtain⟨j,e5,e⟩:=aJ e;cases e;refine⟨ρ,env,c,p.1,p.2,rs,re,e1,λaN v1 H1 n1 r1=>⟨aN,env,p.2,q.1,q.2,n1.rs,re.up n1.up,e2,λi9 v2 H2 n2 r2=>?_⟩⟩;rw[jd e4]at r2;cases r2.gr;obtain⟨_,hn,ws,rfl,h,a⟩:=n2.rs.cj (r1.up n2.up) e3;have n:=Nx.put n2.rs hn (RA.set (rd.up (n1.trans n2).up) j a);refine⟨_,ws,m,j,rfl,rfl,h,by rw[<-a.length];exact e5,?_⟩;exact k i9 _ σ (n1.trans (n2.trans n)) (re.up (n1.trans (n2.trans n)).up)
variable{K:aaa}{ρ:Nat->Addr}{H:Hp}
theorem sE{c:Qm.Cells}(rs:RS K ρ c H){z:Qm.Cell}{c0:Qm.Cells}{xs:List Qm.D}(h0:c0[n]? =aa z)(h1:Qm.dq (.ref n) c0=aa xs)(h:c[n]? =aa z):∃vs,dX K H (ρ n) vs/\RA K ρ c.length H xs vs:=by
 have hn:n<c.length:=(aan.mp h).1;have e:Qm.dq (.ref n) c=aa xs:=by
  unfold Qm.dq at h1 |-
  dsimp only at h1 |-
  rw[h0]at h1;rw[h];exact h1
 obtain⟨vs,_,h2,h3⟩:=rs.Ls (.ref hn) e;exact⟨vs,h2,h3⟩
theorem nY(h:QE X e fe):QI X tg e (Qm.fJ fe):=(Km h).imp <| by
 rintro σ H R ⟨ρ,env,c,m,c',rs,re,e,k⟩;obtain⟨p,e1,e⟩:=aJ e;refine⟨ρ,env,c,p.1,p.2,rs,re,e1,λaN v H1 n1 r1=>?_⟩;split at e
 .rename_i n hx
  obtain⟨z,e2,e⟩:=aJ e;obtain⟨xs,e3,e⟩:=aJ e;cases e;rw[hx]at r1;obtain⟨hv,hn⟩:=r1.wH;subst hv;obtain⟨vs,h1,a1⟩:=sE n1.rs e2 e3 e2;refine⟨_,rfl,⟨vs,h1⟩,k aN _ H1 n1 λi9 c2 H2 u2 Fq oE=>?_⟩;obtain⟨ws,h2,a2⟩:=sE Fq e2 e3 (oE (n,z) (by simp));rw[u2.agree n hn]at h2;refine⟨λi hi=>⟨ws,ws[i]'(by rw[<-a2.length];exact hi),h2,aav _⟩,⟨ws,h2,by rw[a2.length];exact aat _⟩,λi d x H' hd hy=>?_⟩;obtain⟨rfl,hy⟩:=hy;obtain⟨v,hv,rv⟩:=a2.get hd;have:=hy ws h2;rw[hv]at this;cases this;exact⟨Nx.refl Fq,rv⟩
 .cases e
theorem LI{lo:Int}{d:Qm.D}(h:(Qm.eU lo n)[i]? =aa d):i<n/\d= .int (lo+i):=by
 unfold Qm.eU at h;rw[aa6]at h
 by_cases hi:i<n
 .rw[ak6 hi]at h
  cases h;exact⟨hi,rfl⟩
 .rw[ajB.mpr (by simpa using ake hi)]at h
  cases h
theorem Hf{N:Nat}{lo:Int}:R0 K ρ N H ⟨Qm.eU lo n,[]⟩ (Kl lo n):=λρ c H u rs _=>by
 have hl:(Qm.eU lo n).length=n:=by simp[Qm.eU]
 refine⟨λi hi=>by show i<n;rw[<-hl];exact hi,by show n<=(Qm.eU lo n).length;omega,λi d x H' hd hy=>?_⟩;obtain⟨rfl,rfl⟩:=hy;obtain⟨_,rfl⟩:=LI hd;exact⟨Nx.refl rs,.int _⟩
theorem jH{p:Pos}(hg:Gl X "range")(hm:X.mg "range" =ae)(ha:QA X [a] f)(hs:aa9 [a] X.env=[(false,ahx a X.env)]:=by rfl):QI X tg (.Call (.Name "range" p) [a] [] pos) (Qm.dZ f):=(EO hg hm ha hs).imp <| by
 rintro σ H R ⟨ρ,env,c,m,c',rs,re,e,k⟩;obtain⟨p,e1,e⟩:=aJ e;refine⟨ρ,env,c,p.1,p.2,rs,re,e1,λaN vs H1 n1 r1=>?_⟩;split at e
 .rename_i j hj
  split at e
  .rename_i hb
   cases e;rw[hj]at r1;obtain⟨v,rfl,rv⟩:=r1.kr;cases rv.gr;exact⟨j,rfl,hb.1,hb.2,k aN _ H1 n1 Hf⟩
  .cases e
 .cases e
theorem Fs{p:Pos}(hg:Gl X "range")(hm:X.mg "range" =ae)(ha:QA X [a,b] f)(hs:aa9 [a,b] X.env=[(false,ahx a X.env),(false,ahx b X.env)]:=by rfl)(nP:aa9 [b] X.env=[(false,ahx b X.env)]:=by rfl):QI X tg (.Call (.Name "range" p) [a,b] [] pos) (Qm.sW f):=(ER hg hm ha hs nP).imp <| by
 rintro σ H R ⟨ρ,env,c,m,c',rs,re,e,k⟩;obtain⟨p,e1,e⟩:=aJ e;refine⟨ρ,env,c,p.1,p.2,rs,re,e1,λaN vs H1 n1 r1=>?_⟩;split at e
 .rename_i i j hj
  split at e
  .rename_i hb
   cases e;rw[hj]at r1;obtain⟨v,u,rfl,rv,ru⟩:=r1.uD;cases rv.gr;cases ru.gr;exact⟨i,j,rfl,⟨hb.1.1,hb.1.2,hb.2.1,hb.2.2⟩,k aN _ H1 n1 Hf⟩
  .cases e
 .cases e
variable{body:List Stmt}{fi:Qm.XI}
theorem mq(hp:akx (abu X.prog X.w) X.A X.env X.xe)(hc:X.calm=true)(hi:QI X tg e fi)(hg:QG X tg fg)(hb:z4 X body fs)
  (hs:∀x,agS e X.env x=pure x:=by intro _;rfl):QS X (.For tg e body [] pos) (Qm.jc fi fg fs):=(GP hp hc hi hg hb hs).imp <| by
 rintro D σ H ⟨ρ,env,c,fl,bW,c',rs,re,e,k⟩;obtain⟨m,e1,e⟩:=aJ e;refine⟨ρ,env,c,m.1,m.2,rs,re,e1,λyx J H0 n0 it=>?_⟩;refine⟨λi q σ' H'=>q=m.1.ds.length - i/\i<=m.1.ds.length/\∃aN eA c1,Nx X.K yx m.2 H0 aN c1 H'/\RE X.K aN c1.length H' eA σ'/\Qm.bY m.1.ks fg fs (m.1.ds.drop i) eA c1=aa (fl,bW,c'),⟨_,rfl,ab7 _,yx,env,m.2,Nx.refl n0.rs,re.up n0.up,e⟩,?_⟩;rintro i q σ1 H1 ⟨rfl,hi,aN,eA,c1,n1,qA,e1⟩
 by_cases fW:i<m.1.ds.length
 .rw[agY fW]at e1
  unfold Qm.bY at e1;split at e1
  .rename_i i6
   obtain⟨go,_,yl⟩:=it aN c1 H1 n1.up n1.rs i6;obtain⟨p,e2,e1⟩:=aJ e1;obtain⟨q,e3,e1⟩:=aJ e1;refine .inr ⟨go i fW,λσ' H'=>i+1<=m.1.ds.length/\∃aN eA c1,Nx X.K yx m.2 H0 aN c1 H'/\RE X.K aN c1.length H' eA σ'/\Qm.bY m.1.ks fg fs (m.1.ds.drop (i+1)) eA c1=aa (fl,bW,c'),λσ' H' h=>⟨m.1.ds.length - (i+1),by omega,rfl,h⟩,λx H2 hy=>?_⟩;obtain⟨n2,r2⟩:=yl i _ x H2 (aav fW) hy;refine⟨aN,eA,c1,_,p.1,p.2,n2.rs,qA.up n2.up,r2,e2,λxj H3 oC n3 C_=>?_⟩;obtain⟨f,qC,c4⟩:=q;refine⟨xj,p.1,p.2,f,qC,c4,n3.rs,C_,e3,λoO H4 n4=>?_⟩;have nn:=n1.trans (n2.trans (n3.trans n4));cases f with
   |nx=>exact λyz qD=>⟨fW,oO,qC,c4,nn,qD,e1⟩
   |ct=>exact λyz qD=>⟨fW,oO,qC,c4,nn,qD,e1⟩
   |bk=>cases e1;exact λyz qD=>k oO H4 (n0.trans nn) yz qD
   |rt d=>cases e1;exact λv rv=>k oO H4 (n0.trans nn) v rv
  .cases e1
 .have Ft:i=m.1.ds.length:=by omega
  subst Ft;rw[akf]at e1;unfold Qm.bY at e1;split at e1
  .rename_i i6
   obtain⟨_,stop,_⟩:=it aN c1 H1 n1.up n1.rs i6;cases e1;exact .inl ⟨stop,k aN H1 (n0.trans n1) σ1 qA⟩
  .cases e1
theorem rL(hp:akx (abu X.prog X.w) X.A X.env X.xe)(hc:QT X c0 ft)(hb:z4 X body fs):QS X (.While c0 body [] pos) (Qm.eY ft fs):=(Il hp hc hb).imp <| by
 rintro D σ H ⟨ρ,env,c,fl,bW,c',rs,re,e,k⟩;obtain⟨n,e⟩:=Qm.yu e;refine⟨λq σ' H'=>∃aN eA c1,Nx X.K ρ c H aN c1 H'/\RE X.K aN c1.length H' eA σ'/\Qm.j6 ft fs q eA c1=aa (fl,bW,c'),⟨n,ρ,env,c,Nx.refl rs,re,e⟩,?_⟩;rintro q σ1 H1 ⟨aN,eA,c1,n1,qA,e1⟩;cases q with
 |zero=>simp[Qm.j6]at e1
 |succ q=>
  simp only[Qm.j6]at e1;obtain⟨p,e2,e1⟩:=aJ e1;refine⟨aN,eA,c1,p.1,p.2,n1.rs,qA,e2,λi9 H2 n2=>?_⟩;split at e1
  .rename_i hi
   rw[if_pos hi];obtain⟨r,e3,e1⟩:=aJ e1;refine⟨λσ' H'=>∃aN eA c1,Nx X.K ρ c H aN c1 H'/\RE X.K aN c1.length H' eA σ'/\Qm.j6 ft fs q eA c1=aa (fl,bW,c'),λσ' H' h=>⟨q,amm _,h⟩,?_⟩;obtain⟨f,qC,c4⟩:=r;refine⟨i9,eA,p.2,f,qC,c4,n2.rs,qA.up n2.up,e3,λoO H4 n4=>?_⟩;have nn:=n1.trans (n2.trans n4);cases f with
   |nx=>exact λyz qD=>⟨oO,qC,c4,nn,qD,e1⟩
   |ct=>exact λyz qD=>⟨oO,qC,c4,nn,qD,e1⟩
   |bk=>cases e1;exact λyz qD=>k oO H4 nn yz qD
   |rt d=>cases e1;exact λv rv=>k oO H4 nn v rv
  .rename_i hi
   rw[if_neg hi];cases e1;exact k i9 H2 (n1.trans n2) σ1 (qA.up n2.up)
theorem tD:He X [] Qm.jB:=IF.imp <| by
 rintro σ H Q ⟨ρ,env,c,b,c',rs,re,e,k⟩;cases e;exact k ρ H (Nx.refl rs)
theorem vK(h:QT X c0 ft):He X [c0] ft:=Le h
theorem RE.xg{N:Nat}{env:Qm.Env}{σ:St}(re:RE K ρ N H env σ)(cap:List (Option Nat)):RE K ρ N H (Qm.uC env cap) (xg σ cap):=by
 refine⟨by simp[Qm.uC,L2.xg],λj d h=>?_⟩;unfold Qm.uC at h;unfold L2.xg;rw[aa6]at h |-
 cases e:cap[j]? with
 |none=>rw[e]at h;cases h
 |some o=>
  rw[e]at h;cases o with
  |none=>simp at h
  |some i=>
   simp only[ajd,ajO]at h;cases e2:env[i]? with
   |none=>rw[e2]at h;cases h
   |some w=>
    rw[e2]at h;have h':w=aa d:=h;subst h';obtain⟨v,h1,h2⟩:=re.at_ i d e2;refine⟨v,?_,h2⟩;simp[h1]
variable{cap:List (Option Nat)}
theorem Dc{σ:St}{Q:VK}(h:TQ K (Qm.eJ fi cap fg ft fe) σ H Q):Fm (IQ K fi) cap (GQ K fg) (BQ K ft) (TQ K fe) σ H Q:=by
 obtain⟨ρ,env,c,d,c',rs,re,e,k⟩:=h;obtain⟨m,e1,e⟩:=aJ e;obtain⟨cz,e2,e⟩:=aJ e;cases e;refine⟨ρ,env,c,m.1,m.2,rs,re,e1,λyx J H0 n0 it l hl=>?_⟩;obtain⟨na,ra⟩:=Nx.alloc n0.rs hl (ds:=[]) (vs:=[]) .nil;generalize hρ:(λn=>if n=m.2.length then l else yx n)=LJ at na ra;have hL:LJ m.2.length=l:=by rw[<-hρ];simp
 have hlen:(m.2++[Qm.Cell.lst []]).length=m.2.length+1:=by simp
 have fin:∀{aN:Nat->Addr}{c1:Qm.Cells}{H1:Hp},Nx K LJ (m.2++[.lst []]) (upd H0 l (.lst [])) aN c1 H1->aN m.2.length=l:=λn=>by rw[n.up.agree _ (by rw[hlen];omega),hL]
 refine⟨λi q τ H'=>q=m.1.ds.length - i/\i<=m.1.ds.length/\∃aN eA c1,Nx K LJ (m.2++[.lst []]) (upd H0 l (.lst [])) aN c1 H'/\RE K aN c1.length H' eA τ/\Qm.g7 m.2.length m.1.ks fg ft fe (m.1.ds.drop i) eA c1=aa c',
  ⟨_,rfl,ab7 _,LJ,_,_,Nx.refl na.rs,((re.up n0.up).up na.up).xg cap,e2⟩,?_⟩
 rintro i q τ H1 ⟨rfl,hi,aN,eA,c1,n1,qA,e1⟩;have it1:=it aN c1 H1 (na.up.trans n1.up) n1.rs
 by_cases fW:i<m.1.ds.length
 .rw[agY fW]at e1
  unfold Qm.g7 at e1;split at e1
  .rename_i i6
   obtain⟨go,_,yl⟩:=it1 i6;obtain⟨p,e2,e1⟩:=aJ e1;obtain⟨b,e3,e1⟩:=aJ e1;refine .inr ⟨go i fW,λτ H'=>i+1<=m.1.ds.length/\∃aN eA c1,Nx K LJ (m.2++[.lst []]) (upd H0 l (.lst [])) aN c1 H'/\RE K aN c1.length H' eA τ/\Qm.g7 m.2.length m.1.ks fg ft fe (m.1.ds.drop (i+1)) eA c1=aa c',λσ' H' h=>⟨m.1.ds.length - (i+1),by omega,rfl,h⟩,λx H2 hy=>?_⟩;obtain⟨n2,r2⟩:=yl i _ x H2 (aav fW) hy;refine⟨aN,eA,c1,_,p.1,p.2,n2.rs,qA.up n2.up,r2,e2,λxj H3 oC n3 C_=>?_⟩;refine⟨xj,p.1,p.2,b.1,b.2,n3.rs,C_,e3,λoO H4 n4=>?_⟩;have nn:=n1.trans (n2.trans (n3.trans n4));split at e1
   .rename_i hb
    dsimp only
    rw[if_pos hb];obtain⟨y,e4,e1⟩:=aJ e1;refine⟨oO,p.1,b.2,y.1,y.2,n4.rs,C_.up n4.up,e4,λUt yv H5 n5 r5=>?_⟩;have LK:=nn.trans n5;split at e1
    .rename_i ys hys
     split at e1
     .rename_i hz
      obtain⟨vs,h5,a5⟩:=LK.rs.lst hys;rw[fin LK]at h5;have n6:=Nx.put LK.rs hys (a5.append (RA.one r5));rw[fin LK]at n6;refine⟨vs,h5,C7 (by rw[<-a5.length];exact hz),fW,Ut,p.1,_,LK.trans n6,(C_.up (n4.trans (n5.trans n6)).up),e1⟩
     .cases e1
    .cases e1
   .rename_i hb
    dsimp only
    rw[if_neg hb];exact⟨fW,oO,p.1,b.2,nn,C_.up n4.up,e1⟩
  .cases e1
 .have Ft:i=m.1.ds.length:=by omega
  subst Ft;rw[akf]at e1;unfold Qm.g7 at e1;split at e1
  .rename_i i6
   obtain⟨_,stop,_⟩:=it1 i6;cases e1;refine .inl ⟨stop,k aN _ H1 (n0.trans (na.trans n1)) ?_⟩;rw[<-fin n1];exact .ref (aa1 (by rw[hlen];omega) n1.up.len)
  .cases e1
variable{scope:Scope}
theorem uM{tg:acu}{N':List Str}{ifs:List acu}(B:tm X scope N' cap)(hc:X.calm=true)
  (hi:QI X tg b fi)(hg:∀C bR dP fp,QG (X.ke scope C N' bR dP fp) tg fg)(ht:∀C bR dP fp,He (X.ke scope C N' bR dP fp) ifs ft)(he:∀C bR dP fp,QE (X.ke scope C N' bR dP fp) e fe)
  (hs:∀x,agS b X.env x=pure x:=by intro _;rfl):
  QE X (.ListComp e [⟨tg,b,ifs,0⟩] scope pos) (Qm.eJ fi cap fg ft fe):=(Li B hc hi hg ht he hs).imp λ_ _ _ h=>Dc h
theorem Dd{tg:acu}{y:Str}{py C4:Pos}{N':List Str}{ifs:List acu}(B:tm X scope N' cap)(hc:X.calm=true)
  (hi:QI X tg b fi)(hg:∀C bR dP fp,QG (X.ke scope C N' bR dP fp) tg fg)(ht:∀C bR dP fp,He (X.ke scope C N' bR dP fp) ifs ft)(he:∀C bR dP fp,QE (X.ke scope C N' bR dP fp) e fe)
  (hN:X.N.Nodup)(Ul:X.N[i]? =aa y)(hy:Loc X.env.scope y)(C5:aih (.ListComp e [⟨tg,b,ifs,0⟩] scope pos) (aa (.Name y py)) C4.line X.env=pure true)
  (hf:X.fn y=true\/X.env.scope.names.lookup y=aa .local:=by first|exact .inl rfl|exact .inr rfl|assumption)
  (hs:∀x,agS b X.env x=pure x:=by intro _;rfl):
  QS X (.Assign [.Name y py] (.ListComp e [⟨tg,b,ifs,0⟩] scope pos) C4) (Qm.aE i (Qm.eJ fi cap fg ft fe)):=(Lj B hc hi hg ht he hN Ul hy C5 hf hs).imp <| by
 rintro D σ H ⟨ρ,env,c,fl,bW,c',rs,re,e,k⟩;obtain⟨p,e1,e⟩:=aJ e;cases e;exact Dc ⟨ρ,env,c,p.1,p.2,rs,re,e1,λaN v H1 n1 r1=>k aN H1 n1 _ ((re.up n1.up).set r1)⟩
theorem rM{N:List Str}{B:Qm.XS}{vs:List V}{Q:VK}{E:XK}(hn:n<=N.length)(h:fK K (Qm.eP n N.length B) vs H Q E):vs.length=n/\SQ K B { nx:=λ_ H'=>Q .aA H',rt:=Q } (start N vs) H:=by
 obtain⟨ρ,c,ds,d,c',rs,ra,e,k⟩:=h;unfold Qm.eP at e;split at e
 .rename_i hl
  obtain⟨p,e1,e⟩:=aJ e;obtain⟨f,bW,c2⟩:=p;have hv:vs.length=n:=by rw[<-ra.length];exact hl
  refine⟨hv,ρ,_,c,f,bW,c2,rs,⟨?_,λi d hd=>?_⟩,e1,λaZ H' nx=>?_⟩
  .simp[start,hl,hv]
  .have hi:i<ds.length:=by
    by_cases hi:i<ds.length
    .exact hi
    .exfalso
     rw[agP (by simp;omega)]at hd;have:=aa8 hd;have:=agp this;cases this
   rw[abi (by simpa using hi),aa6]at hd;cases e:ds[i]? with
   |none=>rw[e]at hd;cases hd
   |some d'=>
    rw[e]at hd;cases hd;obtain⟨v,h1,h2⟩:=ra.get e;refine⟨v,?_,h2⟩;unfold start;rw[abi (by have:=ra.length;simp;omega),aa6,h1];rfl
  .cases f with
   |nx=>cases e;exact λσ' _=>k aZ .aA H' nx .aA
   |rt d=>cases e;exact λv rv=>k aZ v H' nx rv
   |bk=>cases e
   |ct=>cases e
 .cases e
end
section
variable{P:Program}{w:abZ}{K:aaa}{mg:Str->Option Value}{base:Heap}
theorem eG.ir{x qual:Str}{st:Stmt}{f:Addr}{fd:abd}{N ps:List Str}{k n m:Nat}{B:Qm.XS}{FF:Qm.FN}(F:eG K x qual st f fd)(S:bg N ps (ar st))(hn:ps.length=n)(hm:N.length=m)(hN:n<=m)(hF:FF=Qm.eP n m B)
  (kW:∀(bS:Value) (A:abL) (outer:List Env) (s:aaj) (H:Hp) (E:XK),eX k (A.deeper (aja qual (ar st) s.heap.objs.size f bS))->
   z4 (mf d8 P w K mg base N qual (ar st) f bS A outer s H E).CA (aS st) B):bX P w K mg base d8 (k+1) f fd ps (fK K FF):=by
 subst hm hF;exact F.ok S (λvs H Q E h=>by rw[(rM hN h).1,hn]) λbS A outer s H vs Q E hr h=>⟨_,kW bS A outer s H E hr,(rM hN h).2⟩
theorem Aq.ir{x qual:Str}{st:Stmt}{f:Addr}{fd:abd}{N ps:List Str}{k n m:Nat}{B:Qm.XS}{FF:Qm.FN}(F:Aq K x qual st f fd)(S:bg N ps (ar st))(hn:ps.length=n)(hm:N.length=m)(hN:n<=m)(hF:FF=Qm.eP n m B)
  (kW:∀(bS:Value) (A:abL) (outer:List Env) (s:aaj) (H:Hp) (E:XK),eX k (A.deeper (aja qual (ar st) s.heap.objs.size f bS))->
   z4 (mf d8 P w K mg base N qual (ar st) f bS A outer s H E).CA (aS st) B):bX P w K mg base d8 (k+1) f fd ps (fK K FF):=by
 subst hm hF;exact F.ok S (λvs H Q E h=>by rw[(rM hN h).1,hn]) λbS A outer s H vs Q E hr h=>⟨_,kW bS A outer s H E hr,(rM hN h).2⟩
theorem O3{F:Qm.FN}{H:Hp}{a:Addr}{ns:List Int}(hO:C2 H)(hS:dX K H a (ns.map V.int)){c':Qm.Cells}(h:F [.ref 0] [.ro (ns.map Qm.D.int)]=aa (.bl true,c')):fK K F [.ref a] H (λv _=>v= .bl true) λ_ _ _=>False:=by
 have zs:∀ms:List Int,RA K (λ_=>a) 1 H (ms.map Qm.D.int) (ms.map V.int):=λms=>by
  induction ms with
  |nil=>exact .nil
  |cons m ms ih=>exact .cons (.int m) ih
 refine⟨λ_=>a,[.ro (ns.map Qm.D.int)],[.ref 0],.bl true,c',⟨λi j z y h1 h2 m1 m2 _=>?_,λn z hz=>?_⟩,.cons (.ref (by simp)) .nil,h,λaZ v H' n r=>r.kZ⟩
 .match i,h1 with
  |0,h1=>
   have:z= .ro (ns.map Qm.D.int):=by simpa using h1.symm
   subst this;cases m1
  |i+1,h1=>simp at h1
 .match n,hz with
  |0,hz=>
   have:z= .ro (ns.map Qm.D.int):=by simpa using hz.symm
   subst this;exact⟨ns.map V.int,Aw.of hO hS,zs ns⟩
  |n+1,hz=>simp at hz
end
end L2
namespace L2
open PySem PySem.Spec PyProof.Rows
section
variable{prog:Program}{w:abZ}{A:abL}{E:Value->aaj->Prop}{s:aaj}
def aao(h:Heap)(z TI TO:Addr)(f0 f1:Value):Prop:=h.get? z=aa { cls:=.type "zip",dict:=ae,data:=.fields #[f0,f1,.bool false,.ref TI,.ref TO],slots:=#[] }
def BA(h:Heap)(T:Addr)(a b:Value):Prop:=h.get? T=aa { cls:=.type "tuple",data:=.seq #[a,b] }
structure O5(z TI TO i1 i2 t1 t2:Addr):Prop where
 nd: [z,TI,TO,i1,i2].Nodup
 n1:t1∉[z,TI,TO,i1,i2]
 n2:t2∉[z,TI,TO,i1,i2]
def Uw(h:Heap)(f0:Value):Prop:=f0= .none\/∃T o,f0=alH (T:Addr)/\h.get? T=aa o
structure LL(h:Heap)(z TI TO i1 i2 t1 t2:Addr)(xs ys:Array Value)(k:Nat):Prop where
 ap:O5 z TI TO i1 i2 t1 t2
 rc:∃f0 b1,aao h z TI TO f0 (.bool b1)/\Uw h f0
 ti:BA h TI (.ref i1) (.ref i2)
 to:∃a b,BA h TO a b
 j1:h.IsTupleIter i1 t1 k
 j2:h.IsTupleIter i2 t2 k
 l1:h.IsTuple t1 xs
 l2:h.IsTuple t2 ys
theorem LL.type{z TI TO i1 i2 t1 t2:Addr}{xs ys:Array Value}{k:Nat}(Z:LL s.heap z TI TO i1 i2 t1 t2 xs ys k):s.TypeIs (.ref z) "zip":=by
 obtain⟨f0,b1,h,_⟩:=Z.rc;exact⟨_,h,rfl⟩
end
end L2
namespace L2
open PySem PySem.Spec PyProof.Rows
section
variable{prog:Program}{w:abZ}{A:abL}{E:Value->aaj->Prop}{s:aaj}
theorem LL.at{h h':Heap}{z TI TO i1 i2 t1 t2:Addr}{xs ys:Array Value}{k:Nat}(Z:LL h z TI TO i1 i2 t1 t2 xs ys k)(up:∀c,c∈[z,TI,TO,i1,i2,t1,t2]->∀o,h.get? c=aa o->h'.get? c=aa o)(al:∀c o,h.get? c=aa o->∃o',h'.get? c=aa o'):LL h' z TI TO i1 i2 t1 t2 xs ys k:=by
 obtain⟨D,⟨f0,b1,hz,hf⟩,gI,⟨a,b,gO⟩,j1,j2,l1,l2⟩:=Z;refine⟨D,⟨f0,b1,up _ (by simp) _ hz,?_⟩,up _ (by simp) _ gI,⟨a,b,up _ (by simp) _ gO⟩,j1.at λo e=>up _ (by simp) o e,j2.at λo e=>up _ (by simp) o e,l1.at λo e=>up _ (by simp) o e,l2.at λo e=>up _ (by simp) o e⟩;rcases hf with e|⟨T,o,e,g⟩
 .exact .inl e
 .obtain⟨o',g'⟩:=al _ _ g
  exact .inr ⟨T,o',e,g'⟩
end
end L2
namespace L2
open PySem PySem.Spec PyProof.Rows
structure R5(h:Heap)(b0:Nat)(xs ys:Array Value)(Ts:List Addr)(k:Nat):Prop where
 len:Ts.length=k
 nd:Ts.Nodup
 new:∀T∈Ts,b0<=T/\T<h.objs.size
 at_:∀(i:Nat) (T:Addr),Ts[i]? =aa T->∃x y,xs[i]? =aa x/\ys[i]? =aa y/\BA h T x y
theorem R5.nil{h:Heap}{b0:Nat}{xs ys:Array Value}:R5 h b0 xs ys [] 0:=⟨rfl,List.nodup_nil,λ_ h=>(nomatch h),λi T h=>by simp at h⟩
section
variable{prog:Program}{w:abZ}{A:abL}{s:aaj}{R:amc->aaj->Prop}
end
section
variable{prog:Program}{w:abZ}{A:abL}{E:Value->aaj->Prop}{s:aaj}
end
end L2
namespace L2
open PySem PySem.Spec PyProof.Rows
section
variable{X:Cx}{pins:List (Addr×Obj)}{σ:St}{H H':Hp}{s:aaj}{h':Heap}
end
section
variable{X:Cx}
end
end L2
namespace L2
open PySem PySem.Spec PyProof.Rows
section
variable{X:Cx}{e1 e2:acu}{p0 p1 p2 pos:Pos}{f:Qm.XA}
theorem RA.zip{K:aaa}{ρ:Nat->Addr}{N:Nat}{H:Hp}:∀{xs ys:List Qm.D}{vs us:List V}{Ts:List Addr},RA K ρ N H xs vs->RA K ρ N H ys us->Ts.length=min vs.length us.length->(∀(i:Nat) (T:Addr) (x y:V),Ts[i]? =aa T->vs[i]? =aa x->us[i]? =aa y->H T=aa (.tup [x,y]))->RA K ρ N H (Qm.aae xs ys) (Ts.map V.ref)
 |[],_,_,_,Ts,.nil,_,hl,_=>by
  have:Ts=[]:=agN.mp (by simpa using hl);subst this;exact .nil
 |_::_,[],_,_,Ts,.cons _ _,.nil,hl,_=>by
  have:Ts=[]:=agN.mp (by simpa using hl);subst this;exact .nil
 |x::xs,y::ys,v::vs,u::us,Ts,.cons r1 a1,.cons r2 a2,hl,h=>by
  cases Ts with
  |nil=>simp at hl
  |cons T Ts=>
   refine .cons (.tup (h 0 T v u rfl rfl rfl) (.cons r1 (.cons r2 .nil))) (RA.zip a1 a2 (by simp at hl |-;omega) λi T' x y h1 h2 h3=>h (i+1) T' x y (by simpa using h1) (by simpa using h2) (by simpa using h3))
end
end L2
namespace L2
open PySem PySem.Spec PyProof.Rows
end L2
namespace L2
open PySem PySem.Spec PyProof.Rows
section
variable{prog:Program}{w:abZ}{A:abL}{E:Value->aaj->Prop}{s:aaj}
def LM(h:Heap)(a t:Addr)(i:Int):Prop:=∃o,h.get? a=aa o/\o.cls= .type "reversed"/\o.data= .fields #[.ref t,alH i]
theorem LM.at{h h':Heap}{a t:Addr}{i:Int}(x:LM h a t i)(e:∀o,h.get? a=aa o->h'.get? a=aa o):LM h' a t i:=let ⟨o,ho,r⟩:=x;⟨o,e _ ho,r⟩
end
end L2
namespace L2
open PySem PySem.Spec PyProof.Rows
section
variable{prog:Program}{w:abZ}{A:abL}{E:Value->aaj->Prop}{s:aaj}{I:Addr}{fp wr:List Addr}{G:Array aiB->Array aiB->Prop}{n:Nat}{P:Nat->Value->Prop}{St:Nat->aaj->Prop}
end
end L2
namespace L2
open PySem PySem.Spec PyProof.Rows
section
variable{prog:Program}{w:abZ}{A:abL}{E:Value->aaj->Prop}{s:aaj}{I:Addr}{fp wr:List Addr}{G:Array aiB->Array aiB->Prop}{P:Nat->Value->Prop}{St:Nat->aaj->Prop}
end
section
variable{X:Cx}
end
end L2
namespace Qm
open PySem
end Qm
namespace L2
open PySem PySem.Spec PyProof.Rows
section
variable{X:Cx}{e1:acu}{p0 p1 p2 pos:Pos}{f:Qm.XA}
end
end L2
namespace L2
open PySem PySem.Spec PyProof.Rows
mutual
def nb:agI->Bool
 |.none=>true
 |.int _=>true
 |.str _=>true
 |.tuple ds=>yA ds
 |.list ds=>yA ds
 |_=>false
def yA:List agI->Bool
 |[]=>true
 |d::ds=>nb d&&yA ds
end
section
variable{K:aaa}{ρ:Nat->Addr}{c:Qm.Cells}{H:Hp}
theorem uN{k:Nat}(rs:RS K ρ c H)(ih:∀{x:Qm.D}{v:V}{d:agI},RD K ρ c.length H x v->Qm.data c k x=aa d->kX K H v d/\agD d=true/\d.depth<=k/\nb d=true):
  ∀{xs:List Qm.D}{vs:List V}{ds:List agI},RA K ρ c.length H xs vs->Qm.omap (Qm.data c k) xs=aa ds->tq K H vs ds/\ahS ds=true/\akB ds<=k/\yA ds=true
 |[],_,ds,a,h=>by
  cases a;cases h;exact⟨.nil,rfl,ab7 _,rfl⟩
 |x::xs,_,ds,a,h=>by
  cases a with
  |cons r a=>
   obtain⟨d,h1,h⟩:=aJ h;obtain⟨es,h2,h⟩:=aJ h;cases h;obtain⟨a1,a2,a3,a4⟩:=ih r h1;obtain⟨b1,b2,b3,b4⟩:=uN rs ih a h2;exact⟨.cons a1 b1,by simp[ahS,a2,b2],by simp only[akB];omega,by simp[yA,a4,b4]⟩
theorem jQ(rs:RS K ρ c H):∀(k:Nat) {x:Qm.D}{v:V}{d:agI},RD K ρ c.length H x v->Qm.data c k x=aa d->kX K H v d/\agD d=true/\d.depth<=k/\nb d=true
 |0,_,_,_,_,h=>by simp[Qm.data]at h
 |k+1,x,v,d,r,h=>by
  have A:∀{xs:List Qm.D}{vs:List V}{ds:List agI},RA K ρ c.length H xs vs->Qm.omap (Qm.data c k) xs=aa ds->tq K H vs ds/\ahS ds=true/\akB ds<=k/\yA ds=true:=λ{xs vs ds}=>uN (k:=k) rs (λr h=>jQ rs k r h)
  cases x with
  |aA=>simp[Qm.data]at h;subst h;cases r.Lq;exact⟨.aA,rfl,ab7 _,rfl⟩
  |int i=>simp[Qm.data]at h;subst h;cases r.gr;exact⟨.int i,rfl,ab7 _,rfl⟩
  |bl b=>simp[Qm.data]at h
  |str b=>
   simp only[Qm.data]at h;split at h
   .rename_i hb
    cases h;cases r;exact⟨.str b,hb,ab7 _,rfl⟩
   .cases h
  |ty b=>simp[Qm.data]at h
  |adr b=>simp[Qm.data]at h
  |Lk t bs=>simp[Qm.data]at h
  |tup xs=>
   simp only[Qm.data]at h;obtain⟨ds,h1,h⟩:=aJ h;cases h;obtain⟨p,vs,rfl,g,a⟩:=r.uE;obtain⟨a1,a2,a3,a4⟩:=A a h1;exact⟨.tup (ja.of g) a1,by simpa[agD]using a2,by simp only[anb];omega,by simpa[nb]using a4⟩
  |ref n=>
   simp only[Qm.data]at h;have hs:∀{xs:List Qm.D},Qm.dq (.ref n) c=aa xs->(Qm.omap (Qm.data c k) xs).bind (λds=>aa (PyData.list ds))=aa d->kX K H v d/\agD d=true/\d.depth<=k+1/\nb d=true:=λ{xs} e h=>by
    obtain⟨ds,h1,h⟩:=aJ h;cases h;obtain⟨vs,rfl,g,a⟩:=rs.Ls r e;obtain⟨a1,a2,a3,a4⟩:=A a h1;exact⟨.lst g a1,by simpa[agD]using a2,by simp only[anb];omega,by simpa[nb]using a4⟩
   cases e:c[n]? with
   |none=>rw[e]at h;cases h
   |some z=>
    rw[e]at h;cases z with
    |lst xs=>exact hs (by simp[Qm.dq,e]) h
    |ro xs=>exact hs (by simp[Qm.dq,e]) h
    |lX xs=>cases h
    |zY xs=>cases h
    |Ll xs=>cases h
    |Lm xs=>cases h
    |Au xs=>cases h
    |exc C S xs=>cases h
    |tab cd q=>cases h
end
mutual
theorem je:∀(d e:agI),nb d=true->nb e=true->(ado d e=true↔d=e)
 |.none,e,_,he=>by cases e<;>simp_all [ado,nb]
 |.int i,e,_,he=>by cases e<;>simp_all [ado,nb]
 |.tuple ds,e,hd,he=>by
  cases e<;>simp_all [ado,nb];exact vL _ _ hd he
 |.list ds,e,hd,he=>by
  cases e<;>simp_all [ado,nb];exact vL _ _ hd he
 |.bool _,_,h,_=>by simp[nb]at h
 |.str a,e,_,he=>by cases e<;>simp_all [ado,nb]
 |.dict _,_,h,_=>by simp[nb]at h
theorem vL:∀(ds es:List agI),yA ds=true->yA es=true->(aiY ds es=true↔ds=es)
 |[],[],_,_=>by simp[aiY]
 |[],_::_,_,_=>by simp[aiY]
 |_::_,[],_,_=>by simp[aiY]
 |d::ds,e::es,hd,he=>by
  simp only[yA,abw]at hd he;simp only[aiY,abw,amv];rw[je d e hd.1 he.1,vL ds es hd.2 he.2]
end
section
variable{X:Cx}
theorem Hg{x y:Qm.D}{c:Qm.Cells}{b:Bool}(h:Qm.vH x y c=aa b):(∃p q,x= .bl p/\y= .bl q/\b=(p==q))\/∃d e,Qm.data c 6 x=aa d/\Qm.data c 6 y=aa e/\(b=true↔d=e):=by
 unfold Qm.vH at h;split at h
 .cases h;exact .inl ⟨_,_,rfl,rfl,rfl⟩
 .obtain⟨d,h1,h⟩:=aJ h
  obtain⟨e,h2,h⟩:=aJ h;cases h;exact .inr ⟨d,e,h1,h2,by simp⟩
variable{K:aaa}
theorem De{ρ:Nat->Addr}{c:Qm.Cells}{H:Hp}{x y:Qm.D}{v u:V}{d e:agI}{b:Bool}(rs:RS K ρ c H)(rx:RD K ρ c.length H x v)(ry:RD K ρ c.length H y u)(h1:Qm.data c 6 x=aa d)(h2:Qm.data c 6 y=aa e)(hb:b=true↔d=e):
  kX K H v d/\kX K H u e/\agt d=true/\agt e=true/\ado d e=b:=by
 obtain⟨a1,a2,a3,a4⟩:=jQ rs 6 rx h1;obtain⟨b1,b2,b3,b4⟩:=jQ rs 6 ry h2;refine⟨a1,b1,by simp[agt,a2];omega,by simp[agt,b2];omega,?_⟩;have:=je d e a4 b4;cases b with
 |true=>exact this.mpr (hb.mp rfl)
 |false=>
  cases q:ado d e with
  |false=>rfl
  |true=>exact absurd (hb.mpr (this.mp q)) (by decide)
theorem bZ(hu:X.A.units+64<cLine):eW X (agq .Eq) (λx y H Q=>Oh x y H Q\/yk X.K false x y H Q):=TN.or (OR hu)
theorem iP(hu:X.A.units+64<cLine):eW X (agq .NotEq) (λx y H Q=>TM x y H Q\/yk X.K true x y H Q):=TR.or (OS hu)
theorem cZ:gJ K (λx y H Q=>Oh x y H Q\/yk K false x y H Q) Qm.cO:=by
 intro ρ c H x y d c' v u Q rs rx ry e k;obtain⟨b,e1,e⟩:=aJ e;cases e;rcases Hg e1 with⟨p,q,rfl,rfl,rfl⟩|⟨dd,ee,h1,h2,hb⟩
 .cases rx.kZ;cases ry.kZ
  exact .inl ⟨rfl,by rw[xy];exact k ρ _ H (Nx.refl rs) (.bl _)⟩
 .obtain⟨a1,a2,a3,a4,a5⟩:=De rs rx ry h1 h2 hb
  refine .inr ⟨dd,ee,a1,a2,a3,a4,?_⟩;rw[if_neg (by decide),a5];exact k ρ _ H (Nx.refl rs) (.bl _)
theorem kg:gJ K (λx y H Q=>TM x y H Q\/yk K true x y H Q) Qm.gG:=by
 intro ρ c H x y d c' v u Q rs rx ry e k;obtain⟨b,e1,e⟩:=aJ e;cases e;rcases Hg e1 with⟨p,q,rfl,rfl,rfl⟩|⟨dd,ee,h1,h2,hb⟩
 .cases rx.kZ;cases ry.kZ
  exact .inl ⟨rfl,by rw[xy];exact k ρ _ H (Nx.refl rs) (.bl _)⟩
 .obtain⟨a1,a2,a3,a4,a5⟩:=De rs rx ry h1 h2 hb
  refine .inr ⟨dd,ee,a1,a2,a3,a4,?_⟩;rw[if_pos rfl,a5];exact k ρ _ H (Nx.refl rs) (.bl _)
def dA(x:Qm.D):Bool:=match x with|.aA=>true|_=>false
theorem RD.LN{ρ:Nat->Addr}{N:Nat}{H:Hp}{x:Qm.D}{v:V}(r:RD K ρ N H x v):decide (v= .aA)=dA x:=by
 cases r<;>simp[dA]
theorem rN:gJ K (λx y H Q=>y= .aA/\Q (.bl (decide (x= .aA))) H) Qm.ik:=by
 intro ρ c H x y d c' v u Q rs rx ry e k;unfold Qm.ik at e;split at e
 .cases e
  cases ry.Lq;refine⟨rfl,?_⟩;rw[rx.LN];exact k ρ _ H (Nx.refl rs) (.bl (dA x))
 .cases e
theorem kit_is(K:aaa):ads K (.type "int") (.type "int")=aa true/\ads K (.type "int") (.type "bool")=aa false/\ads K (.type "bool") (.type "bool")=aa true/\ads K (.type "bool") (.type "int")=aa true/\ads K (.type "tuple") (.type "tuple")=aa true/\ads K (.type "list") (.type "list")=aa true:=
 ⟨by with_unfolding_all rfl,by with_unfolding_all rfl,by with_unfolding_all rfl,by with_unfolding_all rfl,by with_unfolding_all rfl,by with_unfolding_all rfl⟩
theorem yB:qe K (λxs H Q=>∃x n t k,xs=[x,.ty n]/\me K H x t/\ads K t (.type n)=aa k/\Q (.bl k) H) Qm.qx:=by
 intro ρ c H ds d c' vs Q rs ra e k;obtain⟨x,y,rfl,e'⟩:=xB e;obtain⟨v,u,rfl,rx,ry⟩:=ra.uD;obtain⟨k1,k2,k3,k4,k5,k6⟩:=kit_is K;split at e'
 .rename_i n
  obtain⟨b,e1,e2⟩:=aJ e';cases e2;have hu:u= .ty n:=by cases ry;rfl
  subst hu;unfold Qm.Hc at e1;split at e1
  .cases rx.gr
   split at e1
   .rename_i hn;cases e1;subst hn;exact⟨_,_,_,_,rfl,.int _,k1,k ρ _ H (Nx.refl rs) (.bl _)⟩
   .split at e1
    .rename_i hn;cases e1;subst hn;exact⟨_,_,_,_,rfl,.int _,k2,k ρ _ H (Nx.refl rs) (.bl _)⟩
    .cases e1
  .cases rx.kZ
   split at e1
   .rename_i hn;cases e1;subst hn;exact⟨_,_,_,_,rfl,.bl _,k3,k ρ _ H (Nx.refl rs) (.bl _)⟩
   .cases e1
  .obtain⟨p,ws,rfl,g,_⟩:=rx.uE
   split at e1
   .rename_i hn;cases e1;subst hn;exact⟨_,_,_,_,rfl,.tup g,k5,k ρ _ H (Nx.refl rs) (.bl _)⟩
   .cases e1
  .rename_i m
   obtain⟨rfl,_⟩:=rx.wH;split at e1
   .rename_i ws hw
    obtain⟨us,g,_⟩:=rs.lst hw;split at e1
    .rename_i hn;cases e1;subst hn;exact⟨_,_,_,_,rfl,.lst g,k6,k ρ _ H (Nx.refl rs) (.bl _)⟩
    .cases e1
   .cases e1
  .cases e1
 .cases e'
end
end L2
namespace L2
open PySem PySem.Spec PyProof.Rows
section
variable{X:Cx}
def Df(K:aaa)(neg:Bool):R2:=λx y H Q=>∃(p:Addr) (xs:List V) (d:agI) (ds:List agI),y= .ref p/\(dX K H p xs\/ja K H p xs)/\kX K H x d/\tq K H xs ds/\agt d=true/\d.depth<=8/\(∀e∈ds,agD e=true)/\Q (.bl (if neg then !(ds.any λe=>ado e d)else ds.any λe=>ado e d)) H
theorem xE{pins:List (Addr×Obj)}{σ:St}{H:Hp}{s:aaj}{x:V}{xs:List V}{v:Value}{its:List Value}{d:agI}{ds:List agI}(hu:X.A.units+64<cLine)(I:Inv X pins σ H s)(rx:RelV x v)(hv:Vals xs its)(hx:kX X.K H x d)(vM:tq X.K H xs ds)(sd:agt d=true)(dd:d.depth<=8)(BB:∀e∈ds,agD e=true):
  (∀y∈its.toArray,SeqAt.EqAt X.A.in1 s y v (uA s.heap d y))/\its.toArray.any (uA s.heap d)=ds.any λe=>ado e d:=by
 obtain⟨as,ra⟩:=hx.reads I rx;obtain⟨bs,rb⟩:=vM.reads I hv;have ea:its.any (uA s.heap d)=ds.any λe=>ado e d:=sD rb λu' d' Br _ hd r'=>C6 (BB d' hd) r'
 refine⟨λy' uf=>?_,by simpa using ea⟩;have hm:y'∈its:=by simpa using uf
 obtain⟨d',hd,Br,r'⟩:=readsAll_mem rb y' hm;rw[C6 (BB d' hd) r'];refine SeqAt.eqAt_reads d' d _ _ _ _ _ _ r' ra (BB d' hd) (SeqAt.canLay_of_shaped sd) ?_;have h1:min d'.depth d.depth<=d.depth:=amj _ _;have h2:X.A.in1.units<=X.A.units+1:=by simp[Around.in1,Around.units]
 show X.A.in1.units+_<cLine;omega
theorem Hi(hu:X.A.units+64<cLine):eW X (agq .In) (Df X.K false):=by
 intro pins s σ H x y v u Q I rx ry h;obtain⟨p,xs,d,ds,rfl,hp,hx,vM,sd,dd,BB,q⟩:=h;cases (show u=abm p from ry);rcases hp with hp|hp
 .obtain⟨its,hv,pl,_⟩:=I.list hp
  obtain⟨h1,h2⟩:=xE hu I rx hv hx vM sd dd BB;refine SeqAt.in_listAt (uA s.heap d) pl.isList h1 ⟨.bl _,H,I,rfl,?_⟩;rw[h2];exact q
 .obtain⟨its,hv,pl,_⟩:=I.tuple hp
  obtain⟨h1,h2⟩:=xE hu I rx hv hx vM sd dd BB;refine SeqAt.in_tupleAt (uA s.heap d) pl h1 ⟨.bl _,H,I,rfl,?_⟩;rw[h2];exact q
theorem yC(hu:X.A.units+64<cLine):eW X (agq .NotIn) (Df X.K true):=by
 intro pins s σ H x y v u Q I rx ry h;obtain⟨p,xs,d,ds,rfl,hp,hx,vM,sd,dd,BB,q⟩:=h;cases (show u=abm p from ry);rcases hp with hp|hp
 .obtain⟨its,hv,pl,_⟩:=I.list hp
  obtain⟨h1,h2⟩:=xE hu I rx hv hx vM sd dd BB;refine SeqAt.notIn_listAt (uA s.heap d) pl.isList h1 ⟨.bl _,H,I,rfl,?_⟩;rw[h2];exact q
 .obtain⟨its,hv,pl,_⟩:=I.tuple hp
  obtain⟨h1,h2⟩:=xE hu I rx hv hx vM sd dd BB;refine SeqAt.notIn_tupleAt (uA s.heap d) pl h1 ⟨.bl _,H,I,rfl,?_⟩;rw[h2];exact q
theorem mr:∀{ds:List agI},ahS ds=true->∀e∈ds,agD e=true
 |[],_,e,he=>nomatch he
 |d::ds,h,e,he=>by
  simp only[ahS,abw]at h;rcases aaI.mp he with rfl|he
  .exact h.1
  .exact mr h.2 e he
theorem uO:∀{ds:List agI},yA ds=true->∀e∈ds,nb e=true
 |[],_,e,he=>nomatch he
 |d::ds,h,e,he=>by
  simp only[yA,abw]at h;rcases aaI.mp he with rfl|he
  .exact h.1
  .exact uO h.2 e he
variable{K:aaa}
theorem Hj{ρ:Nat->Addr}{c:Qm.Cells}{H:Hp}{x y:Qm.D}{v u:V}{b:Bool}(rs:RS K ρ c H)(rx:RD K ρ c.length H x v)(ry:RD K ρ c.length H y u)(h:Qm.Lo x y c=aa b):
  ∃(p:Addr) (xs:List V) (d:agI) (ds:List agI),u= .ref p/\(dX K H p xs\/ja K H p xs)/\kX K H v d/\tq K H xs ds/\agt d=true/\d.depth<=8/\(∀e∈ds,agD e=true)/\(ds.any λe=>ado e d)=b:=by
 obtain⟨xs,h1,h⟩:=aJ h;obtain⟨d,h2,h⟩:=aJ h;obtain⟨ds,h3,h⟩:=aJ h;cases h;obtain⟨p,vs,rfl,hp,a⟩:=rs.seq ry h1;obtain⟨a1,a2,a3,a4⟩:=jQ rs 5 rx h2;obtain⟨b1,b2,b3,b4⟩:=uN (k:=5) rs (λr h=>jQ rs 5 r h) a h3;refine⟨p,vs,d,ds,rfl,hp.imp id ja.of,a1,b1,by simp[agt,a2];omega,by omega,mr b2,?_⟩;rw[agM];simp only[ahj,decide_eq_true_eq];constructor
 .rintro⟨e,he,q⟩
  rw[je e d (uO b4 e he) a4]at q;exact q ▸ he
 .intro hd
  exact⟨d,hd,(je d d a4 a4).mpr rfl⟩
theorem Ux:gJ K (Df K false) Qm.OV:=by
 intro ρ c H x y d c' v u Q rs rx ry e k;obtain⟨b,e1,e⟩:=aJ e;cases e;obtain⟨p,xs,dd,ds,rfl,a1,a2,a3,a4,a5,a6,a7⟩:=Hj rs rx ry e1;refine⟨p,xs,dd,ds,rfl,a1,a2,a3,a4,a5,a6,?_⟩;rw[if_neg (by decide),a7];exact k ρ _ H (Nx.refl rs) (.bl _)
theorem IJ:gJ K (Df K true) Qm.rK:=by
 intro ρ c H x y d c' v u Q rs rx ry e k;obtain⟨b,e1,e⟩:=aJ e;cases e;obtain⟨p,xs,dd,ds,rfl,a1,a2,a3,a4,a5,a6,a7⟩:=Hj rs rx ry e1;refine⟨p,xs,dd,ds,rfl,a1,a2,a3,a4,a5,a6,?_⟩;rw[if_pos rfl,a7];exact k ρ _ H (Nx.refl rs) (.bl _)
theorem Dg:∀{bs:List Bool}{us:List Value},Vals (bs.map V.bl) us->∀(i:Nat) (v:Value),us[i]? =aa v->v= .bool (bs.getD i false)
 |[],_,.nil,i,v,h=>by simp at h
 |b::bs,_,.cons r t,0,v,h=>by
  simp at h;subst h;simpa using(show _=ai1 b from r)
 |b::bs,_,.cons r t,i+1,v,h=>by
  have:=Dg t i v (by simpa using h);simpa using this
theorem yD{prog:Program}{w:abZ}{A:abL}{bs:List Bool}{us:List Value}(hv:Vals (bs.map V.bl) us):TruthOf prog w A (λi v=>us.toArray[i]? =aa v) λi=>bs.getD i false:=λi v s Q E h q=>by
 rw[Dg hv i v (by simpa using h)];exact agH q
theorem range_all(bs:List Bool):(agz bs.length).all (λi=>bs.getD i false)=bs.all id:=by
 rw[agM];simp only[abD,aiA];constructor
 .intro h b hb
  obtain⟨i,hi⟩:=aiV hb;have hl:=(aan.mp hi).1;have:=h i hl;simpa[amI,hi]using this
 .intro h i hi
  have:bs[i]? =aa bs[i]:=aav hi;simp only[amI,this,akg];exact h _ (ahk hi)
theorem range_any(bs:List Bool):(agz bs.length).any (λi=>bs.getD i false)=bs.any id:=by
 rw[agM];simp only[ahj,aiA];constructor
 .rintro⟨i,hi,h⟩
  have:bs[i]? =aa bs[i]:=aav hi;simp only[amI,this,akg]at h;exact⟨_,ahk hi,h⟩
 .rintro⟨b,hb,h⟩
  obtain⟨i,hi⟩:=aiV hb;exact⟨i,(aan.mp hi).1,by simpa[amI,hi]using h⟩
theorem Fu(hc:X.calm=true):fV X (.builtin "all") (λxs H Q=>∃(p:Addr) (bs:List Bool),xs=[.ref p]/\dX X.K H p (bs.map V.bl)/\Q (.bl (bs.all id)) H):=by
 intro pins s σ H xs us Q I r h;obtain⟨p,bs,rfl,hp,q⟩:=h;obtain⟨u,rfl,ru⟩:=vals1 r;cases (show u=abm p from ru);obtain⟨its,hv,pl,_⟩:=I.list hp;have hl:=pl.isList;have fW:p<s.heap.objs.size:=by obtain⟨o,e,_⟩:=hl;exact aaK e
 refine call_all_walk (ajF hl ?_);refine⟨s.heap.objs.size,_,_,_,_,_,_,rfl,Walks.list (A:=X.A.in1) (I.ok.hd hc) s.heap.objs.size p (abA fW) its.toArray,⟨⟨_,abx _ rfl,rfl,rfl⟩,hl.at λo e=>aap _ e⟩,yD hv,λh' tk kk=>?_⟩;have e:its.toArray.size=bs.length:=by rw[aa3,<-hv.length,aaE]
 rw[e,range_all];exact⟨.bl _,H,I.kept (t':=tk) λb o g=>kk b o (by simpa using abA (aaK g)) (aap _ g),rfl,q⟩
theorem Fv(hc:X.calm=true):fV X (.builtin "any") (λxs H Q=>∃(p:Addr) (bs:List Bool),xs=[.ref p]/\dX X.K H p (bs.map V.bl)/\Q (.bl (bs.any id)) H):=by
 intro pins s σ H xs us Q I r h;obtain⟨p,bs,rfl,hp,q⟩:=h;obtain⟨u,rfl,ru⟩:=vals1 r;cases (show u=abm p from ru);obtain⟨its,hv,pl,_⟩:=I.list hp;have hl:=pl.isList;have fW:p<s.heap.objs.size:=by obtain⟨o,e,_⟩:=hl;exact aaK e
 refine call_any_walk (ajF hl ?_);refine⟨s.heap.objs.size,_,_,_,_,_,_,rfl,Walks.list (A:=X.A.in1) (I.ok.hd hc) s.heap.objs.size p (abA fW) its.toArray,⟨⟨_,abx _ rfl,rfl,rfl⟩,hl.at λo e=>aap _ e⟩,yD hv,λh' tk kk=>?_⟩;have e:its.toArray.size=bs.length:=by rw[aa3,<-hv.length,aaE]
 rw[e,range_any];exact⟨.bl _,H,I.kept (t':=tk) λb o g=>kk b o (by simpa using abA (aaK g)) (aap _ g),rfl,q⟩
theorem vN{ρ:Nat->Addr}{N:Nat}{H:Hp}:∀{ds:List Qm.D}{vs:List V}{bs:List Bool},RA K ρ N H ds vs->Qm.omap Qm.qd ds=aa bs->vs=bs.map V.bl
 |[],_,bs,a,h=>by cases a;cases h;rfl
 |d::ds,_,bs,a,h=>by
  cases a with
  |cons r a=>
   obtain⟨b,h1,h⟩:=aJ h;obtain⟨cs,h2,h⟩:=aJ h;cases h;rw[uH h1]at r;cases r.kZ;rw[vN a h2];rfl
theorem O6:qe K (λxs H Q=>∃(p:Addr) (bs:List Bool),xs=[.ref p]/\dX K H p (bs.map V.bl)/\Q (.bl (bs.all id)) H) Qm.Hd:=by
 intro ρ c H ds d c' vs Q rs ra e k;obtain⟨x,rfl,e'⟩:=kB e;obtain⟨v,rfl,rx⟩:=ra.kr;obtain⟨n,e0,e'⟩:=aJ e';obtain⟨bs,e2,e'⟩:=aJ e';cases e';obtain⟨rfl,hn,ws,rfl,g,a⟩:=rs.cj rx e0;exact⟨_,bs,rfl,vN a e2 ▸ dX.of g,k ρ _ H (Nx.refl rs) (.bl _)⟩
theorem O7:qe K (λxs H Q=>∃(p:Addr) (bs:List Bool),xs=[.ref p]/\dX K H p (bs.map V.bl)/\Q (.bl (bs.any id)) H) Qm.Lp:=by
 intro ρ c H ds d c' vs Q rs ra e k;obtain⟨x,rfl,e'⟩:=kB e;obtain⟨v,rfl,rx⟩:=ra.kr;obtain⟨n,e0,e'⟩:=aJ e';obtain⟨bs,e2,e'⟩:=aJ e';cases e';obtain⟨rfl,hn,ws,rfl,g,a⟩:=rs.cj rx e0;exact⟨_,bs,rfl,vN a e2 ▸ dX.of g,k ρ _ H (Nx.refl rs) (.bl _)⟩
theorem O8:ab1 "all" =aa (.builtin "all"):=by decide +kernel
theorem O9:ab1 "any" =aa (.builtin "any"):=by decide +kernel
end
end L2
namespace Qm
open PySem
noncomputable section
def ahw:G2:=λx y c=>match x with
 |.ref n=>(match c[n]? with
  |some (.ro xs)=>(cj y c).bind λq=>if xs.length+q.2.length<=dJ then aa (.ref c.length,c++[.lst (xs++q.2)])else ae
  |_=>ae)
 |_=>ae
open Classical in
def BC:G2:=ii λi j=>if 0<=j/\j<=100/\My.Bd 8900 i then aa (.int (i ^ j.toNat))else ae
end
end Qm
namespace L2
open PySem PySem.Spec PyProof.Rows
section
variable{X:Cx}
def LO(i j:Int):Prop:=0<=j/\(ak7 i:Int)*j<=2 ^ 27
theorem LP:eW X (ahu .Pow) (rI LO λi j=>.int (i ^ j.toNat)):=Ks λ_ _ _ _ _ _ _ hc q=>pow_int hc.1 hc.2 q
theorem LQ{K:aaa}:gJ K (rI LO λi j=>.int (i ^ j.toNat)) Qm.BC:=uI λi j d e=>by
 split at e
 .rename_i h
  cases e;refine⟨⟨h.1,?_⟩,λ_ _ _=>.int _⟩;have b:=My.bits_le h.2.2;have e27:(2:Int) ^ 27=134217728:=by decide
  have:(ak7 i:Int)*j<=9000*100:=Int.mul_le_mul (by omega) h.2.1 h.1 (by decide);omega
 .cases e
end
end L2
namespace L2
open PySem PySem.Spec PyProof.Rows
def IK:List Int->List Int->Bool
 |[],_=>false
 |_::_,[]=>true
 |a::r,b::t=>if a=b then IK r t else decide (a > b)
section
variable{prog:Program}{w:abZ}{A:abL}{E:Value->aaj->Prop}{s:aaj}
end
section
variable{X:Cx}
end
end L2
namespace L2
open PySem PySem.Spec PyProof.Rows
section
variable{prog:Program}{w:abZ}{A:abL}
end
section
variable{X:Cx}
end
end L2
namespace L2
open PySem PySem.Spec PyProof.Rows PySem.W
section
variable{X:Cx}{pins:List (Addr×Obj)}{σ:St}{H:Hp}{s:aaj}
end
section
variable{prog:Program}{w:abZ}{A:abL}{s:aaj}{Q:Bool->aaj->Prop}
end
section
variable{X:Cx}
end
end L2
namespace L2
open PySem PySem.Spec PyProof.Rows
section
variable{prog:Program}{w:abZ}{A:abL}{E:Value->aaj->Prop}
end
section
variable{X:Cx}{pos:Pos}
end
end L2
namespace Qm
open PySem
noncomputable section
def IK:List Int->List Int->Bool
 |[],_=>false
 |_::_,[]=>true
 |a::r,b::t=>if a=b then IK r t else decide (a > b)
def nums(xs:List D):Option (List Int):=omap qt xs
def alr:G2:=λx y c=>match x,y with
 |.tup xs,.tup ys=>(nums xs).bind λns=>(nums ys).bind λms=>aa (.bl (IK ns ms),c)
 |_,_=>ae
def agU:FN:=λds c=>match ds with
 |[.tup xs,.tup ys]=>(nums xs).bind λns=>(nums ys).bind λms=>aa (if IK ms ns=true then .tup ys else .tup xs,c)
 |_=>ae
def Uy(xs:List D):Option (List D×List D×List Int×List Int):=match xs with
 |[.tup xs,.tup ys]=>(nums xs).bind λns=>(nums ys).bind λms=>if ns≠[]/\ms≠[] then aa (xs,ys,ns,ms)else ae
 |_=>ae
def Zn:FN:=λds c=>match ds with
 |[.ref l]=>(dq (.ref l) c).bind λzs=>(Uy zs).bind λq=>aa (.ref c.length,c++[.lst (if IK q.2.2.1 q.2.2.2=true then [.tup q.2.1,.tup q.1] else [.tup q.1,.tup q.2.1])])
 |_=>ae
end
end Qm
namespace L2
open PySem PySem.Spec PyProof.Rows
section
variable{K:aaa}
end
section
variable{X:Cx}{pos:Pos}{es:List acu}
end
end L2
namespace Qm
open PySem
noncomputable section
def iu(d:D):Option Str:=match d with
 |.str x=>aa x
 |_=>ae
def fM:G2:=λx y c=>(iu x).bind λa=>(iu y).bind λb=>if a.length+b.length<=dJ then aa (.str (a++b),c)else ae
def yE:G2:=λx y c=>(iu x).bind λa=>(qt y).bind λi=>if a.length<=dJ then(eI a.cps.toList i).bind λk=>aa (.str ⟨#[k]⟩,c)else ae
def yF(d:D)(c:Cells):Option (Nat×List (Str×D)):=match d with
 |.ref n=>(match c[n]? with
  |some (.lX ps)=>aa (n,ps)
  |_=>ae)
 |_=>ae
def Dh{α:Type}(ps:List (Str×α))(k:Str):Option α:=(ps.find? λp=>decide (p.1=k)).map (·.2)
def mw(k v l u:Str):XE:=λ_ c=>aa (.ref c.length,c++[.lX [(k,.str v),(l,.str u)]])
def yG(o k:XE):XE:=λσ c=>(o σ c).bind λp=>(k σ p.2).bind λq=>(yF p.1 q.2).bind λl=>(iu q.1).bind λx=>(Dh l.2 x).bind λd=>aa (d,q.2)
end
end Qm
namespace PySem
open Sem (wp)
section
variable{prog:Program}{w:abZ}{K:Type}[DecidableEq K]{knd:KeyKind prog w K}{A:abL}{E:Value->aaj->Prop}{s:aaj}
end
end PySem
namespace L2
open PySem PySem.Spec PyProof.Rows
section
variable{K:aaa}{ρ aZ:Nat->Addr}{N:Nat}{c c':Qm.Cells}{H H':Hp}
theorem xF{d:Qm.D}{i:Str}(h:Qm.iu d=aa i):d= .str i:=by
 unfold Qm.iu at h;split at h
 .cases h;rfl
 .cases h
theorem RD.gK{i:Str}{v:V}(h:RD K ρ N H (.str i) v):v= .str i:=by cases h;rfl
theorem RK.length:∀{ps:List (Str×Qm.D)}{us:List (Key×V)},RK K ρ N H ps us->ps.length=us.length
 |_,_,.nil=>rfl
 |_,_,.cons _ a=>congrArg (·+1) (RK.length a)
theorem RK.val:∀{ps:List (Str×Qm.D)}{us:List (Key×V)},RK K ρ N H ps us->∀k,(Qm.Dh ps k=ae/\nS us (.inr k)=ae)\/∃d v,Qm.Dh ps k=aa d/\nS us (.inr k)=aa v/\RD K ρ N H d v
 |_,_,.nil,k=>.inl ⟨rfl,rfl⟩
 |_,_,.cons (k:=k') (d:=d) (x:=x) h a,k=>by
  by_cases e:k'=k
  .subst e
   exact .inr ⟨d,x,by simp[Qm.Dh],by rw[vG rfl],h⟩
  .have e':¬(ahY k':Key)= .inr k:=λz=>e (amy z)
   rcases RK.val a k with⟨h1,h2⟩|⟨d',v',h1,h2,h3⟩
   .exact .inl ⟨by simpa[Qm.Dh,ahe,e]using h1,by rw[rH e'];exact h2⟩
   .exact .inr ⟨d',v',by simpa[Qm.Dh,ahe,e]using h1,by rw[rH e'];exact h2,h3⟩
variable{ps:List (Str×Qm.D)}
theorem RS.lX(r:RS K ρ c H){n:Nat}(h:c[n]? =aa (.lX ps)):∃us,H (ρ n)=aa (.dK us)/\RK K ρ c.length H ps us:=r.ok n _ h
theorem RS.yF(r:RS K ρ c H){d:Qm.D}{n:Nat}{v:V}(h:RD K ρ c.length H d v)(e:Qm.yF d c=aa (n,ps)):d= .ref n/\c[n]? =aa (.lX ps)/\∃us,v= .ref (ρ n)/\H (ρ n)=aa (.dK us)/\RK K ρ c.length H ps us:=by
 unfold Qm.yF at e;split at e
 .obtain⟨rfl,hn⟩:=h.wH
  split at e
  .rename_i xs hx
   cases e;obtain⟨vs,h1,h2⟩:=r.lX hx;exact⟨rfl,hx,vs,rfl,h1,h2⟩
  .cases e
 .cases e
end
section
variable{X:Cx}{a b e:acu}{es:List acu}{fa fb fc fe:Qm.XE}{pos apos cY:Pos}
theorem iE{K:aaa}:gJ K (λx y H Q=>∃i j,x= .str i/\y= .str j/\i.length+j.length<=sizeLine/\Q (.str (i++j)) H) Qm.fM:=by
 intro ρ c H x y d c' v u Q rs rx ry e k;obtain⟨i,e1,e⟩:=aJ e;obtain⟨j,e2,e⟩:=aJ e;split at e
 .rename_i h
  cases e;cases xF e1;cases xF e2;cases rx.gK;cases ry.gK;exact⟨i,j,rfl,rfl,kY h,k ρ _ H (Nx.refl rs) (.str _)⟩
 .cases e
theorem O_{K:aaa}:gJ K KI Qm.yE:=by
 intro ρ c H x y d c' v u Q rs rx ry e k;obtain⟨i,e1,e⟩:=aJ e;obtain⟨j,e2,e⟩:=aJ e;split at e
 .rename_i h
  obtain⟨z,e3,e⟩:=aJ e;cases e;cases xF e1;cases jd e2;cases rx.gK;cases ry.gr;exact⟨i,j,z,rfl,rfl,kY h,e3,k ρ _ H (Nx.refl rs) (.str _)⟩
 .cases e
theorem IL(ha:QE X a fa)(hb:QE X b fb)(hs:uq b):QE X (.Subscript a b pos) (Qm.e2 Qm.yE fa fb):=Lv GV O_ ha hb hs
theorem IM{k v l u:Str}{j1 j2 j3 j4}{p1 p2 p3 p4:Pos}(hkl:k≠l):QE X (.Dict [aa (.Constant (.str k) j1 p1),aa (.Constant (.str l) j3 p3)] [.Constant (.str v) j2 p2,.Constant (.str u) j4 p4] pos) (Qm.mw k v l u):=by
 have P1:K6 X pos [aa (.Constant (.str k) j1 p1),aa (.Constant (.str l) j3 p3)] [.Constant (.str v) j2 p2,.Constant (.str u) j4 p4] [(tC (.str k),tC (.str v)),(tC (.str l),tC (.str u))]:=Ap rE rE (Ap rE rE K7);have P2:=K8 P1 rfl rfl (List.cons_ne_nil _ _) (show 2<=15 by decide);refine P2.imp λσ H Q hQ=>?_
 obtain⟨ρ,env,c,d,c',rs,re,e,hk⟩:=hQ;unfold Qm.mw at e;cases e;intro p hp;show upd H p (.dK []) p=aa (.dK [])/\∃aP:List (Key×V),[(V.str k,V.str v),(V.str l,V.str u)]=aP.map (λkv=>(kV kv.1,kv.2))/\aP.length<=15/\Q (.ref p) (upd (upd H p (.dK [])) p (.dK (kz [] aP)));refine⟨bH,[(.inr k,.str v),(.inr l,.str u)],rfl,(by decide: 2<=15),?_⟩;have hm:kz [] [((.inr k:Key),V.str v),(.inr l,.str u)]=[(.inr k,.str v),(.inr l,.str u)]:=by
  have:¬(ahY k:Key)= .inr l:=λz=>hkl (amy z)
  simp[kz,putK,this,hkl]
 have hup:upd (upd H p (.dK [])) p (.dK (kz [] [(.inr k,V.str v),(.inr l,.str u)]))=upd H p (.dK [(.inr k,.str v),(.inr l,.str u)]):=by
  rw[hm]
  funext q
  by_cases hq:q=p
  .subst hq;rw[bH,bH]
  .rw[aY hq,aY hq,aY hq]
 rw[hup];obtain⟨n,r⟩:=Nx.OX rs hp (.cons (k:=k) (.str v) (.cons (k:=l) (.str u) .nil));exact hk _ _ _ n r
theorem Pa(hu:X.A.units+64<cLine)(ha:QE X a fa)(hb:QE X b fb)(hs:K3 b):QE X (.Subscript a b pos) (Qm.yG fa fb):=(K5 (by omega) ha hb hs).imp <| by
 rintro σ H Q ⟨ρ,env,c,d,c',rs,re,e,k⟩;obtain⟨p,e1,e⟩:=aJ e;obtain⟨q,e2,e⟩:=aJ e;obtain⟨l,e3,e⟩:=aJ e;obtain⟨x,e4,e⟩:=aJ e;obtain⟨z,e5,e⟩:=aJ e;cases e;refine⟨ρ,env,c,p.1,p.2,rs,re,e1,λaN v H1 n1 r1=>⟨aN,env,p.2,q.1,q.2,n1.rs,re.up n1.up,e2,λi9 u H2 n2 r2=>?_⟩⟩;rw[xF e4]at r2;cases r2.gK;obtain⟨_,hc,us,rfl,h1,a1⟩:=n2.rs.yF (r1.up n2.up) e3;rcases a1.val x with⟨h2,_⟩|⟨d',v',h2,h3,h4⟩
 .rw[h2]at e5;cases e5
 .rw[h2]at e5;cases e5
  exact⟨_,v',rfl,by have:=wB.k (k:=.inr x) h1;rw[h3]at this;exact this,k i9 _ H2 (n1.trans n2) h4⟩
end
end L2
namespace L2
open PySem PySem.Spec PyProof.Rows
section
variable{X:Cx}
end
section
variable{K:aaa}{ρ:Nat->Addr}{c:Qm.Cells}{H:Hp}
inductive PD(K:aaa)(H:Hp):List (Str×agI)->List (Key×V)->Prop
 |nil:PD K H [] []
 |cons {k:Str}{d:agI}{r:List (Str×agI)}{v:V}{t:List (Key×V)}:kX K H v d->agt d=true->nb d=true->PD K H r t->PD K H ((k,d)::r) ((.inr k,v)::t)
theorem PD.length:∀{ds:List (Str×agI)}{us:List (Key×V)},PD K H ds us->ds.length=us.length
 |_,_,.nil=>rfl
 |_,_,.cons _ _ _ a=>congrArg (·+1) (PD.length a)
end
end L2
namespace L2
open PySem PySem.Spec PyProof.Rows
theorem bX.none{P:Program}{w:abZ}{K:aaa}{mg:Str->Option Value}{base:Heap}{k:Nat}{f:Addr}{fd:abd}{ps:List Str}{F:Qm.FN}(h:∀ds c,F ds c=Option.none):bX P w K mg base d8 k f fd ps (fK K F):=
 ⟨λvs H Q E ⟨_,_,_,_,_,_,_,e,_⟩=>(by rw[h]at e;cases e),λA outer s H args us vs Q E _ _ _ _ ⟨_,_,_,_,_,_,_,e,_⟩=>(by rw[h]at e;cases e)⟩
end L2
namespace L2
open PySem PySem.Spec PyProof.Rows
theorem Hk{k:Const}{j}{p:Pos}{es:List acu}{env:PySem.Env}:aa9 (.Constant k j p::es) env=(false,ahx (.Constant k j p) env)::aa9 es env:=rfl
end L2
namespace L2
open PySem PySem.Spec PyProof.Rows
section
variable{X:Cx}{es:List acu}{fr:Qm.XA}{p:Pos}
theorem aV{x:Str}{j}(h:QA X es fr):QA X (.Constant (.str x) j p::es) (Qm.af (Qm.eC (.str x)) fr):=ag aI h Hk
theorem mx{x:Int}{j}(h:QA X es fr):QA X (.Constant (.int x) j p::es) (Qm.af (Qm.eC (.int x)) fr):=ag aq h Hk
end
end L2
namespace L2
open PySem PySem.Spec PyProof.Rows
section
variable{X:Cx}{pins:List (Addr×Obj)}{σ:St}{H:Hp}{s:aaj}{h':Heap}
theorem Inv.Uz{ch:List Addr}{T:Addr}{o:HO}{t':Nat}(I:Inv X pins σ H s)(jY:∀b∈ch,kU X pins H b)(k:∀b u,b∉ch->s.heap.get? b=aa u->h'.get? b=aa u)(hT:s.heap.objs.size<=T)(new:cH X.prog X.w (upd H T o) h' T o):
  Inv X pins σ (upd H T o) { s with heap:=h',toks:=t' }:=by
 have hn:H T=ae:=I.bB.fresh hT;have ne:∀b u,s.heap.get? b=aa u->b≠T:=λb u e=>abA (aa1 (aaK e) hT)
 have nc:∀b u,H b=aa u->b∉ch:=λb u e hb=>by rw[(jY b hb).1]at e;cases e
 refine I.step (g':=s.gens) (d':=s.drawn) (ch:=ch) (λb hb=>⟨(jY b hb).2.2.2.1,(jY b hb).2.1,(jY b hb).2.2.2.2.1,(jY b hb).2.2.2.2.2⟩) (λb u _ _ hc e _=>k b u hc e) (λb u _ _ hc e _=>⟨u.slots,k b u hc e⟩) (λb u _ e z=>by rw[aY (ne b u e)];exact z)
  (λb u hc e=>⟨u,k b u hc e⟩) (λb xs e=>by rw[aY (cM e hn)];exact e) (λb u v e=>by rw[aY (cM e hn)];exact e) (λb ps e=>⟨#[],by rw[aY (cM e hn),e];simp⟩) (λm hm=>?_) (λb u e=>?_) I.bare
 .obtain⟨ob,es,ep,ho,r⟩:=hm
  exact⟨ob,es,ep,k _ ob (λz=>(jY _ z).2.1 rfl) ho,r⟩
 .by_cases hb:b=T
  .subst hb
   rw[bH]at e;cases e;exact new
  .rw[aY hb]at e
   refine(I.bB b u e).pR (λc v hc q=>k c v ?_ q) (λc q=>by rw[aY (cM q hn)];exact q) λc xs q=>by rw[aY (cM q hn)];exact q
   rcases hc with z|z
   .rw[z];exact nc b u e
   .exact nc c _ z
theorem Inv.UA{ch:List Addr}{t':Nat}(I:Inv X pins σ H s)(jY:∀b∈ch,kU X pins H b)(k:∀b u,b∉ch->s.heap.get? b=aa u->h'.get? b=aa u):Inv X pins σ H { s with heap:=h',toks:=t' }:=by
 have nc:∀b u,H b=aa u->b∉ch:=λb u e hb=>by rw[(jY b hb).1]at e;cases e
 refine I.step (g':=s.gens) (d':=s.drawn) (ch:=ch) (λb hb=>⟨(jY b hb).2.2.2.1,(jY b hb).2.1,(jY b hb).2.2.2.2.1,(jY b hb).2.2.2.2.2⟩) (λb u _ _ hc e _=>k b u hc e) (λb u _ _ hc e _=>⟨u.slots,k b u hc e⟩) (λb u _ e z=>z)
  (λb u hc e=>⟨u,k b u hc e⟩) (λb xs e=>e) (λb u v e=>e) (λb ps e=>⟨#[],by rw[e];simp⟩) (λm hm=>?_) (λb u e=>?_) I.bare
 .obtain⟨ob,es,ep,ho,r⟩:=hm
  exact⟨ob,es,ep,k _ ob (λz=>(jY _ z).2.1 rfl) ho,r⟩
 .refine(I.bB b u e).pR (λc v hc q=>k c v ?_ q) (λc q=>q) λc xs q=>q
  rcases hc with z|z
  .rw[z];exact nc b u e
  .exact nc c _ z
end
section
variable{X:Cx}{e1 e2:acu}{p0 p1 p2 pos:Pos}{f:Qm.XA}{es:List acu}{k0:Nat}
end
end L2
namespace Qm
open PySem
noncomputable section
def kh(xs:List D):List D:=xs.zipIdx.map λp=>.tup [.int p.2,p.1]
def BD(a:XA):XI:=λσ c=>(a σ c).bind λp=>match p.1 with
 |[.ref n]=>(p.2[n]?).bind λz=>(cj (.ref n) p.2).bind λl=>aa (⟨kh l.2,[(n,z)]⟩,p.2)
 |_=>ae
def ahy(a:XE):XI:=λσ c=>(a σ c).bind λp=>match p.1 with
 |.ref n=>(match p.2[n]? with
  |some (.lX ps)=>aa (⟨ps.map λq=>.str q.1,[(n,.zY ps)]⟩,p.2.set n (.zY ps))
  |some (.zY ps)=>aa (⟨ps.map λq=>.str q.1,[(n,.zY ps)]⟩,p.2)
  |_=>ae)
 |_=>ae
def mU(d:D)(c:Cells):Option String:=match d with
 |.int _=>aa "int"
 |.bl _=>aa "bool"
 |.tup _=>aa "tuple"
 |.str _=>aa "str"
 |.ref m=>(match c[m]? with
  |some (.lst _)=>aa "list"
  |_=>ae)
 |_=>ae
def lg(t n:String):Option Bool:=if n∈["int","bool","tuple","list","str"] then aa (t==n||(t=="bool"&&n=="int"))else ae
def lh:FN:=two λx y c=>match y with
 |.ty n=>(mU x c).bind λt=>(lg t n).bind λk=>aa (.bl k,c)
 |.tup [.ty a,.ty b]=>(mU x c).bind λt=>(lg t a).bind λk=>(lg t b).bind λl=>aa (.bl (k||l),c)
 |_=>ae
open Classical in
def Di(x y:D)(c:Cells):Option Bool:=(data c 60 x).bind λd=>(data c 60 y).bind λe=>aa (decide (d=e))
def qE:G2:=λx y c=>(Di x y c).bind λb=>aa (.bl b,c)
end
end Qm
namespace L2
open PySem PySem.Spec PyProof.Rows
section
variable{K:aaa}
theorem IP{ρ:Nat->Addr}{c:Qm.Cells}{H:Hp}{x y:Qm.D}{v u:V}{b:Bool}(rs:RS K ρ c H)(rx:RD K ρ c.length H x v)(ry:RD K ρ c.length H y u)(h:Qm.Di x y c=aa b):
  ∃d e,kX K H v d/\kX K H u e/\agt d=true/\agt e=true/\ado d e=b:=by
 unfold Qm.Di at h;obtain⟨d,h1,h⟩:=aJ h;obtain⟨e,h2,h⟩:=aJ h;cases h;obtain⟨a1,a2,a3,a4⟩:=jQ rs 60 rx h1;obtain⟨b1,b2,b3,b4⟩:=jQ rs 60 ry h2;refine⟨d,e,a1,b1,by simp[agt,a2];omega,by simp[agt,b2];omega,?_⟩;have:=je d e a4 b4
 by_cases q:d=e
 .rw[this.mpr q];simp[q]
 .cases z:ado d e with
  |false=>simp[q]
  |true=>exact absurd (this.mp z) q
theorem BE:gJ K (λx y H Q=>Oh x y H Q\/yk K false x y H Q) Qm.qE:=by
 intro ρ c H x y d c' v u Q rs rx ry e k;obtain⟨b,e1,e⟩:=aJ e;cases e;obtain⟨dd,ee,a1,a2,a3,a4,a5⟩:=IP rs rx ry e1;refine .inr ⟨dd,ee,a1,a2,a3,a4,?_⟩;rw[if_neg (by decide),a5];exact k ρ _ H (Nx.refl rs) (.bl _)
end
def UB(K:aaa)(a:Addr):It:=
 ⟨λi H=>∃xs x,dX K H a xs/\xs[i]? =aa x,
      λi H v H'=>∃T,v= .ref T/\H T=ae/\∀xs,dX K H a xs->∃x,xs[i]? =aa x/\H'=upd H T (.tup [.int i,x]),
      λi H=>∃xs,dX K H a xs/\xs.length<=i⟩
theorem Fw{P:Program}{w:abZ}{K:aaa}{es:List acu}{k0:Nat}{p0:Pos}(e it a:Addr)(hei:e≠it):
  Turn P w K (.Tuple es k0 p0) (UB K a) [e,it] e (λi h=>(∃old,IsEnum h e it i old)/\h.IsListIter it a i) where
 mem:=by simp
 obj:=λi h Z c hc=>by
  obtain⟨⟨old,he⟩,hit⟩:=Z;rcases aaI.mp hc with rfl|hc
  .exact⟨_,he,by simp⟩
  .have:c=it:=by simpa using hc
   subst this;obtain⟨o,e,_,d⟩:=hit;exact⟨o,e,by rw[d];simp⟩
 keep:=λi h h' Z kk=>by
  obtain⟨⟨old,he⟩,hit⟩:=Z;exact⟨⟨old,kk _ (by simp) _ he⟩,hit.at λo e=>kk _ (by simp) o e⟩
 item:=λX hP hw hK hc i pins s σ H E I hf Z go=>by
  subst hP hw hK;obtain⟨xs,x,vM,hx⟩:=go;obtain⟨ia,va,p,_⟩:=I.list vM;obtain⟨ux,hux,rx⟩:=va.get hx;obtain⟨⟨old,he⟩,hit⟩:=Z;refine wpAny_pyNext_enum_item he hit p.isList (x:=ux) (by simpa using hux) hei λh' ho aar hT E5 hk=>?_
  refine⟨_,rfl,?_⟩;refine wpAny_letOwnedTupleGo_enum ho λh2 he2 nP=>?_
  have Pb:s.heap.objs.size≠e:=aiE (aaK he);have hTi:s.heap.objs.size≠it:=by
   obtain⟨o,q,_⟩:=hit;exact aiE (aaK q)
  have gT:=nP.extBut _ _ Pb hT;have wk:∀c u,c∉[e,it]->s.heap.get? c=aa u->h2.get? c=aa u:=λc u i5 q=>by
   simp only[aaI,abl,or_false,not_or]at i5;exact nP.extBut c u i5.1 (hk c u i5.1 i5.2 q)
  have hTn:H s.heap.objs.size=ae:=I.bB.fresh (aat _);refine⟨.ref s.heap.objs.size,upd H s.heap.objs.size (.tup [.int i,x]),I.Uz (t':=s.toks+1) hf wk (aat _) ⟨by show 2<=sizeLine;decide,[.int i s.toks,ux],.cons ⟨_,rfl⟩ (.cons rx .nil),⟨_,gT,rfl,_,rfl⟩⟩,rfl,⟨_,rfl,hTn,λmP h1=>?_⟩,⟨⟨_,by simpa using he2⟩,aar.extBut nP.extBut hei.symm⟩,λc i5=>?_⟩
  .rw[<-I.Aj vM h1]
   exact⟨x,hx,rfl⟩
  .have kf:c≠s.heap.objs.size:=by
    rcases aaI.mp i5 with rfl|i5
    .exact Pb.symm
    .have:c=it:=by simpa using i5
     subst this;exact hTi.symm
   rw[aY kf];exact(hf c i5).1
 done:=λX hP hw hK hc i pins s σ H E I hf Z st=>by
  subst hP hw hK;obtain⟨xs,vM,als⟩:=st;obtain⟨ia,va,p,_⟩:=I.list vM;obtain⟨⟨old,he⟩,hit⟩:=Z;have la:=va.length;refine wpAny_pyNext_enum_end (I.ok.hd hc) he hit p.isList (aiq (by simp;omega)) λh' eb=>⟨rfl,I.UA (t':=s.toks) hf λc u i5 q=>?_⟩
  simp only[aaI,abl,or_false,not_or]at i5;exact eb c u i5.2 q
 self:=λA i s Q E Z q=>by
  obtain⟨⟨old,he⟩,_⟩:=Z;exact wpAny_pyIter_enum he q
def Pd(K:aaa)(t:TA):TI:=λσ H R=>t σ H λvs H1=>∃a xs,vs=[.ref a]/\dX K H1 a xs/\R (UB K a) H1
section
variable{X:Cx}{e1:acu}{p0 p1 p2 pos:Pos}{f:Qm.XA}{es:List acu}{k0:Nat}
theorem LR{t:TA}(hg:Gl X "enumerate")(hm:X.mg "enumerate" =ae)(ha:PA X [e1] t)(nP:aa9 [e1] X.env=(false,ahx e1 X.env)::aa9 [] X.env:=by rfl)(jZ:(ahJ p2 (aa9 [] X.env)).any (·.1)=false:=by rfl):
  PI X (.Tuple es k0 p0) (.Call (.Name "enumerate" p1) [e1] [] p2) (Pd X.K t):=by
 intro pins s σ H R I h;refine ag4 (oA I hg hm (u:=.type "enumerate") (by decide +kernel) ?_);refine agL (cF (ha p2 pins s σ H _ I h) λus s1 cg=>?_) nP jZ;obtain⟨vs,H1,I1,r1,q1⟩:=cg;obtain⟨a,xs,rfl,ha1,q⟩:=q1;obtain⟨u1,rfl,ra⟩:=vals1 r1;cases (show u1=abm a from ra);obtain⟨ia,va,p,za⟩:=I1.list ha1;refine call_enumerate_list p.isList λh2 he hit sz up=>?_
 refine wpAny_pyIter_enum he ?_;have I2:Inv X pins σ H1 { s1 with heap:=h2 }:=I1.kept (t':=s1.toks) up;have fr:∀c,s1.heap.objs.size<=c->kU X pins H1 c:=λc hc=>I1.CD hc (I1.bB.fresh hc)
 refine⟨_,_,_,UB X.K a,H1,rfl,I2,Fw _ _ a (show s1.heap.objs.size+1≠s1.heap.objs.size by omega),⟨⟨_,he⟩,hit⟩,λc hc=>?_,q⟩;rcases aaI.mp hc with rfl|hc
 .exact fr _ (Nat.le_add_right _ _)
 .have:c=s1.heap.objs.size:=by simpa using hc
  subst this;exact fr _ (aat _)
theorem Fx{xs:List Qm.D}{i:Nat}{d:Qm.D}(h:(Qm.kh xs)[i]? =aa d):∃x,xs[i]? =aa x/\d= .tup [.int i,x]:=by
 unfold Qm.kh at h;rw[aa6,akO]at h;cases q:xs[i]? with
 |none=>rw[q]at h;cases h
 |some x=>rw[q]at h;simp at h;exact⟨x,rfl,h.symm⟩
theorem LS(hg:Gl X "enumerate")(hm:X.mg "enumerate" =ae)(ha:QA X [e1] f)(nP:aa9 [e1] X.env=(false,ahx e1 X.env)::aa9 [] X.env:=by rfl)(jZ:(ahJ p2 (aa9 [] X.env)).any (·.1)=false:=by rfl):
  QI X (.Tuple es k0 p0) (.Call (.Name "enumerate" p1) [e1] [] p2) (Qm.BD f):=(LR hg hm ha nP jZ).imp <| by
 rintro σ H R ⟨ρ,env,c,m,c',rs,re,e,k⟩;obtain⟨p,ea,e⟩:=aJ e;refine⟨ρ,env,c,p.1,p.2,rs,re,ea,λaN vs H1 n1 r1=>?_⟩;split at e
 .rename_i n hp
  obtain⟨z,e2,e⟩:=aJ e;obtain⟨l,e3,e⟩:=aJ e;cases e;rw[hp]at r1;obtain⟨v,rfl,rx⟩:=r1.kr;obtain⟨hv,hn⟩:=rx.wH;subst hv;obtain⟨dn,iw,ws,_,h1,a1⟩:=n1.rs.cj (d:=.ref n) (.ref hn) (show Qm.cj (.ref n) p.2=aa (l.1,l.2)from e3);have hln:l.1=n:=by cases dn;rfl
  rw[hln]at iw h1;refine⟨_,ws,rfl,dX.of h1,k aN _ H1 n1 λi9 c2 H2 u2 Fq oE=>?_⟩;have hz:z= .lst l.2:=by rw[e2]at iw;exact abK iw
  obtain⟨us,h2,a2⟩:=Fq.lst (by rw[<-hz];exact oE (n,z) (by simp));rw[u2.agree n hn]at h2;have hl:(Qm.kh l.2).length=us.length:=by rw[<-a2.length];simp[Qm.kh]
  refine⟨λi hi=>?_,⟨us,dX.of h2,by show us.length<=(Qm.kh l.2).length;omega⟩,λi d x H' hd hy=>?_⟩
  .dsimp only at hi
   have h3:i<us.length:=by omega
   exact⟨us,us[i],dX.of h2,aav h3⟩
  .obtain⟨T,rfl,hT,hy⟩:=hy
   obtain⟨x',h3,rfl⟩:=hy us (dX.of h2);obtain⟨dx,g1,rfl⟩:=Fx hd;obtain⟨v1,q1,r1⟩:=a2.get g1;rw[h3]at q1;cases q1;have n:=Nx.same Fq (nU (z:=.tup [.int i,x']) hT);exact⟨n,.tup bH (.cons (.int _) (.cons (r1.up n.up) .nil))⟩
 .cases e
end
end L2
namespace L2
open PySem PySem.Spec PyProof.Rows
section
variable{X:Cx}{pins:List (Addr×Obj)}{σ:St}{H:Hp}{s:aaj}{h':Heap}
end
section
variable{X:Cx}{tg l:acu}{tl:TE}
end
section
variable{K:aaa}{ρ aZ:Nat->Addr}{N:Nat}{c c':Qm.Cells}{H H':Hp}
theorem RK.at_:∀{ps:List (Str×Qm.D)}{us:List (Key×V)},RK K ρ N H ps us->∀{i:Nat}{p:Str×Qm.D},ps[i]? =aa p->∃kv,us[i]? =aa kv/\kv.1= .inr p.1
 |_,_,.nil,i,p,h=>by simp at h
 |_,_,.cons (k:=k') _ a,0,p,h=>by simp at h;subst h;exact⟨_,rfl,rfl⟩
 |_,_,.cons _ a,i+1,p,h=>by
  obtain⟨kv,h1,h2⟩:=RK.at_ a (i:=i) (p:=p) (by simpa using h);exact⟨kv,by simpa using h1,h2⟩
end
section
variable{X:Cx}{e a b tg:acu}{fe fa fb:Qm.XE}{pos:Pos}
end
end L2
namespace L2
open PySem PySem.Spec PyProof.Rows
inductive Dj(H:Hp):V->String->Prop where
 |bl (x:Bool):Dj H (.bl x) "bool"
 |int (i:Int):Dj H (.int i) "int"
 |str (x:Str):Dj H (.str x) "str"
 |lst {a:Addr}{xs:List V} (e:H a=aa (.lst xs)):Dj H (.ref a) "list"
 |tup {a:Addr}{xs:List V} (e:H a=aa (.tup xs)):Dj H (.ref a) "tuple"
section
variable{X:Cx}{pins:List (Addr×Obj)}{σ:St}{H:Hp}{s:aaj}
theorem LU{x:V}{u:Value}{T:String}(I:Inv X pins σ H s)(rx:RelV x u)(ty:Dj H x T):∃Hh:Heap->Prop,PySem.W.KitX X.K u (.type T) Hh/\Hh s.heap/\u≠.builtin "__main__.__loader__#opaque":=by
 cases ty with
 |bl y=>cases (show u=ai1 y from rx);exact⟨_,alU,agA,λz=>nomatch z⟩
 |int i=>obtain⟨t,q⟩:=(show ∃t,u=ah4 i t from rx);cases q;exact⟨_,amh,agA,λz=>nomatch z⟩
 |str y=>obtain⟨t,q⟩:=(show ∃t,u=ag0 y t from rx);cases q;exact⟨_,ami,agA,λz=>nomatch z⟩
 |@lst a xs ea=>
  cases (show u=abm a from rx);obtain⟨_,_,n,_,h1⟩:=(show cH X.prog X.w H s.heap a (.lst xs)from I.bB a _ ea);exact⟨_,ajG,⟨_,h1,rfl⟩,λz=>nomatch z⟩
 |@tup a xs ea=>
  cases (show u=abm a from rx);obtain⟨_,_,_,p⟩:=(show cH X.prog X.w H s.heap a (.tup xs)from I.bB a _ ea);obtain⟨o,h1,h2,_⟩:=p;exact⟨_,alI,⟨o,h1,h2⟩,λz=>nomatch z⟩
theorem LV(K:aaa):∀t∈["int","bool","tuple","list","str"],∀n∈["int","bool","tuple","list","str"],ads K (.type t) (.type n)=aa (t==n||(t=="bool"&&n=="int")):=by
 intro t ht n hn;simp only[aaI,abl,or_false]at ht hn;rcases ht with rfl|rfl|rfl|rfl|rfl<;>rcases hn with rfl|rfl|rfl|rfl|rfl<;>with_unfolding_all rfl
def R6(K:aaa):List V->Hp->VK->Prop:=λxs H Q=>∃x T,Dj H x T/\((∃n k,xs=[x,.ty n]/\ads K (.type T) (.type n)=aa k/\Q (.bl k) H)\/
 ∃p a b k l,xs=[x,.ref p]/\H p=aa (.tup [.ty a,.ty b])/\ads K (.type T) (.type a)=aa k/\ads K (.type T) (.type b)=aa l/\Q (.bl (k||l)) H)
theorem Ax:fV X (.builtin "isinstance") (R6 X.K):=by
 intro pins s σ H xs us Q I r h;obtain⟨x,T,ty,h⟩:=h;rcases h with⟨n,k,rfl,e,q⟩|⟨p,a,b,k,l,rfl,hp,e1,e2,q⟩
 .obtain⟨u,w',rfl,rx,rc⟩:=vals2 r
  cases (show w'=ahP n from rc);obtain⟨Hh,kx,hh,hx⟩:=LU I rx ty;exact ags kx I.fP hh e hx λtk=>⟨.bl k,H,I.tok tk,rfl,q⟩
 .obtain⟨u,w',rfl,rx,rc⟩:=vals2 r
  cases (show w'=abm p from rc);obtain⟨Hh,kx,hh,hx⟩:=LU I rx ty;obtain⟨_,its,vi,ot⟩:=(show cH X.prog X.w H s.heap p (.tup [.ty a,.ty b])from I.bB p _ hp);obtain⟨u1,u2,rfl,r1,r2⟩:=vals2 vi;cases (show u1=ahP a from r1);cases (show u2=ahP b from r2);obtain⟨⟨c,dd,dt,sl⟩,h1,h2,n,h3⟩:=ot
  replace h2:c= .type "tuple":=h2
  replace h3:dt= .seq ([ahP a,ahP b]:List Value).toArray n:=h3
  subst h2 h3;have e:akZ X.K (.type T) [.type a,.type b]=aa (k||l):=by
   unfold akZ;rw[e1];cases k with
   |true=>rfl
   |false=>
    dsimp only
    unfold akZ;rw[e2];cases l<;>rfl
  exact PySem.W.kia_tup kx I.fP hh h1 e hx λtk=>⟨.bl (k||l),H,I.tok tk,rfl,q⟩
theorem Dk{K:aaa}{ρ:Nat->Addr}{c:Qm.Cells}{H:Hp}{x:Qm.D}{v:V}{t:String}(rs:RS K ρ c H)(r:RD K ρ c.length H x v)(e:Qm.mU x c=aa t):Dj H v t/\t∈["int","bool","tuple","list","str"]:=by
 unfold Qm.mU at e;split at e
 .cases e;cases r.gr;exact⟨.int _,by simp⟩
 .cases e;cases r.kZ;exact⟨.bl _,by simp⟩
 .cases e;obtain⟨p,ws,rfl,g,_⟩:=r.uE;exact⟨.tup g,by simp⟩
 .cases e;cases r.gK;exact⟨.str _,by simp⟩
 .obtain⟨rfl,_⟩:=r.wH
  split at e
  .rename_i ws hw
   cases e;obtain⟨us,g,_⟩:=rs.lst hw;exact⟨.lst g,by simp⟩
  .cases e
 .cases e
theorem yH{K:aaa}{t n:String}{k:Bool}(ht:t∈["int","bool","tuple","list","str"])(e:Qm.lg t n=aa k):ads K (.type t) (.type n)=aa k:=by
 unfold Qm.lg at e;split at e
 .rename_i hn
  cases e;exact LV K t ht n hn
 .cases e
theorem Hl{K:aaa}:qe K (R6 K) Qm.lh:=by
 intro ρ c H ds d c' vs Q rs ra e k;obtain⟨x,y,rfl,e'⟩:=xB e;obtain⟨v,u,rfl,rx,ry⟩:=ra.uD;split at e'
 .rename_i n
  obtain⟨t,e1,e'⟩:=aJ e';obtain⟨b,e2,e'⟩:=aJ e';cases e';have hu:u= .ty n:=by cases ry;rfl
  subst hu;obtain⟨ty,ht⟩:=Dk rs rx e1;exact⟨v,t,ty,.inl ⟨n,b,rfl,yH ht e2,k ρ _ H (Nx.refl rs) (.bl _)⟩⟩
 .rename_i n1 n2
  obtain⟨t,e1,e'⟩:=aJ e';obtain⟨b1,e2,e'⟩:=aJ e';obtain⟨b2,e3,e'⟩:=aJ e';cases e';obtain⟨p,ws,rfl,g,a⟩:=ry.uE;obtain⟨w1,w2,rfl,r1,r2⟩:=a.uD;have h1:w1= .ty n1:=by cases r1;rfl
  have h2:w2= .ty n2:=by cases r2;rfl
  subst h1 h2;obtain⟨ty,ht⟩:=Dk rs rx e1;exact⟨v,t,ty,.inr ⟨p,n1,n2,b1,b2,rfl,g,yH ht e2,yH ht e3,k ρ _ H (Nx.refl rs) (.bl _)⟩⟩
 .cases e'
end
end L2
namespace Qm
open PySem
noncomputable section
end
end Qm
namespace Qm
open PySem
noncomputable section
end
end Qm
namespace L2
open PySem PySem.Spec PyProof.Rows
section
variable{X:Cx}
end
section
variable{K:aaa}{ρ:Nat->Addr}{c:Qm.Cells}{H:Hp}
end
end L2
namespace PySem
open Sem (wp)
open AutoSeq1 (wpAny_loadPart')
open MeetsSeq MeetsSeq2 MeetsSeq3 SeqRoads2
section
variable{P:Program}{W:abZ}
variable{A:abL}{E:Value->aaj->Prop}{s:aaj}
end
end PySem
namespace L2
open PySem PySem.Spec PyProof.Rows
section
variable{X:Cx}
end
section
variable{K:aaa}{ρ:Nat->Addr}{c:Qm.Cells}{H:Hp}
end
end L2
namespace Qm
open PySem
noncomputable section
end
end Qm
namespace PySem
open Sem (wp)
section
variable{prog:Program}{w:abZ}{A:abL}{E:Value->aaj->Prop}{s:aaj}{I:Addr}{fp wr:List Addr}{G:Array aiB->Array aiB->Prop}{n:Nat}{P:Nat->Value->Prop}{St:Nat->aaj->Prop}
end
end PySem
namespace L2
open PySem PySem.Spec PyProof.Rows
section
variable{X:Cx}
end
end L2
namespace L2
open PySem PySem.Spec PyProof.Rows
section
variable{X:Cx}{e1 e2:acu}{p0 p1 p2 pos:Pos}{f:Qm.XA}{es:List acu}{k0:Nat}
end
end L2
namespace PySem
open Sem (wp)
open AutoSeq1 (wpAny_loadPart')
open MeetsSeq MeetsSeq2 MeetsSeq3 SeqRoads2
section
variable{P:Program}{W:abZ}
end
end PySem
namespace L2
open PySem PySem.Spec PyProof.Rows
section
variable{X:Cx}
end
end L2
namespace Qm
open PySem
noncomputable section
def agV(tab:List (Nat×FN))(f:XE)(a:XA):XE:=λσ c=>(f σ c).bind λp=>match p.1 with
 |.adr x=>(tab.lookup x).bind λF=>(a σ p.2).bind λq=>F q.1 q.2
 |_=>ae
def Fy:XE:=λ_ _=>ae
end
end Qm
namespace L2
open PySem PySem.Spec PyProof.Rows
section
variable{X:Cx}{e:acu}{es:List acu}{x:Str}{p pos:Pos}{fx:Qm.XA}{fe:Qm.XE}
theorem LW:QE X e Qm.Fy:=λ_ _ _ _ _ _ ⟨_,_,_,_,_,_,_,h,_⟩=>by cases h
end
section
variable{X:Cx}{tg:acu}
end
end L2
namespace Qm
open PySem
noncomputable section
def k1(d:D):Option (List Int):=match d with
 |.tup xs=>nums xs
 |_=>ae
def k2(d:D):Option (List (List Int)):=match d with
 |.tup xs=>omap k1 xs
 |_=>ae
section
variable{κ α:Type}[DecidableEq κ]
end
end
end Qm
namespace L2
open PySem PySem.Spec PyProof.Rows
abbrev fk1(k:List Int):List Key:=k.map ajz
abbrev fk2(k:List (List Int)):List (List Key):=k.map (List.map ajz)
section
variable{K:aaa}{ρ aZ:Nat->Addr}{N N':Nat}{H H':Hp}
theorem uF.length:∀{ps:List (List Int×Qm.D)}{us:List (List Key×V)},uF K ρ N H ps us->ps.length=us.length
 |_,_,.nil=>rfl
 |_,_,.cons _ a=>congrArg (·+1) (uF.length a)
theorem uF.at_:∀{ps:List (List Int×Qm.D)}{us:List (List Key×V)}{i:Nat}{p:List Int×Qm.D},uF K ρ N H ps us->ps[i]? =aa p->∃v,us[i]? =aa (fk1 p.1,v)/\RD K ρ N H p.2 v
 |_,_,_,_,.nil,e=>by simp at e
 |_,_,0,_,.cons h _,e=>by simp at e;subst e;exact⟨_,rfl,h⟩
 |_,_,i+1,p,.cons _ a,e=>by
  obtain⟨v,h1,h2⟩:=uF.at_ (i:=i) (p:=p) a (by simpa using e);exact⟨v,by simpa using h1,h2⟩
end
section
variable{K:aaa}{ρ aZ:Nat->Addr}{N N':Nat}{H H':Hp}
theorem tu.length:∀{ps:List (List (List Int)×Qm.D)}{us:List (List (List Key)×V)},tu K ρ N H ps us->ps.length=us.length
 |_,_,.nil=>rfl
 |_,_,.cons _ a=>congrArg (·+1) (tu.length a)
theorem tu.at_:∀{ps:List (List (List Int)×Qm.D)}{us:List (List (List Key)×V)}{i:Nat}{p:List (List Int)×Qm.D},tu K ρ N H ps us->ps[i]? =aa p->∃v,us[i]? =aa (fk2 p.1,v)/\RD K ρ N H p.2 v
 |_,_,_,_,.nil,e=>by simp at e
 |_,_,0,_,.cons h _,e=>by simp at e;subst e;exact⟨_,rfl,h⟩
 |_,_,i+1,p,.cons _ a,e=>by
  obtain⟨v,h1,h2⟩:=tu.at_ (i:=i) (p:=p) a (by simpa using e);exact⟨v,by simpa using h1,h2⟩
end
end L2
namespace L2
open PySem PySem.Spec PyProof.Rows
section
variable{K:aaa}{ρ:Nat->Addr}{N:Nat}{H:Hp}
end
section
variable{K:aaa}{ρ:Nat->Addr}{c:Qm.Cells}{H:Hp}
end
section
variable{X:Cx}{pos:Pos}
end
end L2
namespace L2
open PySem PySem.Spec PyProof.Rows
section
variable{P:Program}{w:abZ}{H:Hp}{h:Heap}{a:Addr}
abbrev KU(H:Hp)(aP:List (List (List Key)×V))(xs:List (List (List Key)×Addr×Value)):Prop:=ajo (λ(p:List (List Key)×V) (q:List (List Key)×Addr×Value)=>p.1=q.1/\Cv H p.1 q.2.1/\RelV p.2 q.2.2) aP xs
theorem KU.length{aP:List (List (List Key)×V)}{xs:List (List (List Key)×Addr×Value)}(r:KU H aP xs):aP.length=xs.length:=by
 induction r with
 |nil=>rfl
 |cons _ _ ih=>simp[ih]
theorem KT.len{aP:List (List Key×V)}{xs:List (List Key×Addr×Value)}(r:KT H aP xs):aP.length=xs.length:=by
 induction r with
 |nil=>rfl
 |cons _ _ ih=>simp[ih]
end
section
variable{X:Cx}
end
end L2
namespace PySem
section
variable{prog:Program}{w:abZ}{K:Type}[DecidableEq K]{knd:HeapKind prog w K}{A:abL}{E:Value->aaj->Prop}{s:aaj}
end
end PySem
namespace L2
open PySem PySem.Spec PyProof.Rows
section
variable{K:Type}[DecidableEq K]
end
section
variable{X:Cx}{o i e f:acu}{pos apos cY:Pos}{td ty tx:TE}
end
section
variable{X:Cx}{o i b:acu}{pos apos cY p0 p1 p2 lp:Pos}{fo fb:Qm.XE}
end
end L2
namespace L2
open PySem PySem.Spec PyProof.Rows
section
variable{X:Cx}{o:acu}{p0 pos apos cY:Pos}{td:TE}{fo:Qm.XE}
end
end L2
namespace PySem
set_option maxRecDepth 100000
end PySem
namespace L2
open PySem PySem.Spec PyProof.Rows
section
variable{X:Cx}{pins:List (Addr×Obj)}{σ:St}{H:Hp}{A:abL}{E:Value->aaj->Prop}
end
end L2
namespace L2
open PySem PySem.Spec PyProof.Rows
section
variable{X:Cx}
end
end L2
namespace PySem
set_option maxRecDepth 100000
section
variable{prog:Program}{w:abZ}{A:abL}{E:Value->aaj->Prop}{s:aaj}{z TI TO i1 i2:Addr}{f0 f1 x y a b:Value}
end
end PySem
namespace PySem
section
variable{prog:Program}{w:abZ}{A:abL}{E:Value->aaj->Prop}{s:aaj}{z TI TO:Addr}{f0 f1:Value}
end
end PySem
namespace L2
open PySem PySem.Spec PyProof.Rows
end L2
namespace PySem
section
variable{prog:Program}{w:abZ}{A:abL}{E:Value->aaj->Prop}{s:aaj}
end
end PySem
namespace L2
open PySem PySem.Spec PyProof.Rows
section
variable{X:Cx}{e1 e2 tg:acu}{p1 p2:Pos}{f:Qm.XA}
end
end L2
namespace L2
open PySem PySem.Spec PyProof.Rows
section
variable{X:Cx}{e1 e2 tg:acu}{p1 p2:Pos}{f:Qm.XA}
end
end L2
namespace Qm
open PySem
noncomputable section
end
end Qm
namespace Qm
open PySem
noncomputable section
end
end Qm
namespace PySem
open Sem (wp)
section
variable{prog:Program}{w:abZ}{A:abL}{E:Value->aaj->Prop}{s:aaj}
end
end PySem
namespace L2
open PySem PySem.Spec PyProof.Rows
section
variable{X:Cx}
end
end L2
namespace L2
open PySem PySem.Spec PyProof.Rows
end L2
namespace PySem
open Sem (wp)
open AutoSeq1 (wpAny_loadPart')
end PySem
namespace L2
open PySem PySem.Spec PyProof.Rows
section
variable{X:Cx}
end
end L2
namespace Qm
open PySem
noncomputable section
end
end Qm
namespace L2
open PySem PySem.Spec PyProof.Rows
theorem RA.erase{K:aaa}{ρ:Nat->Addr}{N:Nat}{H:Hp}:∀{ds:List Qm.D}{vs:List V} (n:Nat),RA K ρ N H ds vs->RA K ρ N H (ds.eraseIdx n) (vs.eraseIdx n)
 |_,_,_,.nil=>.nil
 |_,_,0,.cons _ b=>b
 |_,_,n+1,.cons a b=>.cons a (b.erase n)
section
variable{X:Cx}
end
end L2
namespace Qm
open PySem
def Dl(C S:Nat)(fs:List Str)(a:XA):XE:=λσ c=>(a σ c).bind λp=>if p.1.length=fs.length then aa (.ref p.2.length,p.2++[.exc C S (fs.zip p.1)])else ae
def Hm(f:Str):D->Cells->Option (D×Cells)
 |.ref n,c=>(match c[n]? with
  |some (.exc _ _ fs)=>(fs.lookup f).map λd=>(d,c)
  |_=>ae)
 |_,_=>ae
def IS(f:Str)(a:XE):XE:=λσ c=>(a σ c).bind λp=>Hm f p.1 p.2
def j7(C':Nat):FN:=λds c=>match ds with
 |[.ref n,.adr a]=>(match c[n]? with
  |some (.exc C S _)=>if a=C' then aa (.bl (decide (C'=C)||decide (C'=S)),c)else ae
  |_=>ae)
 |_=>ae
def Dm:FN:=λds c=>match ds with
 |[.ref n,.ty t]=>(match c[n]? with
  |some (.exc _ _ _)=>if t= "ValueError" then aa (.bl true,c)else ae
  |_=>ae)
 |_=>ae
end Qm
namespace Qm
open PySem
def strsOf:List D->Option (List Str)
 |[]=>aa []
 |.str x::ds=>(strsOf ds).map (x::·)
 |_::_=>ae
def tE(sep:Str)(a:XE):XE:=λσ c=>(a σ c).bind λp=>(cj p.1 p.2).bind λl=>(strsOf l.2).bind λxs=>if (xs.map (·.length)).sum+xs.length*sep.length<=1000000 then aa (.str (akc sep xs),p.2)else ae
end Qm
namespace PySem
open Sem (wp)
section
variable{prog:Program}{w:abZ}{A:abL}{E:Value->aaj->Prop}{h:Heap}{g:Array aiB}{d:Drawn}{t:Nat}{os:OsState}
variable{nm q:Str}{C N:Addr}{bs bm bmB:List Value}{hdct:Bool}{sn:List Str}{sub:List Value}{ab:Bool}{col:Option Bool}{dd:Option Addr}{k0 k1 k2 k3 k5:Option Value}{B newId Pe:String}
abbrev LX(h:Heap)(C:Addr)(rest:List Value):Heap:=
 (h.push ⟨.type "tuple",ae,.seq rest.toArray 0,#[]⟩).push ⟨.ref C,ae,.fields #[.ref h.objs.size,.none,.none,.none,.bool false,.none],#[]⟩
theorem yI(h:Heap)(C:Addr)(rest:List Value):amQ h (LX h C rest) (h.objs.size+1) (.ref C) rest:=
 ⟨λ_ _ e=>aap _ (aap _ e),ahZ (amJ _),h.objs.size,by heap_get,ahZ (aat _),aap _ (al3 rfl rfl)⟩
theorem LY(F:ExcBaseFacts B newId Pe bmB)(T:OwnTail h bmB bm){mN:Str->Option Value}{rest:List Value}{fI:Addr}{oI:Obj}{Q:Value->aaj->Prop}(hC:h.get? C=aa (amK nm q C N bs bm hdct sn sub ab col dd k0 k1 k2 k3 k5 newId))
  (hn:h.Ns N mN)(hi:mN "__init__" =aa (.ref fI))(hfI:h.get? fI=aa oI)(hfc:oI.cls= .type "function")
  (hq:∀h' e,amQ h h' e (.ref C) rest->abo (abu prog w) (A.under (.builtin "type.__call__" ⟨.ref C::rest,[]⟩)) (call (.ref fI) (.ref e::rest)) (λr s'=>r= .none/\Q (.ref e) s') E ⟨h',g,d,t,os⟩)(UC:rest.length<=sizeLine):
  abo (abu prog w) A (call (.ref C) rest) Q E ⟨h,g,d,t,os⟩:=by
 have made:=yI h C rest;have keep:=made.1;obtain⟨-,-,_,own,-,-⟩:=made;have qF:=keep _ _ hC;have in1:(abm C::bm).contains (.ref C)=true:=aju.trans (by simp);have ini:∀{B:abL},abo (abu prog w) B (call (.ref fI) (.ref (h.objs.size+1)::rest)) (λr s'=>r= .none/\Q (.ref (h.objs.size+1)) s') E ⟨LX h C rest,g,d,t,os⟩->
   abo (abu prog w) B (amW.«type.__call__» ⟨.ref C::rest,[]⟩) (λfin s'=>∃v,fin= .done (.ret v)/\Q v s') E ⟨h,g,d,t,os⟩:=by
  intro B run
  repeat (first|(with_reducible refine wpAny_madeBy_exc hC ?_)|(with_reducible refine ahT hC ?_)|wp_step)
  refine codeAny_call_builtin_code (alN _ F.quiet) (wpAny_check_new_subT F T hC (codeAny_exc_new_subT F T hC ?_ UC));unfold ai0;show abo _ _ _ _ _ ⟨LX h C rest,g,d,t,os⟩
  repeat (first|(with_reducible refine ak8 qF ?_;rw[in1])|(with_reducible refine ahT own ?_)|wp_step)
  refine wpAny_typeLookup_tail qF (hn.keeps keep) (T.keeps keep) F.mroIs F.init.lookup ?_;rw[hi];refine agG (aab (aab (aiF (T:="function") ⟨_,keep _ _ hfI,hfc⟩ ?_)));rw[if_pos (by decide)];refine aas (aab (acd run ?_ λ_ _ z=>z));rintro _ _ ⟨rfl,z⟩
  wp_walk
  exact⟨_,rfl,z⟩
 have tyC:(⟨h,g,d,t,os⟩:aaj).TypeIs (.ref C) "type":=⟨_,hC,rfl⟩;have lk:=tc_lookup;have bd:=tc_bind (.ref C);refine aiu (codeAny_of_tree (show abo _ _ (callAny (.ref C) _) _ _ _ from ?_))
 repeat (any_goals (first|(with_reducible refine ahT hC ?_)|wp_step|assumption))
 exact⟨rfl,codeAny_call_builtin_at (alN _ (by decide +kernel)) entry_typeCall (wpAny_check_type_call_sub hC (acd (ini (hq _ _ (yI h C rest))) (λ_ _ ⟨_,e,z⟩=>by rw[e];exact z) λ_ _ z=>z))⟩
end
end PySem
namespace L2
open PySem PySem.W PySem.Spec PyProof.Rows PySem.Builtin PySem.Builtin.ObjectAttr
section
variable{prog:Program}{w:abZ}{A:abL}{E:Value->aaj->Prop}{s:aaj}{K:Frag}{x C S:Addr}{ox:Obj}{od:Option Obj}{name:Str}{v:Value}{cd:ag8}{R:amc->aaj->Prop}
theorem lj(hc:clsIn K C=aa cd)(hm:cd.mro= .ref C::.ref S::vE){y:Value}:mroIn K C y=aa ((abm C::.ref S::vE).contains y):=by
 unfold mroIn;rw[hc,Zu,hm,if_neg (by simp)]
variable{tk:Tok}
theorem aau(X:K.In s.heap)(I:InstAt s.heap x ox C od)(hc:clsIn K C=aa cd)(hm:cd.mro= .ref C::.ref S::vE)(hn:findIn K (.ref C) name=aa ae)
  (q:abo (abu prog w) A.in1 (storeInOwnDict (.ref x) (.ref C) (.str name tk) name v false) (λfin s'=>match fin with|.done f=>R (.ok f) s'|.again c'=>c'.quiet=true/\ai9 (abu prog w) A c' R s') (λe s'=>R (.error e) s') s):
  ai9 (abu prog w) A (.call (.builtin "object.__setattr__") ⟨[.ref x,.str name tk,v],[]⟩) R s:=by
 have V:=PySem.F.store_ValueError;have e1:mroIn K C (.type "object")=aa true:=by rw[lj hc hm];rfl
 have is:Looks (abu prog w) s.heap (ai0 (.ref x) (.type "object")) true:=I.type.andThen (looks_mroIn X e1);have row:Looks (abu prog w) s.heap (mroOf (.ref C)) cd.mro:=(looks_clsIn X hc).andThen .now;rw[hm]at row;refine ah1 V.slot.plain V.entry (check_slot (M:=abu prog w) (s:=s) (i:="object.__setattr__") (owner:="object") (n:="__setattr__") (self:=.ref x) (rest:=[.str name tk,v]) (kw:=[]) V.kind V.split is (V.args (.ref x) (.str name tk) v) ?_);rw[osa_eq,refuse_eq];refine aab (aab (I.type.here (aab (row.here ?_))));rw[refuseLoop_ref,refuseLoop_ref,V.passes];refine aas (aab (I.type.here (aab ((looks_findIn X hn).here (aab ?_)))));exact aas q
variable{Q:Fin->aaj->Prop}
theorem UD{ns:List Str}{m:Str->Option Value}{d:Addr}(Iw:s.heap.Ns1 d m)(hw:Within m ns)(hz:ns.length<100)
  (q:∀h' k,ahH d s.heap h'->h'.Ns1 d (λy=>if y=name then aa v else m y)->Q (.done (.ret .none)) { s with heap:=h',toks:=k }):abo (abu prog w) A (storeInDict d (.str name tk) name v) Q E s:=by
 unfold storeInDict newKeyGuard;refine aab (aas (aab (wpAny_nsSet1 Iw λh' xU hs=>?_)));obtain⟨oD,eD,pD,hoD,hdD,hcD⟩:=xU.count (Within.cons name v hw);refine aab (wpAny_lookBehind hoD (by rw[hdD];exact pastItsLine_dict (ab2 hcD (by rw[aac,adt];omega))) ?_);exact aas (q _ _ hs xU)
theorem Pf{vs:Array Value}{sl:Array (Option Value)}(X:K.In s.heap)(hx:s.heap.get? x=aa ⟨.ref C,ae,.fields vs,sl⟩)(hc:clsIn K C=aa cd)(hd:cd.hasDict=true)
  (q:∀h' k,h'.get? x=aa ⟨.ref C,aa s.heap.objs.size,.fields vs,sl⟩->h'.Ns1 s.heap.objs.size (λy=>if y=name then aa v else ae)->(∀b o,b≠x->s.heap.get? b=aa o->h'.get? b=aa o)->Q (.done (.ret .none)) { s with heap:=h',toks:=k }):
  abo (abu prog w) A (storeInOwnDict (.ref x) (.ref C) (.str name tk) name v false) Q E s:=by
 have lx:x≠s.heap.objs.size:=abA (aaK hx);have hx1:(s.heap.push { cls:=.type "dict",data:=.dict #[] }).get? x=aa ⟨.ref C,ae,.fields vs,sl⟩:=aap _ hx;refine aab (aas (aab (aab (ak0 hx (aab ((looks_clsIn X hc).here ?_))))));rw[hd];show abo _ _ (alloc _ >>= _) _ _ _;refine aab (wpAny_alloc' (aab (wpAny_update' hx1 ?_)));have gd:((s.heap.push { cls:=.type "dict",data:=.dict #[] }).update x λo=>{ cls:=o.cls,dict:=aa s.heap.objs.size,data:=o.data,slots:=o.slots }).get? s.heap.objs.size=aa { cls:=.type "dict",data:=.dict #[] }:=
  (ak9 _ _ _ _ lx.symm).trans (al3 rfl rfl)
 have gx:((s.heap.push { cls:=.type "dict",data:=.dict #[] }).update x λo=>{ cls:=o.cls,dict:=aa s.heap.objs.size,data:=o.data,slots:=o.slots }).get? x=aa ⟨.ref C,aa s.heap.objs.size,.fields vs,sl⟩:=ahl _ hx1 rfl;have nd:((s.heap.push { cls:=.type "dict",data:=.dict #[] }).update x λo=>{ cls:=o.cls,dict:=aa s.heap.objs.size,data:=o.data,slots:=o.slots }).Ns s.heap.objs.size (λ_=>ae):=⟨_,#[],_,gd,rfl,λe he=>absurd he (by simp),λ_=>rfl⟩;refine aas (a:=aa s.heap.objs.size) (UD (ns:=[]) (.of_empty nd) Within.nil (by decide) λh' k sb hn=>q h' k ?_ hn λb o hb hg=>?_)
 .exact(sb.2 x lx).trans gx
 .exact(sb.2 b (abA (aaK hg))).trans ((ak9 _ _ _ _ hb).trans (aap _ hg))
end
end L2
namespace L2
open PySem PySem.W PySem.Spec PyProof.Rows PySem.Builtin PySem.Builtin.ObjectAttr
section
variable{prog:Program}{w:abZ}{A:abL}{E:Value->aaj->Prop}{s:aaj}{K:Frag}{x C S:Addr}{ox:Obj}{od:Option Obj}{name:Str}{v:Value}{cd:ag8}{R:amc->aaj->Prop}
theorem aaw{tk:Tok}(X:K.In s.heap)(I:InstAt s.heap x ox C od)(hc:clsIn K C=aa cd)(hm:cd.mro= .ref C::.ref S::vE)(hf:findObj K C od name=aa (.value v))(q:R (.ok (.ret v)) s):
  ai9 (abu prog w) A (.call (.builtin "BaseException.__getattribute__") ⟨[.ref x,.str name tk],[]⟩) R s:=by
 have V:=ahN;have e1:mroIn K C (.type "BaseException")=aa true:=by rw[lj hc hm];rfl
 have is:Looks (abu prog w) s.heap (ai0 (.ref x) (.type "BaseException")) true:=I.type.andThen (looks_mroIn X e1);refine ah1 V.ga.plain akC (check_slot (M:=abu prog w) (s:=s) (i:="BaseException.__getattribute__") (owner:="BaseException") (n:="__getattribute__") (self:=.ref x) (rest:=[.str name tk]) (kw:=[]) (by decide +kernel) (by decide +kernel) is (akP (.ref x) (.str name tk)) ?_);refine aab (aas (a:=(abm x,[ag0 name tk])) (aab (aas (a:=name) (aab (I.type.here (aab ((looks_find X I hf).here ?_)))))));exact aas q
theorem UE{ex:Bool}{Q:Value->aaj->Prop}(X:K.In s.heap)(I:InstAt s.heap x ox C od)(hc:clsIn K C=aa cd)(hm:cd.mro= .ref C::.ref S::vE)(hf:findObj K C od name=aa (.value v))(hv:handedIn v=true)
  (hga:findIn K (.ref C) "__getattribute__" =aa (aa (.builtin "BaseException.__getattribute__")))(hg:findIn K (.ref C) "__getattr__" =aa ae)(q:∀k,Q v { s with toks:=k }):
  abo (abu prog w) A (getAttr (.ref x) name ex) Q E s:=by
 have V:=ahN;have ne:(onTheHeap (abm C)&&ag9 "BaseException.__getattribute__"==ag9 "object.__getattribute__")=false:=by rw[show(ag9 "BaseException.__getattribute__"==ag9 "object.__getattribute__")=false by decide +kernel,akX]
 have ne2:(ex&&onTheHeap (ag9 "BaseException.__getattribute__"))=false:=by cases ex<;>rfl
 have X1:K.In ({ s with toks:=s.toks+1 }:aaj).heap:=X;have I1:InstAt ({ s with toks:=s.toks+1 }:aaj).heap x ox C od:=I;unfold getAttr getAttrBy;refine aab (wpAny_mkText (agG (aab (I1.type.here (aab ((looks_findIn X1 hga).here ?_))))));dsimp only
 rw[if_neg (by rw[ne];decide)];unfold getAttrByItsOwn;refine aab ((looks_findIn X1 hg).here ?_);refine aab (alO (agG ?_));unfold callGetattribute;rw[if_neg (by rw[ne2];decide)];unfold boundAndCalled;rw[V.ga.bind];refine aab (aas (aiu (aaw X1 I1 hc hm hf ?_)));show abo _ _ (handedOut v) _ _ _;rw[handedOut_of hv];exact aas (q _)
end
end L2
namespace L2
open PySem PySem.W PySem.Spec PyProof.Rows PySem.Builtin PySem.Builtin.ObjectAttr
section
variable{prog:Program}{w:abZ}{A:abL}{E:Value->aaj->Prop}{s:aaj}{K:Frag}{x C S:Addr}{ox:Obj}{od:Option Obj}{v:Value}{cd:ag8}{R:amc->aaj->Prop}
theorem XK0.isType(c:XK0 K C S cd){M:amY}{h:Heap}(X:K.In h):Looks M h (aiJ (.ref C)) true:=by
 have e:=c.cls;unfold clsIn at e;split at e
 .rename_i ho
  intro A' Q' E' s' k q;unfold aiJ loadHead;exact aab (ak0 (k _ _ (X _ _ ho)) (aas q))
 .cases e
theorem UG{Q:Option Value->aaj->Prop}(X:K.In s.heap)(I:InstAt s.heap x ox C od)(c:XK0 K C S cd)(q:∀k,Q (aa (.ref C)) { s with toks:=k }):abo (abu prog w) A (getAttr? (.ref x) "__class__") Q E s:=by
 have V:=ahN;have ne:(onTheHeap (abm C)&&ag9 "BaseException.__getattribute__"==ag9 "object.__getattribute__")=false:=by rw[show(ag9 "BaseException.__getattribute__"==ag9 "object.__getattribute__")=false by decide +kernel,akX]
 have X1:K.In ({ s with toks:=s.toks+1 }:aaj).heap:=X;have I1:InstAt ({ s with toks:=s.toks+1 }:aaj).heap x ox C od:=I;have e1:mroIn K C (.type "BaseException")=aa true:=by rw[lj c.cls c.mro];rfl
 have e2:mroIn K C (.type "object")=aa true:=by rw[lj c.cls c.mro];rfl
 have is:Looks (abu prog w) ({ s with toks:=s.toks+1 }:aaj).heap (ai0 (.ref x) (.type "BaseException")) true:=I1.type.andThen (looks_mroIn X1 e1);have hf:findObj K C od "__class__" =aa (.bind (.builtin "getset_descriptor.__get__") (.builtin "object.__class__")):=by
  have g1:specialIn K (.builtin "object.__class__") "__get__" =aa (aa (.builtin "getset_descriptor.__get__")):=by unfold specialIn;rfl
  have g2:takesIn K (.builtin "object.__class__")=aa true:=by unfold takesIn;rfl
  unfold findObj;rw[c.cls,Zu,c.cl,Zu];simp[g1,g2]
 unfold getAttr? getAttrBy? getAttrBy;refine aab (wpAny_mkText (aab (alO (agG (aab (I1.type.here (aab ((looks_findIn X1 c.ga).here ?_))))))));dsimp only
 rw[if_neg (by rw[ne];decide)];unfold getAttrByItsOwn;refine aab ((looks_findIn X1 c.gt).here ?_);refine aab (alO (agG ?_));unfold callGetattribute;rw[if_neg (by decide)];unfold boundAndCalled;rw[V.ga.bind];refine aab (aas (aiu ?_));refine ah1 V.ga.plain akC (check_slot (M:=abu prog w) (s:={ s with toks:=s.toks+1 }) (i:="BaseException.__getattribute__") (owner:="BaseException") (n:="__getattribute__") (self:=.ref x) (rest:=[.str "__class__" s.toks]) (kw:=[]) (by decide +kernel) (by decide +kernel) is (akP (.ref x) (.str "__class__" s.toks)) ?_);refine aab (aas (a:=(abm x,[ag0 "__class__" s.toks])) (aab (aas (a:=("__class__":Str)) (aab (I1.type.here (aab ((looks_find X1 I1 hf).here ?_)))))));refine aab (agG (aiu (class_get X1 I1 e2 ?_)));refine aas ?_;show abo _ _ (handedOut _) _ _ _;exact handed_on rfl (aas (q _))
theorem IT{c:Value}{b:Bool}{dep:Int}{tk:Tok}{Q:Fin->aaj->Prop}(X:K.In s.heap)(I:InstAt s.heap x ox C od)(xc:XK0 K C S cd)(vD:Looks (abu prog w) s.heap (amF c) (.type "type"))(UH:Looks (abu prog w) s.heap (aiJ c) true)
  (Hn:Looks (abu prog w) s.heap (isSubtype (.ref C) c) b)(hb:(abm C==c)=true->b=true)(q:∀k,Q (.done (.ret (.bool b))) { s with toks:=k }):abo (abu prog w) A (amW.«isinstance.nested» ⟨[.ref x,c,.int dep tk],[]⟩) Q E s:=by
 have q0:Q (.done (.ret (.bool b))) s:=q s.toks;unfold amW.«isinstance.nested»;refine aab (I.type.here ?_)
 by_cases e:(abm C==c)=true
 .rw[if_pos e]
  rw[hb e]at q0;exact aab (ajC (aab (aas (aas q0))))
 rw[if_neg e];refine aab (vD.here ?_);rw[if_pos (by decide)]
 k_delta "plainIsInstance"
 refine aab (aab (UH.here ?_));simp only[aha,abX,if_false];refine aab ((I.type.andThen Hn).here ?_);cases b with
 |true=>
  simp only[if_true]
  first
   |exact aas (aab (aas (aas q0)))
   |exact aas (aas q0)
 |false=>
  simp only[abX,if_false];refine aab (UG X I xc λk=>?_);refine aab ((xc.isType X).keeps (λ_ _ e=>e) _ _ _ _ (λ_ _ e=>e) ?_);simp only[aha,abX,if_false];refine aab (ajC ?_);refine Hn _ _ _ _ (λ_ _ e=>e) ?_
  first
   |exact aas (q k)
   |exact aas (aas (q k))
   |exact aab (aas (aas (q k)))
theorem Ay{c:Value}{b:Bool}{Q:Value->aaj->Prop}(X:K.In s.heap)(I:InstAt s.heap x ox C od)(xc:XK0 K C S cd)(vD:Looks (abu prog w) s.heap (amF c) (.type "type"))(UH:Looks (abu prog w) s.heap (aiJ c) true)
  (Hn:Looks (abu prog w) s.heap (isSubtype (.ref C) c) b)(hb:(abm C==c)=true->b=true)(q:∀k,Q (.bool b) { s with toks:=k }):abo (abu prog w) A (call (.builtin "isinstance") [.ref x,c]) Q E s:=
 call_isinstance_of (IT X I xc vD UH Hn hb λk=>q k) (by intro z;cases z)
end
end L2
namespace L2
open PySem PySem.W PySem.Spec PyProof.Rows
variable{P:Program}{h:Heap}{a:Addr}
theorem vO{w:abZ}{H:Hp}{o:Obj}(e:h.get? a=aa o):cH P w H h a (xm a o):=⟨e,⟨o,e⟩,λ_ _ e1 k=>k _ e1⟩
theorem UI{w:abZ}{H:Hp}{o:Obj}(e:h.get? a=aa o):cH P w H h a (xh a o):=⟨e,vO e⟩
def yJ(o:Obj)(m:Str->Option Value):Prop:=∃es ep,o.data= .dict es ep/\StrKeys es/\UniqKeys es/\∀name,nsFind es name=m name
variable{m:Str->Option Value}
theorem IU(n:h.Ns1 a m):∃o,h.get? a=aa o/\yJ o m:=by
 obtain⟨o,es,ep,e,h1,h2,h3,h4⟩:=n;exact⟨o,e,es,ep,h1,h2,h3,h4⟩
theorem yJ.look{o:Obj}{f:Str}{u:Value}(d:yJ o m)(e:m f=aa u):lookIn f o=aa (aa u):=by
 obtain⟨es,ep,h1,h2,h3,h4⟩:=d;have:=h4 f;rw[e]at this;unfold nsFind findBy at this;rw[<-ajr]at this;unfold lookIn;rw[h1];cases q:es.toList.find? (·.key.isStr f)with
 |none=>rw[q]at this;cases this
 |some en=>rw[q]at this;cases this;dsimp only;rw[q]
theorem cH.there{w:abZ}{H:Hp}{o:HO}(x:cH P w H h a o):∃z,h.get? a=aa z:=by
 cases o with
 |lst xs=>obtain⟨_,_,_,_,e⟩:=x;exact⟨_,e⟩
 |tup xs=>obtain⟨_,_,_,o,e,_⟩:=x;exact⟨_,e⟩
 |dK aP=>obtain⟨_,_,_,_,o,_,_,e,_⟩:=x;exact⟨_,e⟩
 |dT aP=>obtain⟨_,_,_,_,o,_,_,e,_⟩:=x;exact⟨_,e⟩
 |dU aP=>obtain⟨_,_,_,_,o,_,_,e,_⟩:=x;exact⟨_,e⟩
 |set S n=>obtain⟨o,_,_,_,e,_⟩:=x;exact⟨_,e⟩
 |ins C dx fs=>obtain⟨_,_,_,e,_⟩:=x;exact⟨_,e⟩
 |own y=>exact x
 |xd fs=>obtain⟨_,⟨_,_,_,e,_⟩,_⟩:=x;exact⟨_,e⟩
 |met f y=>exact⟨_,x⟩
 |eU lo hi=>obtain⟨_,_,_,e⟩:=x;exact⟨_,e⟩
 |iS ob u=>obtain⟨e,_⟩:=x;exact⟨_,e⟩
 |A_ ps=>exact⟨_,x⟩
 |ext φ=>exact x.2.1
section
variable{X:Cx}{pins:List (Addr×Obj)}{σ:St}{H:Hp}{s:aaj}{h':Heap}{a:Addr}{o o':Obj}{u:HO}{t':Nat}
theorem Inv.UJ(I:Inv X pins σ H s)(k:∀b u,s.heap.get? b=aa u->h'.get? b=aa u)(hn:s.heap.get? a=ae)(new:cH X.prog X.w (upd H a u) h' a u):Inv X pins σ (upd H a u) { s with heap:=h',toks:=t' }:=by
 have hH:H a=ae:=by
  cases q:H a with
  |none=>rfl
  |some y=>
   exfalso;obtain⟨z,hz⟩:=(I.bB a y q).there;rw[hn]at hz;cases hz
 refine I.un ⟨λb y q _ _ _=>k b y q,λb y q _ _ _=>⟨y.slots,k b y q⟩,λb y q n _=>?_,λb y q _=>⟨y,k b y q⟩,λb xs q=>?_,λb y xs q=>?_,λb ps q=>⟨#[],?_⟩⟩ λb y e=>?_
 .rw[aY (λz=>by rw[z,hn]at q;cases q)];exact n
 .rw[aY (cM q hH)];exact q
 .rw[aY (cM q hH)];exact q
 .rw[aY (cM q hH),q];simp
 .by_cases hb:b=a
  .subst hb;rw[bH]at e;cases e;exact new
  .rw[aY hb]at e
   exact(I.bB b y e).pR (λc v _ q=>k c v q) (λc q=>by rw[aY (cM q hH)];exact q) λc xs q=>by rw[aY (cM q hH)];exact q
theorem Inv.rewrite(I:Inv X pins σ H s)(e:H a=aa (xm a o))(k:∀b u,b≠a->s.heap.get? b=aa u->h'.get? b=aa u)(e':h'.get? a=aa o'):Inv X pins σ (upd H a (xm a o')) { s with heap:=h',toks:=t' }:=
 I.write (x:=a) (e:=a) (by rw[e];exact agA) (.inl rfl) k ⟨_,e'⟩ (vO e')
theorem Inv.freeze(I:Inv X pins σ H s)(e:H a=aa (xm a o)):Inv X pins σ (upd H a (xh a o)) s:=by
 have g:s.heap.get? a=aa o:=(show cH X.prog X.w H s.heap a (xm a o)from I.bB a _ e).1;exact I.write (x:=a) (e:=a) (h':=s.heap) (t':=s.toks) (by rw[e];exact agA) (.inl rfl) (λb u _ q=>q) ⟨_,g⟩ (UI g)
theorem Inv.Ho(I:Inv X pins σ H s)(e:H a=aa (xm a o)):s.heap.get? a=aa o:=(show cH X.prog X.w H s.heap a (xm a o)from I.bB a _ e).1
theorem Inv.R7(I:Inv X pins σ H s)(e:H a=aa (xh a o)):s.heap.get? a=aa o:=(show cH X.prog X.w H s.heap a (xh a o)from I.bB a _ e).1
end
end L2
namespace L2
open PySem PySem.W PySem.Spec PyProof.Rows
def aax(C:Addr)(f:Str)(i j:Nat):TS:=λD σ H=>∃v e vs sl,σ[j]? =aa (aa v)/\σ[i]? =aa (aa (.ref e))/\H e=aa (xm e (xo C ae vs sl))/\
 ∀dx od u,H dx=ae->dx≠e->RelV v u->yJ od (λy=>if y=f then aa u else ae)->D.nx σ (upd (upd H dx (xm dx od)) e (xm e (xo C (aa dx) vs sl)))
section
variable{X:Cx}{C S:Addr}{cd:ag8}{f:Str}{i j:Nat}{o value:acu}{pos pos':Pos}
theorem Pg(c:XK0 X.K C S cd)(hn:findIn X.K (.ref C) f=aa ae)(ho:PE X o (Cz i))(hv:PE X value (Cz j))(hs:aih value (aa (.Attribute o f pos')) pos.line X.env=pure false):PS X (.Assign [.Attribute o f pos'] value pos) (aax C f i j):=by
 intro pins s σ H D I h;obtain⟨v,e,vs,sl,e1,e2,eh,q⟩:=h;refine plainObj_wpAny_Assign_Attribute (cF (hv pins s σ H (λy H1=>y=v/\H1=H) I ⟨v,e1,rfl,rfl⟩) λu s1 z1=>?_) hs;obtain⟨y,H1,I1,ry,rfl,rfl⟩:=z1;refine cF (ho pins s1 σ H1 (λy H2=>y= .ref e/\H2=H1) I1 ⟨_,e2,rfl,rfl⟩) λov s2 z2=>?_
 obtain⟨y2,H2,I2,rx,rfl,rfl⟩:=z2;obtain rfl:ov=abm e:=rx;have g:=I2.Ho eh;have hI:InstAt s2.heap e (xo C ae vs sl) C ae:=⟨g,rfl,rfl,agA⟩;refine set_plain I2.fP hI c.sa (aau (s:={ s2 with toks:=s2.toks+1 }) I2.fP hI c.cls c.mro hn (Pf (s:={ s2 with toks:=s2.toks+1 }) I2.fP g c.cls c.lX λh' k gx nd kp=>?_));have kf:s2.heap.objs.size≠e:=aiE (aaK g);have hd:H2 s2.heap.objs.size=ae:=I2.bB.fresh (aat _);obtain⟨od,gd,ds⟩:=IU nd;have fr:od.isFreed=false:=(Heap.get?_some_iff.mp gd).2;have J:=I2.laid (a:=s2.heap.objs.size) (o:=xm s2.heap.objs.size od) (h':=s2.heap.push od) (t':=k) (λb u e=>aap _ e) (aat _) (vO (abx _ fr));have J2:=J.rewrite (a:=e) (o:=xo C ae vs sl) (o':=xo C (aa s2.heap.objs.size) vs sl) (h':=h') (t':=k) (by rw[aY kf.symm];exact eh) (λb u hb hg=>by
  rcases Heap.get?_push_cases hg with⟨rfl,rfl⟩|hg
  .exact gd
  .exact kp b u hb hg) gx
 exact⟨σ,_,J2,q _ od u hd kf ry ds⟩
end
end L2
namespace L2
open PySem PySem.W PySem.Spec PyProof.Rows
def gL(K:Frag)(C S:Addr)(fI:Option Addr)(fs:List Str):Bool:=match K.lookup C with
 |some ⟨.type "type",_,.cls cd,sl⟩=>(match sl.toList with
  |[_,_,_,_,aa (.builtin n),_]=>n=="ValueError.__new__"&&cd.mro==.ref C::.ref S::vE&&!cd.hasDel&&cd.hasDict&&nsOkIn K cd.ns&&nsIn K cd.ns "__init__"==aa (fI.map abm)&&tailIn K vE (.ref S::vE)
  |_=>false)&&typeIn K (.ref C)==aa (.type "type")&&findIn K (.ref C) "__setattr__"==aa (aa (.builtin "object.__setattr__"))&&findIn K (.ref C) "__getattribute__"==aa (aa (.builtin "BaseException.__getattribute__"))
   &&findIn K (.ref C) "__getattr__"==aa ae&&findIn K (.ref C) "__class__"==aa (aa (.builtin "object.__class__"))&&keepIn K (.ref C)&&fs.all (λf=>findIn K (.ref C) f==aa ae)&&fI.all (λf=>isFn K (.ref f))
 |_=>false
structure XC(K:Frag)(C S:Addr)(fI:Option Addr)(fs:List Str)(cd:ag8):Prop extends XK0 K C S cd where
 kp:keepIn K (.ref C)=true
 fld:∀f∈fs,findIn K (.ref C) f=aa ae
 fn:∀f,fI=aa f->isFn K (.ref f)=true
 obj:∃(nm q:Str) (N:Addr) (bs:List Value) (sn:List Str) (sub:List Value) (ab:Bool) (col:Option Bool) (dd:Option Addr) (k0 k1 k2 k3 k5:Option Value),K.lookup C=aa (amK nm q C N bs (.ref S::vE) true sn sub ab col dd k0 k1 k2 k3 k5 "ValueError.__new__")/\
  nsOkIn K N=true/\nsIn K N "__init__" =aa (fI.map abm)/\tailIn K vE (.ref S::vE)=true
theorem LZ{K:Frag}{C S:Addr}{fI:Option Addr}{fs:List Str}(e:gL K C S fI fs=true):∃cd,XC K C S fI fs cd:=by
 unfold gL at e;split at e
 .rename_i dd cd sl lk
  simp only[abw,beq_iff_eq,abD]at e;obtain⟨⟨⟨⟨⟨⟨⟨⟨e0,e1⟩,e2⟩,e3⟩,e4⟩,e5⟩,e6⟩,e7⟩,e8⟩:=e;split at e0
  .rename_i k0 k1 k2 k3 n k5 hs
   simp only[abw,beq_iff_eq,ajQ]at e0;obtain⟨⟨⟨⟨⟨⟨rfl,hm⟩,R8⟩,UK⟩,bB⟩,L0⟩,ht⟩:=e0;refine⟨cd,⟨by unfold clsIn;rw[lk],hm,UK,e1,e2,e3,e4,e5⟩,e6,e7,λf hf=>by subst hf;exact e8,?_⟩;obtain⟨nm,bs,mro,ns,qn,hd,sn,sub,ab,col,del⟩:=cd;dsimp only at hm R8 UK bB L0;subst hm R8 UK;have hsl:sl= #[k0,k1,k2,k3,aa (.builtin "ValueError.__new__"),k5]:=by
    obtain⟨l⟩:=sl;dsimp only at hs;rw[hs]
   subst hsl;exact⟨nm,qn,ns,bs,sn,sub,ab,col,dd,k0,k1,k2,k3,k5,lk,bB,L0,ht⟩
  .cases e0
 .cases e
end L2
namespace L2
open PySem PySem.W PySem.Spec PyProof.Rows
def L_(fs:List Str)(ys:List V)(od:Obj):Prop:=∃m,yJ od m/\∀(i:Nat) (f:Str) (y:V),fs[i]? =aa f->ys[i]? =aa y->∃u,m f=aa u/\RelV y u
def IV(C:Addr)(fs:List Str):Sp:=λvs H Q _=>∃e ys kA sl,vs= .ref e::ys/\ys.length=fs.length/\H e=aa (xm e (xo C ae kA sl))/\
 ∀dx od,H dx=ae->dx≠e->L_ fs ys od->Q .aA (upd (upd H dx (xm dx od)) e (xm e (xo C (aa dx) kA sl)))
theorem Dn{K:Frag}{h:Heap}{N:Addr}{m:Str->Option Value}{n:Str}{v:Value}(X:K.In h)(G:h.Ns N m)(e:nsIn K N n=aa (aa v)):m n=aa v:=by
 obtain⟨o,es,ep,ho,hd,_,hf⟩:=G;unfold nsIn at e;split at e
 .rename_i c d Ie n' sl q
  have z:=X _ _ q;rw[ho]at z;cases z;cases hd;split at e
  .rename_i en he
   cases e;rw[<-hf];unfold nsFind findBy;rw[<-ajr,he];rfl
  .split at e<;>cases e
 .cases e
theorem Ph{K:Frag}{h:Heap}{f:Addr}(X:K.In h)(e:isFn K (.ref f)=true):∃o,h.get? f=aa o/\o.cls= .type "function":=by
 unfold isFn typeIn at e;cases q:K.lookup f with
 |none=>simp[q]at e
 |some o=>
  refine⟨o,X _ _ q,?_⟩;simp[q]at e;exact e
section
variable{X:Cx}{pins:List (Addr×Obj)}{σ:St}{H:Hp}{s:aaj}{C S f:Addr}{fs ps:List Str}{cd:ag8}{fd:abd}{k:Nat}{Q:VK}{vs:List V}{us:List Value}
end
end L2
namespace L2
open PySem PySem.W PySem.Spec PyProof.Rows
section
variable{P:Program}{w:abZ}{K:Frag}{mg:Str->Option Value}{base:Heap}{x qual a b c f1 f2:Str}{st:Stmt}{f C S:Addr}{fd:abd}{cd:ag8}{p0 p1 p2 p3 q0 q1 q2 q3:Pos}
theorem UL{vs:List V}(h:vs.length=1):∃y,vs=[y]:=by
 match vs,h with
 |[y],_=>exact⟨y,rfl⟩
theorem Ma{fs:List Str}{vs:List V}{H:Hp}{Q:VK}{E:XK}(h:IV C fs vs H Q E):vs.length=fs.length+1:=by
 obtain⟨e,ys,_,_,rfl,l,_⟩:=h;rw[aac,l]
theorem UM(F:eG K x qual st f fd)(Sc:bg [a,b] [a,b] (ar st))(hb:aS st=[.Assign [.Attribute (.Name a p0) f1 p1] (.Name b p2) p3])(xc:XC K C S (aa f) [f1] cd)(ha:(a=="__debug__")=false/\(a=="__classdict__")=false)(OE:(b=="__debug__")=false/\(b=="__classdict__")=false):
  bX P w K mg base d8 1 f fd [a,b] (IV C [f1]):=by
 refine F.ok (k:=0) Sc (λvs H Q E h=>(Ma h).trans rfl) λbS A outer s H vs Q E hr h=>?_
 rw[hb];have v0:EJ (ar st) a:=(Sc.par a (by simp)).elim .inl λz=>.inr (.inl z)
 have v1:EJ (ar st) b:=(Sc.par b (by simp)).elim .inl λz=>.inr (.inl z)
 refine⟨_,xV (Pg xc.toXK0 (xc.fld f1 (by simp)) (xx (i:=0) rfl v0 ha.1 ha.2) (xx (i:=1) rfl v1 OE.1 OE.2) rfl),?_⟩;obtain⟨e,ys,kA,sl,rfl,l,eh,q⟩:=h;obtain⟨y,rfl⟩:=UL l;refine⟨y,e,kA,sl,rfl,rfl,eh,λdx od u h1 h2 ru ds=>q dx od h1 h2 ⟨_,ds,λi g y' hg hy=>?_⟩⟩
 match i with
 |0=>cases hg;cases hy;exact⟨u,if_pos rfl,ru⟩
 |i+1=>cases hg
end
end L2
namespace L2
open PySem PySem.W PySem.Spec PyProof.Rows
def tXf(K:Frag)(ta:TE)(f:Str):TE:=λσ H Q=>ta σ H λx H1=>∃a C S vs v,x= .ref a/\qr K H1 a C S vs/\(ahY f,v)∈vs/\Q v H1
section
variable{X:Cx}{C S f:Addr}{fs ps:List Str}{cd:ag8}{fd:abd}{k:Nat}{x fl:Str}{e:acu}{es:List acu}{t:TA}{ta:TE}{pos p:Pos}{fa:Qm.XA}{fe:Qm.XE}
theorem qr.inst{pins:List (Addr×Obj)}{σ:St}{H:Hp}{s:aaj}{a:Addr}{vs:List (Key×V)}(I:Inv X pins σ H s)(h:qr X.K H a C S vs):∃cd ox od,XK0 X.K C S cd/\InstAt s.heap a ox C od/\∀f v,(ahY f,v)∈vs->findIn X.K (.ref C) f=aa ae/\∃o u,od=aa o/\lookIn f o=aa (aa u)/\RelV v u:=by
 obtain⟨cd,d,kA,sl,ym,h1,h2,h3,h4⟩:=h.ex;refine⟨cd,_,ym,h1,⟨I.R7 h2,rfl,rfl,?_⟩,h4⟩;cases d with
 |none=>
  cases ym with
  |none=>exact agA
  |some od=>exact h3
 |some dx=>
  cases ym with
  |none=>exact h3
  |some od=>exact I.R7 h3
theorem UN(he:PE X e ta)(hb:ahc e fl X.env (ahx e X.env)=ahx e X.env):PE X (.Attribute e fl pos) (tXf X.K ta fl):=by
 intro pins s σ H Q I h;refine Kx hb (cF (he pins s σ H _ I h) λu s1 z=>?_);obtain⟨y,H1,I1,rx,a,C,S,vs,v,rfl,xo,mem,q⟩:=z;obtain rfl:u=abm a:=rx;obtain⟨cd,ox,od,c,In,fl⟩:=xo.inst I1;obtain⟨hn,o,u,rfl,hl,ru⟩:=fl _ _ mem;exact UE I1.fP In c.cls c.mro (findObj_own (by unfold hasDictIn;rw[c.cls];exact c.lX) hn rfl hl) (EZ ru) c.ga c.gt λk=>⟨v,H1,I1.tok k,ru,q⟩
structure ku(K:Frag)(C:Addr):Prop where
 ty:typeIn K (.ref C)=aa (.type "type")
 cls:(clsIn K C).isSome=true
theorem ku.isT{K:Frag}(c:ku K C){M:amY}{h:Heap}(X:K.In h):Looks M h (aiJ (.ref C)) true:=by
 obtain⟨cd,e⟩:=ajL.mp c.cls;unfold clsIn at e;split at e
 .rename_i ho
  intro A' Q' E' s' k q;unfold aiJ loadHead;exact aab (ak0 (k _ _ (X _ _ ho)) (aas q))
 .cases e
theorem gB{C':Addr}(cc:ku X.K C'):fV X (.builtin "isinstance") (λxs H Q=>∃a C S vs,xs=[.ref a,.ref C']/\qr X.K H a C S vs/\Q (.bl (decide (C'=C)||decide (C'=S))) H):=by
 intro pins s σ H xs us Q I r h;obtain⟨a,C,S,vs,rfl,xo,q⟩:=h;obtain⟨u,w',rfl,ru,qc⟩:=vals2 r;cases (show u=abm a from ru);cases (show w'=abm C' from qc);obtain⟨cd,ox,od,c,In,_⟩:=xo.inst I;have hs:mroIn X.K C (.ref C')=aa (decide (C'=C)||decide (C'=S)):=by
  rw[lj c.cls c.mro]
  congr 1
  simp only[aju,List.contains_nil,am0];have z:∀n:String,(abm C'==ahP n)=false:=λn=>by rw[beq_eq_false_iff_ne];intro q;cases q
  have y:∀b:Addr,(abm C'==abm b)=decide (C'=b):=λb=>by
   by_cases e:C'=b
   .subst e;simp
   .rw[decide_eq_false e,beq_eq_false_iff_ne];intro q;cases q;exact e rfl
  rw[z,z,z,z,y,y];simp
 refine Ay I.fP In c (looks_typeIn I.fP cc.ty) (cc.isT I.fP) (looks_mroIn I.fP hs) (λe=>?_) λk=>⟨.bl _,H,I.tok k,rfl,q⟩
 rw[show C'=C from(Value.ref.inj (beq_iff_eq.mp e)).symm];simp
theorem IW:fV X (.builtin "isinstance") (λxs H Q=>∃a C S vs,xs=[.ref a,.ty "ValueError"]/\qr X.K H a C S vs/\Q (.bl true) H):=by
 intro pins s σ H xs us Q I r h;obtain⟨a,C,S,vs,rfl,xo,q⟩:=h;obtain⟨u,w',rfl,ru,qc⟩:=vals2 r;cases (show u=abm a from ru);cases (show w'=ahP "ValueError" from qc);obtain⟨cd,ox,od,c,In,_⟩:=xo.inst I;have hs:mroIn X.K C (.type "ValueError")=aa true:=by rw[lj c.cls c.mro];rfl
 exact Ay I.fP In c (Looks.of_pure (by kernel_rfl)) (Looks.of_pure rfl) (looks_mroIn I.fP hs) (λ_=>rfl) λk=>⟨.bl _,H,I.tok k,rfl,q⟩
end
end L2
namespace L2
open PySem PySem.W PySem.Spec PyProof.Rows
variable{K:Frag}
theorem Hq{ρ:Nat->Addr}{N:Nat}{H:Hp}:∀{fs:List Str}{ds:List Qm.D}{vs:List V},RA K ρ N H ds vs->RK K ρ N H (fs.zip ds) ((fs.map ahY).zip vs)
 |[],_,_,_=>.nil
 |f::fs,[],_,r=>by cases r;exact .nil
 |f::fs,d::ds,_,r=>by
  cases r with
  |cons h t=>exact .cons h (Hq t)
theorem Mb{fs:List Str}{vs:List V}{f:Str}{v:V}(h:(ahY f,v)∈((fs.map ahY:List Key).zip vs)):∃i:Nat,fs[i]? =aa f/\vs[i]? =aa v:=by
 obtain⟨i,hi⟩:=aiV h;obtain⟨h1,h2⟩:=List.getElem?_zip_eq_some.mp hi;rw[aa6]at h1;cases q:fs[i]? with
 |none=>rw[q]at h1;cases h1
 |some g=>rw[q]at h1;cases h1;exact⟨i,q,h2⟩
theorem Dp{ρ:Nat->Addr}{N:Nat}{H:Hp}{f:Str}{d:Qm.D}:∀{ds:List (Str×Qm.D)}{vs:List (Key×V)},RK K ρ N H ds vs->ds.lookup f=aa d->∃v,(ahY f,v)∈vs/\RD K ρ N H d v
 |_,_,.nil,e=>by cases e
 |_,_,.cons (k:=k) h t,e=>by
  rw[ahi]at e
  by_cases g:(f==k)=true
  .rw[g]at e
   cases e;rw[eq_of_beq g];exact⟨_,.head _,h⟩
  .rw[Bool.not_eq_true]at g
   rw[g]at e;obtain⟨v,m,r⟩:=Dp t e;exact⟨v,.tail _ m,r⟩
section
variable{X:Cx}{C S f:Addr}{fs ps:List Str}{cd:ag8}{fd:abd}{k:Nat}{x fl:Str}{e:acu}{es:List acu}{pos p:Pos}{fa:Qm.XA}{fe:Qm.XE}
theorem Fz(ha:QE X e fe)(hb:ahc e fl X.env (ahx e X.env)=ahx e X.env:=by rfl):QE X (.Attribute e fl pos) (Qm.IS fl fe):=(UN ha hb).imp λσ H Q h=>by
 obtain⟨ρ,env,c,d,c',rs,re,e,k⟩:=h;obtain⟨p,e1,e⟩:=aJ e;refine⟨ρ,env,c,p.1,p.2,rs,re,e1,λaN v H1 n1 r1=>?_⟩;unfold Qm.Hm at e;split at e
 .rename_i dd0 c0 n hp
  split at e
  .rename_i C S fs oz
   cases q:fs.lookup fl with
   |none=>rw[q]at e;cases e
   |some dd=>
    rw[q]at e;cases e;rw[hp]at r1;obtain⟨vs,xo,rk⟩:=n1.rs.ok n _ oz;obtain⟨v2,mem,rd⟩:=Dp rk q;have hv:v= .ref (aN n):=by cases r1;rfl
    exact⟨_,C,S,vs,v2,hv,xo,mem,k aN _ H1 n1 rd⟩
  .cases e
 .cases e
end
theorem jR{C':Addr}:qe K (λxs H Q=>∃a C S vs,xs=[.ref a,.ref C']/\qr K H a C S vs/\Q (.bl (decide (C'=C)||decide (C'=S))) H) (Qm.j7 C'):=by
 intro ρ c H ds d c' vs Q rs ra e k;unfold Qm.j7 at e;split at e
 .rename_i n a
  split at e
  .rename_i C S fs hc
   split at e
   .rename_i ea
    subst ea;cases e;obtain⟨v,u,rfl,rx,ry⟩:=ra.uD;obtain⟨ws,xo,_⟩:=rs.ok n _ hc;have h1:v= .ref (ρ n):=by cases rx;rfl
    have h2:u= .ref a:=by cases ry;rfl
    subst h1 h2;exact⟨_,C,S,ws,rfl,xo,k ρ _ H (Nx.refl rs) (.bl _)⟩
   .cases e
  .cases e
 .cases e
theorem Pj:qe K (λxs H Q=>∃a C S vs,xs=[.ref a,.ty "ValueError"]/\qr K H a C S vs/\Q (.bl true) H) Qm.Dm:=by
 intro ρ c H ds d c' vs Q rs ra e k;unfold Qm.Dm at e;split at e
 .rename_i n t
  split at e
  .rename_i C S fs hc
   split at e
   .rename_i ea
    subst ea;cases e;obtain⟨v,u,rfl,rx,ry⟩:=ra.uD;obtain⟨ws,xo,_⟩:=rs.ok n _ hc;have h1:v= .ref (ρ n):=by cases rx;rfl
    have h2:u= .ty "ValueError":=by cases ry;rfl
    subst h1 h2;exact⟨_,C,S,ws,rfl,xo,k ρ _ H (Nx.refl rs) (.bl _)⟩
   .cases e
  .cases e
 .cases e
end L2
namespace L2
open PySem PySem.W PySem.Spec PyProof.Rows
def rJoin:V->List V->Hp->VK->Prop:=λx xs H Q=>∃sep l zs,x= .str sep/\xs=[.ref l]/\H l=aa (.lst (zs.map V.str))/\(zs.map (·.length)).sum+zs.length*sep.length<=16777216/\Q (.str (akc sep zs)) H
theorem Az:∀{zs:List Str}{us:List Value},Vals (zs.map V.str) us->StrsAre us zs
 |[],_,r=>by cases r;exact .nil
 |z::zs,_,r=>by
  cases r with
  |cons h t=>
   obtain⟨tk,rfl⟩:=h;exact .cons z tk (Az t)
section
variable{X:Cx}{e:acu}{fe:Qm.XE}{sep:Str}{j0:Nat}{p0 apos cY:Pos}
theorem Mc:E_ X "str.join" rJoin:=by
 intro pins s σ H x xs v us Q I rx r h;obtain⟨sep,l,zs,rfl,rfl,hl,hz,q⟩:=h;obtain⟨tk,rfl⟩:=(show ∃tk,v=ag0 sep tk from rx);obtain⟨u,rfl,ru⟩:=vals1 r;cases (show u=abm l from ru);obtain⟨_,its,n,va,gl⟩:=(show cH X.prog X.w H s.heap l (.lst (zs.map V.str))from I.bB l _ hl);exact join_list (items:=its.toArray) ⟨_,gl,rfl,_,rfl⟩ (by simpa using Az va) hz λt' k=>⟨.str (akc sep zs),H,I.tok k,⟨t',rfl⟩,q⟩
theorem tF{K:Frag}{ρ:Nat->Addr}{N:Nat}{H:Hp}:∀{ds:List Qm.D}{vs:List V}{xs:List Str},RA K ρ N H ds vs->Qm.strsOf ds=aa xs->vs=xs.map V.str
 |[],_,_,r,e=>by cases r;cases e;rfl
 |d::ds,_,xs,r,e=>by
  cases r with
  |cons h t=>
   cases d with
   |str x=>
    unfold Qm.strsOf at e;cases q:Qm.strsOf ds with
    |none=>rw[q]at e;cases e
    |some ys=>
     rw[q]at e;cases e;cases h;rw[tF t q];rfl
   |_=>cases e
theorem Dq(he:QE X e fe)(jF:ahc (.Constant (.str sep) j0 p0) "join" X.env (ahx (.Constant (.str sep) j0 p0) X.env)=ahx (.Constant (.str sep) j0 p0) X.env:=by rfl)
  (nR:((ahJ cY (aa9 [e] X.env)).all (λx=>!x.1)&&(akL cY (aiz [] X.env)).all (λx=>x.1.isSome)
   &&decide ([e].length+([]:List aik).length+(if ([]:List aik).isEmpty then 0 else 1)<30))=true:=by rfl)
  (gH:(apos.endLine==cY.line)=true:=by rfl)(hs:aa9 [e] X.env=(false,ahx e X.env)::aa9 [] X.env:=by rfl):
  QE X (.Call (.Attribute (.Constant (.str sep) j0 p0) "join" apos) [e] [] cY) (Qm.tE sep fe):=
 (Fb akp PySem.F.slot_str_join PySem.F.type_str_join Mc rE (CN he GU hs) jF nR gH hs rfl).imp λσ H Q h=>by
 obtain⟨ρ,env,c,d,c',rs,re,e,k⟩:=h;obtain⟨p,e1,e⟩:=aJ e;obtain⟨l,e2,e⟩:=aJ e;obtain⟨xs,e3,e⟩:=aJ e;split at e
 .rename_i hz
  cases e;refine⟨rfl,ρ,env,c,p.1,p.2,rs,re,e1,λaN v H1 n1 r1=>?_⟩;obtain⟨_,_,vs,rfl,hl,ra⟩:=n1.rs.cj r1 e2;rw[tF ra e3]at hl;exact⟨sep,_,xs,rfl,rfl,hl,by omega,k aN _ H1 n1 (.str _)⟩
 .cases e
end
end L2
namespace L2
open PySem PySem.W PySem.Spec PyProof.Rows
def iT(s:Stmt):Stmt:=match s with
 |.ClassDef _ _ _ b _ _ _ _ _ _ _=>b.getD 0 (.Pass ⟨0,0,0,0⟩)
 |_=>.Pass ⟨0,0,0,0⟩
def Dr(κ:Nat->Nat):Prop:=∀i j,i<11->j<11->κ i=κ j->i=j
def spK(K:Frag)(F:(Nat->Nat)->Qm.FN):Sp:=λvs H Q E=>∀κ,Dr κ->fK K (F κ) vs H Q E
theorem Md{l:List Nat}(h:l.Nodup)(hl:l.length=11:=by rfl):Dr λi=>l.getD i 0:=by
 intro i j hi hj e;rw[<-hl]at hi hj;simp only[List.getD_eq_getElem?_getD,aav hi,aav hj,akg]at e;rcases al4 i j with z|z|z
 .exact absurd e (ah6.mp h i j hi hj z)
 .exact z
 .exact absurd e.symm (ah6.mp h j i hj hi z)
theorem yK:ab1 "ValueError" =aa (.type "ValueError"):=by decide +kernel
section
variable{X:Cx}{C S f:Addr}{fs ps:List Str}{fd:abd}{k:Nat}{x:Str}{e:acu}{es:List acu}{pos p:Pos}{fa:Qm.XA}
theorem jT{a:Nat}(hg:Gl X x)(hm:X.mg x=aa (.ref a))(hd:(x==("__debug__":Str))=false:=by decide):QE X (.Name x pos) (Qm.eC (.adr a)):=
 nW (.adr a) (qh (v:=.ref a) hg hm rfl hd) λ_ _ _=>.adr a
end
end L2
namespace Qm
open PySem
noncomputable section
def ki(g:D->FN)(o:XE)(a:XA):XE:=λσ c=>(o σ c).bind λp=>(iu p.1).bind λ_=>(a σ p.2).bind λq=>g p.1 q.1 q.2
def e_(o:D):FN:=one λy c=>(iu o).bind λa=>(iu y).bind λb=>aa (.bl (abY a b),c)
def mz(o:D):FN:=one λy c=>(iu o).bind λa=>(iu y).bind λb=>if b.length≠0/\a.length<=100000 then aa (.ref c.length,c++[.lst ((agx a b).map .str)])else ae
def vP(o:D):FN:=one λy c=>(iu o).bind λa=>(iu y).bind λb=>if b.length≠0/\a.length<=100000 then aa (.tup [.str (abp a b).1,.str (abp a b).2.1,.str (abp a b).2.2],c)else ae
def BF:FN:=one λx c=>(iu x).bind λa=>if a.length<=dJ then aa (.int a.length,c)else ae
def ll(a b:Str):Bool:=!(abv b a 0 b.length 1).isEmpty
def wI:G2:=λx y c=>(iu x).bind λa=>(iu y).bind λb=>aa (.bl (ll a b),c)
def iF:G2:=λx y c=>(iu x).bind λa=>(iu y).bind λb=>aa (.bl (!ll a b),c)
def jf:FN:=one λx c=>(iu x).bind λa=>if a.length<=640 then(ahC a).bind λn=>aa (.int n,c)else ae
def vQ:FN:=one λx c=>(qt x).bind λi=>if i.natAbs<10 ^ 70 then aa (.str (toString i),c)else ae
def cx(a:Str)(n:Nat):Str:=⟨(aaL n a.cps).foldl (·++·) #[]⟩
def gM:G2:=λx y c=>(iu x).bind λa=>(qt y).bind λn=>if 0<=n/\n<=1000/\a.length<=1000 then aa (.str (cx a n.toNat),c)else ae
def kC(o:XE):XE:=λσ c=>(o σ c).bind λp=>(iu p.1).bind λa=>if a.length<=100000 then aa (.str (ail a (aa 1) ae),p.2)else ae
def mV(e:XE):XT:=λσ c=>(e σ c).bind λp=>match p.1 with
 |.str x=>if x.length<=100000 then aa (((x.length:Int) != 0),p.2)else ae
 |.bl b=>aa (b,p.2)
 |.ref n=>(cj (.ref n) p.2).bind λl=>aa (!l.2.isEmpty,p.2)
 |_=>ae
def AA(o:D):FN:=λds c=>match ds with
 |[]=>(cj o c).bind λl=>(l.2[l.2.length - 1]?).bind λd=>aa (d,c.set l.1 (.lst l.2.dropLast))
 |_=>ae
def rO(a:XE):XI:=λσ c=>(a σ c).bind λp=>(iu p.1).bind λx=>if x.length<=100000/\x.cps.all (·<128)=true then aa (⟨x.cps.toList.map λk=>.str ⟨#[k]⟩,[]⟩,p.2)else ae
open Classical in
def yL:G2:=λx y c=>match x with
 |.aA=>(dq y c).bind λxs=>(omap (data c 60) xs).bind λds=>aa (.bl (decide (ala∈ds)),c)
 |_=>ae
def rP(sep:Str)(a:XE):XE:=λσ c=>(a σ c).bind λp=>(cj p.1 p.2).bind λl=>(strsOf l.2).bind λxs=>if amU sep xs.reverse=true then aa (.str (akc sep xs.reverse),p.2)else ae
end
end Qm
namespace L2
open PySem PySem.Spec PyProof.Rows
theorem fG{d:Qm.D}{a:Str}(h:Qm.iu d=aa a):d= .str a:=by
 cases d<;>first|(cases h;rfl)|cases h
section
variable{X:Cx}{e:acu}{es:List acu}
theorem yM{name:Str}{id:String}{r:V->List V->Hp->VK->Prop}{g:Qm.D->Qm.FN}{o:acu}{fo:Qm.XE}{f:Qm.XA}{apos cY:Pos}(slot:Slot "str" name id)(vD:amF (.builtin id)=pure (.type "method_descriptor"))(hm:E_ X id r)(hl:C9 X.K r g)(ho:QE X o fo)(ha:QA X (e::es) f)
  (jF:ahc o name X.env (ahx o X.env)=ahx o X.env:=by rfl)
  (nR:((ahJ cY (aa9 (e::es) X.env)).all (λx=>!x.1)&&(akL cY (aiz [] X.env)).all (λx=>x.1.isSome)
   &&decide ((e::es).length+([]:List aik).length+(if ([]:List aik).isEmpty then 0 else 1)<30))=true:=by rfl)
  (gH:(apos.endLine==cY.line)=true:=by rfl)(hs:aa9 (e::es) X.env=(false,ahx e X.env)::aa9 es X.env:=by rfl)(ur:(ahJ cY (aa9 es X.env)).any (·.1)=false:=by rfl):
  QE X (.Call (.Attribute o name apos) (e::es) [] cY) (Qm.ki g fo f):=(Fb akp slot vD hm ho ha jF nR gH hs ur).imp <| by
 rintro σ H Q ⟨ρ,env,c,d,c',rs,re,e,k⟩;obtain⟨p,e1,e⟩:=aJ e;obtain⟨z,e2,e⟩:=aJ e;obtain⟨q,e3,e⟩:=aJ e;refine⟨ρ,env,c,p.1,p.2,rs,re,e1,λaN v H1 n1 r1=>⟨?_,aN,env,p.2,q.1,q.2,n1.rs,re.up n1.up,e3,λi9 vs H2 n2 r2=>
  hl i9 q.2 H2 p.1 q.1 d c' v vs Q n2.rs (r1.up n2.up) r2 e λaZ w H' n r=>k aZ w H' (n1.trans (n2.trans n)) r⟩⟩
 rw[fG e2]at r1;cases r1.gK;rfl
def Ds:V->List V->Hp->VK->Prop:=λx vs H Q=>∃a b,x= .str a/\vs=[.str b]/\Q (.bl (abY a b)) H
theorem yN:E_ X "str.startswith" Ds:=by
 intro pins s σ H x vs v us Q I rx rv h;obtain⟨a,b,rfl,rfl,q⟩:=h;obtain⟨t,rfl⟩:=(show ∃t,v=ag0 a t from rx);obtain⟨u,rfl,t',rfl⟩:=vals1 rv;exact SC.startswith ⟨.bl _,H,I,rfl,q⟩
theorem yO{K:aaa}:C9 K Ds Qm.e_:=by
 intro ρ c H x ds d c' v vs Q rs rx ra e k;unfold Qm.e_ Qm.one at e;split at e
 .obtain⟨a,e1,e⟩:=aJ e
  obtain⟨b,e2,e⟩:=aJ e;cases e;obtain⟨u,rfl,ry⟩:=ra.kr;rw[fG e1]at rx;rw[fG e2]at ry;cases rx.gK;cases ry.gK;exact⟨a,b,rfl,rfl,k ρ _ _ (Nx.refl rs) (.bl _)⟩
 .cases e
theorem qG:∀(zs:List Str) (k:Nat),Vals (zs.map V.str) (strsFrom k zs)
 |[],_=>.nil
 |z::zs,k=>.cons ⟨k,rfl⟩ (qG zs (k+1))
theorem FA(x y:Str):(aif x (abv x y 0 x.length (x.length+1)) y.length).length<=x.length+2:=by
 have h1:=akD x y 0 x.length (x.length+1);have:(aif x (abv x y 0 x.length (x.length+1)) y.length).length=(abv x y 0 x.length (x.length+1)).length+1:=by
  simp[aif]
 omega
def Hr:V->List V->Hp->VK->Prop:=λx vs H Q=>∃a b,x= .str a/\vs=[.str b]/\b.length≠0/\a.length<=100000/\∀l,H l=ae->Q (.ref l) (upd H l (.lst ((agx a b).map V.str)))
theorem AB:E_ X "str.split" Hr:=by
 intro pins s σ H x vs v us Q I rx rv h;obtain⟨a,b,rfl,rfl,hb,ha,q⟩:=h;obtain⟨t,rfl⟩:=(show ∃t,v=ag0 a t from rx);obtain⟨u,rfl,t',rfl⟩:=vals1 rv;have hy:(b.length==0)=false:=by simpa using hb
 have fin:∀(its:List Value) (zs:List Str) (k:Nat),Vals (zs.map V.str) its->zs.length<=200000->agx a b=zs->EP X pins σ Q (.ref s.heap.objs.size) { s with heap:=s.heap.push { cls:=.type "list",data:=.seq its.toArray },toks:=k }:=λits zs k hv hl e=>by
  refine⟨.ref s.heap.objs.size,_,I.laid (a:=s.heap.objs.size) (o:=.lst (zs.map V.str)) (t':=k) (λ_ _ e=>aap _ e) (aat _) ⟨by rw[aaE,adt];omega,its,0,hv,abx _ rfl⟩,rfl,?_⟩;have:=q s.heap.objs.size (I.bB.fresh (aat _));rw[e]at this;exact this
 have sz:a.length<=sizeLine:=by rw[adt];omega
 cases h1:(decide (a.length<b.length)||decide (alb a<alb b))
 .cases hf:(abv a b 0 a.length (a.length+1)).isEmpty
  .have pl:=FA a b
   refine ai3 akh (ahB _ _ _) ajR (ajv _ _) (meets_str_split_sep a b t t' h1 hy hf sz (by rw[adt];omega)) ?_;refine fin _ _ _ (qG _ _) (by omega) ?_;unfold agx;rw[if_neg (by simp[h1]),if_neg (by simp[hf])]
  .refine ai3 akh (ahB _ _ _) ajR (ajv _ _) (meets_str_split_not_found a b t t' h1 hy hf) ?_
   refine fin _ [a] _ (.cons ⟨t,rfl⟩ .nil) (by simp) ?_;unfold agx;rw[if_neg (by simp[h1]),if_pos hf]
 .refine ai3 akh (ahB _ _ _) ajR (ajv _ _) (meets_str_split_cannot_occur a b t t' h1) ?_
  refine fin _ [a] _ (.cons ⟨t,rfl⟩ .nil) (by simp) ?_;unfold agx;rw[if_pos h1]
theorem yP{K:aaa}{ρ:Nat->Addr}{N:Nat}{H:Hp}:∀(zs:List Str),RA K ρ N H (zs.map Qm.D.str) (zs.map V.str)
 |[]=>.nil
 |z::zs=>.cons (.str z) (yP zs)
theorem AD{K:aaa}:C9 K Hr Qm.mz:=by
 intro ρ c H x ds d c' v vs Q rs rx ra e k;unfold Qm.mz Qm.one at e;split at e
 .obtain⟨a,e1,e⟩:=aJ e
  obtain⟨b,e2,e⟩:=aJ e;split at e
  .rename_i hz
   cases e;obtain⟨u,rfl,ry⟩:=ra.kr;rw[fG e1]at rx;rw[fG e2]at ry;cases rx.gK;cases ry.gK;refine⟨a,b,rfl,rfl,hz.1,hz.2,λl hl=>?_⟩;obtain⟨n,r⟩:=Nx.alloc rs hl (yP (agx a b));exact k _ _ _ n r
  .cases e
 .cases e
end
end L2
namespace L2
open PySem PySem.Spec PyProof.Rows
section
variable{X:Cx}{e:acu}{es:List acu}
def Hs:V->List V->Hp->VK->Prop:=λx vs H Q=>∃a b,x= .str a/\vs=[.str b]/\b.length≠0/\a.length<=100000/\∀l,H l=ae->Q (.ref l) (upd H l (.tup [.str (abp a b).1,.str (abp a b).2.1,.str (abp a b).2.2]))
theorem IX:E_ X "str.partition" Hs:=by
 intro pins s σ H x vs v us Q I rx rv h;obtain⟨a,b,rfl,rfl,hb,ha,q⟩:=h;obtain⟨t,rfl⟩:=(show ∃t,v=ag0 a t from rx);obtain⟨u,rfl,t',rfl⟩:=vals1 rv;have fin:∀(p q' r:Str) (t1 t2 t3:Tok) (k:Nat),abp a b=(p,q',r)->EP X pins σ Q (.ref s.heap.objs.size) { s with heap:=s.heap.push { cls:=.type "tuple",data:=.seq [.str p t1,.str q' t2,.str r t3].toArray },toks:=k }:=λp q' r t1 t2 t3 k e=>by
  refine⟨.ref s.heap.objs.size,_,I.laid (a:=s.heap.objs.size) (o:=.tup [.str p,.str q',.str r]) (t':=k) (λ_ _ e=>aap _ e) (aat _) ⟨by simp only[aac,aam];rw[adt];decide,[.str p t1,.str q' t2,.str r t3],.cons ⟨t1,rfl⟩ (.cons ⟨t2,rfl⟩ (.cons ⟨t3,rfl⟩ .nil)),?_⟩,rfl,?_⟩
  .exact⟨_,abx _ rfl,rfl,0,rfl⟩
  .have:=q s.heap.objs.size (I.bB.fresh (aat _))
   rw[e]at this;exact this
 refine ai3 F.slot_str_partition (ahB _ _ _) F.entry_str_partition (F.args_str_partition_2 _ _) (meets_str_partition a b t t' (by simpa using hb) (by rw[adt];omega)) ?_;cases ho:abv a b 0 a.length 1 with
 |nil=>exact fin a aij aij _ _ _ _ (by unfold abp;rw[ho])
 |cons i r=>exact fin _ b _ _ _ _ _ (by unfold abp;rw[ho])
variable{K:aaa}
theorem IY:C9 K Hs Qm.vP:=by
 intro ρ c H x ds d c' v vs Q rs rx ra e k;unfold Qm.vP Qm.one at e;split at e
 .obtain⟨a,e1,e⟩:=aJ e
  obtain⟨b,e2,e⟩:=aJ e;split at e
  .rename_i hz
   cases e;obtain⟨u,rfl,ry⟩:=ra.kr;rw[fG e1]at rx;rw[fG e2]at ry;cases rx.gK;cases ry.gK;refine⟨a,b,rfl,rfl,hz.1,hz.2,λl hl=>?_⟩;have n:=Nx.same rs (nU (z:=.tup [V.str (abp a b).1,.str (abp a b).2.1,.str (abp a b).2.2]) hl);exact k ρ _ _ n (.tup bH (.cons (.str _) (.cons (.str _) (.cons (.str _) .nil))))
  .cases e
 .cases e
theorem Me:qe K (λxs H Q=>∃z,xs=[.str z]/\z.length<=sizeLine/\Q (.int z.length) H) Qm.BF:=by
 intro ρ c H ds d c' vs Q rs ra e k;obtain⟨x,rfl,e⟩:=kB e;obtain⟨v,rfl,rx⟩:=ra.kr;obtain⟨a,e1,e⟩:=aJ e;split at e
 .rename_i hz
  cases e;rw[fG e1]at rx;cases rx.gK;exact⟨a,rfl,kY hz,k ρ _ _ (Nx.refl rs) (.int _)⟩
 .cases e
theorem Ht:gJ K (λx y H Q=>∃i j,x= .str i/\y= .str j/\Q (.bl (!(abv j i 0 j.length 1).isEmpty)) H) Qm.wI:=by
 intro ρ c H x y d c' v u Q rs rx ry e k;obtain⟨a,e1,e⟩:=aJ e;obtain⟨b,e2,e⟩:=aJ e;cases e;rw[fG e1]at rx;rw[fG e2]at ry;cases rx.gK;cases ry.gK;exact⟨a,b,rfl,rfl,k ρ _ _ (Nx.refl rs) (.bl _)⟩
theorem yQ:gJ K (λx y H Q=>∃i j,x= .str i/\y= .str j/\Q (.bl (!(!(abv j i 0 j.length 1).isEmpty))) H) Qm.iF:=by
 intro ρ c H x y d c' v u Q rs rx ry e k;obtain⟨a,e1,e⟩:=aJ e;obtain⟨b,e2,e⟩:=aJ e;cases e;rw[fG e1]at rx;rw[fG e2]at ry;cases rx.gK;cases ry.gK;exact⟨a,b,rfl,rfl,k ρ _ _ (Nx.refl rs) (.bl _)⟩
theorem oP:fV X (.type "int") (λxs H Q=>∃z n,xs=[.str z]/\z.length<=640/\ahC z=aa n/\Q (.int n) H):=by
 intro pins s σ H xs us Q I r h;obtain⟨z,n,rfl,hl,hn,q⟩:=h;obtain⟨u,rfl,t,rfl⟩:=vals1 r;exact PySem.W.KIN.call_text hn hl ⟨.int n,H,I.tok _,⟨_,rfl⟩,q⟩
theorem uP:qe K (λxs H Q=>∃z n,xs=[.str z]/\z.length<=640/\ahC z=aa n/\Q (.int n) H) Qm.jf:=by
 intro ρ c H ds d c' vs Q rs ra e k;obtain⟨x,rfl,e⟩:=kB e;obtain⟨v,rfl,rx⟩:=ra.kr;obtain⟨a,e1,e⟩:=aJ e;split at e
 .rename_i hz
  obtain⟨n,e2,e⟩:=aJ e;cases e;rw[fG e1]at rx;cases rx.gK;exact⟨a,n,rfl,hz,e2,k ρ _ _ (Nx.refl rs) (.int _)⟩
 .cases e
theorem uQ:qe K (λxs H Q=>∃i:Int,xs=[.int i]/\i.natAbs.log2<1920/\Q (.str (toString i)) H) Qm.vQ:=by
 intro ρ c H ds d c' vs Q rs ra e k;obtain⟨x,rfl,e⟩:=kB e;obtain⟨v,rfl,rx⟩:=ra.kr;obtain⟨i,e1,e⟩:=aJ e;split at e
 .rename_i hz
  cases e;cases x<;>cases e1;cases rx.gr;refine⟨i,rfl,?_,k ρ _ _ (Nx.refl rs) (.str _)⟩;have:i.natAbs<2 ^ 240:=aiG hz (by decide)
  by_cases h0:i.natAbs=0
  .rw[h0];decide
  .have:=(amH h0).mpr this
   omega
 .cases e
end
end L2
namespace L2
open PySem PySem.Spec PyProof.Rows
section
variable{X:Cx}{e:acu}{es:List acu}
theorem Dt(a:Str)(n:Nat):(Qm.cx a n).length=n*a.length:=by
 unfold Qm.cx;have:∀(n:Nat) (acc:Array Nat),((aaL n a.cps).foldl (·++·) acc).size=acc.size+n*a.cps.size:=by
  intro n
  induction n with
  |zero=>intro acc;simp
  |succ n ih=>intro acc;rw[ab8,aje,ih,ajS,Nat.succ_mul];omega
 have h:=this n #[];show((aaL n a.cps).foldl (·++·) #[]).size=n*a.cps.size;simpa using h
def Mf:R2:=λx y H Q=>∃(a:Str) (n:Int),x= .str a/\y= .int n/\0<=n/\n<=1000/\a.length<=1000/\Q (.str (Qm.cx a n.toNat)) H
theorem nZ:eW X (ahu .Mult) Mf:=by
 intro pins s σ H x y v u Q I rx ry h;obtain⟨a,n,rfl,rfl,h0,h1,ha,q⟩:=h;obtain⟨t,rfl⟩:=(show ∃t,v=ag0 a t from rx);obtain⟨t',rfl⟩:=(show ∃t,u=ah4 n t from ry);have hz:a.length*n.toNat<=1000000:=ab2 (Nat.mul_le_mul ha (show n.toNat<=1000 by omega)) (by decide);refine P.mul_str (by simp;omega) (λhn _=>?_) (λ_ _=>?_) ?_
 .have:(a.length:Int)<=1000:=by omega
  have h2:(2 ^ 63 - 1:Int) / n≥9223372036854775:=by
   refine Int.le_ediv_of_mul_le (by omega) ?_;have: 9223372036854775*n<=9223372036854775*1000:=Int.mul_le_mul_of_nonneg_left h1 (by decide);omega
  omega
 .unfold aid
  rw[adt];exact decide_eq_false (by omega)
 .by_cases hn:n<1
  .rw[if_pos hn]
   have:n=0:=by omega
   subst this;exact⟨by decide,.str aij,H,I.tok _,⟨_,rfl⟩,q⟩
  .rw[if_neg hn]
   by_cases hs:(n==1||a.length==0)=true
   .rw[if_pos hs]
    have e:Qm.cx a n.toNat=a:=by
     rcases Bool.or_eq_true_iff.mp hs with h|h
     .have:n=1:=by simpa using h
      subst this;show(⟨#[]++a.cps⟩:Str)=a;simp
     .have h0:a.length=0:=by simpa using h
      have l:=Dt a n.toNat;have ha0:a.cps= #[]:=aiK h0;have hr0:(Qm.cx a n.toNat).cps= #[]:=aiK (by show(Qm.cx a n.toNat).length=0;rw[l,h0];simp);cases a;cases hq:Qm.cx _ n.toNat
      simp_all
    rw[e]at q;exact⟨.str a,H,I,⟨_,rfl⟩,q⟩
   .rw[if_neg hs]
    refine⟨?_,.str _,H,I.tok _,⟨_,rfl⟩,q⟩;have l:=Dt a n.toNat;show(Qm.cx a n.toNat).length<=sizeLine;rw[l,adt,Nat.mul_comm];omega
theorem n8{K:aaa}:gJ K Mf Qm.gM:=by
 intro ρ c H x y d c' v u Q rs rx ry e k;obtain⟨a,e1,e⟩:=aJ e;obtain⟨n,e2,e⟩:=aJ e;split at e
 .rename_i hz
  cases e;rw[fG e1]at rx;cases y<;>cases e2;cases rx.gK;cases ry.gr;exact⟨a,n,rfl,rfl,hz.1,hz.2.1,hz.2.2,k ρ _ _ (Nx.refl rs) (.str _)⟩
 .cases e
theorem BG{fe:Qm.XE}(h:QE X e fe)(he:∀whole,amB e X.env whole=(do let v <-whole;amC e.pos;aj3 [v] (truthy v)):=by intro _;rfl):QT X e (Qm.mV fe):=(Ip h he).imp <| by
 rintro σ H Q ⟨ρ,env,c,b,c',rs,re,e,k⟩;obtain⟨p,e1,e⟩:=aJ e;refine⟨ρ,env,c,p.1,p.2,rs,re,e1,λaN v H1 n1 r1=>?_⟩;obtain⟨d,c2⟩:=p;dsimp only at e r1;split at e
 .rename_i x
  split at e
  .rename_i hz
   cases e;cases r1.gK;exact⟨_,⟨by rw[adt];omega,rfl⟩,k aN H1 n1⟩
  .cases e
 .cases e
  cases r1.kZ;exact⟨_,rfl,k aN H1 n1⟩
 .rename_i n
  obtain⟨l,e2,e⟩:=aJ e;cases e;obtain⟨_,hc,ws,rfl,h1,a1⟩:=n1.rs.cj r1 e2;refine⟨_,.inl ⟨ws,dX.of h1,rfl⟩,?_⟩;have:(!ws.isEmpty)= !l.2.isEmpty:=by
   have:=a1.length;cases hw:ws<;>cases hl:l.2<;>simp_all
  rw[this];exact k aN H1 n1
 .cases e
theorem Pk{K:aaa}:C9 K RW Qm.AA:=by
 intro ρ c H x ds d c' v vs Q rs rx ra e k;unfold Qm.AA at e;split at e
 .obtain⟨l,e1,e⟩:=aJ e
  obtain⟨d',e2,e⟩:=aJ e;cases e;obtain⟨_,hn,ws,rfl,h,a⟩:=rs.cj rx e1;have hl:=a.length;obtain⟨y,hy,ry⟩:=a.get e2;have ad:RA K ρ c.length H l.2.dropLast ws.dropLast:=by
   rw[<-qk,<-qk,hl];exact a.erase _
  have n:=Nx.put rs hn ad;cases ra;exact⟨_,ws,y,rfl,rfl,h,by rw[<-hl];exact hy,k ρ _ _ n (ry.up n.up)⟩
 .cases e
end
end L2
namespace L2
open PySem PySem.Spec PyProof.Rows
def UO(x:Str):It:=⟨λi _=>i<x.length,λi H v H'=>H'=H/\∃c,x.cps[i]? =aa c/\v= .str ⟨#[c]⟩,λi _=>x.length<=i⟩
theorem IZ{P:Program}{w:abZ}{K:aaa}{tg:acu}(it:Addr)(x:Str)(t:Tok):Turn P w K tg (UO x) [it] it (λi h=>h.IsStrIter it "str_ascii_iterator" x t i) where
 mem:=by simp
 obj:=λi h st b hb=>by
  have e:b=it:=by simpa using hb
  subst e;obtain⟨o,e,c,d⟩:=st;exact⟨o,e,λv z=>by rw[d]at z;cases z⟩
 keep:=λi h h' st k=>by
  obtain⟨o,e,c,d⟩:=st;exact⟨o,k it (by simp) o e,c,d⟩
 item:=by
  intro X hP hw hK hc i pins s σ H E I hf st hg;subst hP hw hK;obtain⟨f0,f1,f2,f3,f4,f5⟩:=hf it (by simp);have W:=Walks.strAscii (prog:=X.prog) (w:=X.w) (I.ok.hd hc) it x t;refine W.item i s _ _ hg st λv h' tk hv zQ kk=>?_
  obtain⟨c,u,hcu,rfl⟩:=hv;have I1:Inv X pins σ H { s with heap:=h',toks:=tk }:=I.turned (λb o hb e=>kk b o (by simpa using hb) e) f0 f1 f3 f4 f5;obtain⟨o,e,cl,d⟩:=id zQ;exact⟨_,rfl,Be (s:={ s with heap:=h',toks:=tk }) (n:="str_ascii_iterator") e cl d (by decide) ⟨.str ⟨#[c]⟩,H,I1,⟨u,rfl⟩,⟨rfl,c,hcu,rfl⟩,zQ,λb hb=>(hf b hb).1⟩⟩
 done:=by
  intro X hP hw hK hc i pins s σ H E I hf st hg;subst hP hw hK;obtain⟨f0,f1,f2,f3,f4,f5⟩:=hf it (by simp);exact akq (I.ok.hd hc) st (aiq (show x.cps.size<=i from hg)) λh' eb=>⟨rfl,I.turned (t':=s.toks) (λb o hb e=>eb b o hb e) f0 f1 f3 f4 f5⟩
 self:=λ_ _ _ _ _ st h=>wpAny_pyIter_striter_ascii st h
section
variable{X:Cx}{tg e:acu}{fe:Qm.XE}
def aaz(tl:TE):TI:=λσ H R=>tl σ H λv H1=>∃x:Str,v= .str x/\x.cps.all (·<128)=true/\R (UO x) H1
theorem Pm{l:acu}{tl:TE}(hl:PE X l tl):PI X tg l (aaz tl):=by
 intro pins s σ H R I h;refine cF (hl pins s σ H _ I h) λv s1 cg=>?_
 obtain⟨y,H1,I1,r1,q1⟩:=cg;obtain⟨x,e,ha,q⟩:=q1;subst e;obtain⟨t,rfl⟩:=(show ∃t,v=ag0 x t from r1);refine alP ha ?_;refine⟨s1.heap.objs.size,[s1.heap.objs.size],_,_,H1,rfl,I1.kept (t':=s1.toks) λb o e=>aap _ e,IZ _ x t,⟨_,abx _ rfl,rfl,rfl⟩,λb hb=>?_,q⟩;have e:b=s1.heap.objs.size:=by simpa using hb
 subst e;exact I1.CD (aat _) (I1.bB.fresh (aat _))
theorem I_(h:QE X e fe):QI X tg e (Qm.rO fe):=(Pm h).imp <| by
 rintro σ H R ⟨ρ,env,c,m,c',rs,re,e,k⟩;obtain⟨p,e1,e⟩:=aJ e;obtain⟨x,e2,e⟩:=aJ e;split at e
 .rename_i hz
  cases e;refine⟨ρ,env,c,p.1,p.2,rs,re,e1,λaN v H1 n1 r1=>?_⟩;rw[fG e2]at r1;cases r1.gK;refine⟨x,rfl,hz.2,k aN _ H1 n1 λi9 c2 H2 u2 Fq _=>?_⟩;refine⟨λi hi=>(show i<x.cps.size by simpa using hi),by simp[UO,alY],λi d v H' hd hy=>?_⟩;obtain⟨rfl,c,hc,rfl⟩:=hy;rw[aa6,akz,hc]at hd;cases hd;exact⟨Nx.refl Fq,.str _⟩
 .cases e
end
end L2
namespace L2
open PySem PySem.Spec PyProof.Rows
section
variable{X:Cx}{pins:List (Addr×Obj)}{σ:St}{H:Hp}{s:aaj}
theorem AE{M:amY}{A:abL}{E:Value->aaj->Prop}{i:Nat}{x:Str}{v:V}{u:Value}{Q:Unit->aaj->Prop}(I:Inv X pins σ H s)(hN:X.N.Nodup)(hi:X.N[i]? =aa x)(hk:X.env.scope.names.lookup x=aa .local)(r:RelV v u)
  (h:∀h',Inv X pins (σ.set i (aa v)) H { s with heap:=h',toks:=s.toks+1 }->(∃m,h'.Ns X.env.locals m/\m x=aa u)->ahH X.env.locals s.heap h'->Q () { s with heap:=h',toks:=s.toks+1 }):abo M A (storeName X.env x u) Q E s:=by
 obtain⟨m,hn,hl⟩:=id I.loc;have Cy:(X.env.scope.kind==.class||(X.env.scope.kind==.module&&X.env.locals != X.env.globals))=false:=by rw[I.ok.kind];rfl
 have GK:i<σ.length:=by rw[I.len];exact(aan.mp hi).1
 have vy:=I.vy;have tracked:∀{a:Addr}{h':Heap},(∃o,s.heap.get? a=aa o/\H a=ae)->ahH a s.heap h'->ip X.prog X.w H h':=λ{a h'} ha hs b ob e=>by
  obtain⟨_,_,oy⟩:=ha;refine(I.bB b ob e).pR (λc w' hc q=>(hs.2 c ?_).trans q) (λ_ q=>q) λ_ _ q=>q
  rintro rfl;rcases hc with rfl|hc
  .rw[oy]at e;cases e
  .rw[oy]at hc;cases hc
 refine aku hk hn (λh' xU hs=>?_) Cy;obtain⟨oL,_,_,NY,_⟩:=id hn;refine h h' ⟨I.ok,I.os,I.bare,⟨λb o e n hb hx=>?_,λb o e n hb hx=>?_,I.base.free,λb o e hx=>?_,I.base.pS,I.base.kR,I.base.pT⟩,⟨_,xU,λj y v' e1 e2 e3=>?_⟩,λy c e=>?_,I.free,I.jE,λp hp=>?_,tracked ⟨oL,NY,I.free⟩ hs,by simpa using I.len⟩ ⟨_,xU,by simp⟩ hs
 .exact(hs.2 b (abA (aa1 (aaK e) I.ok.above))).trans (I.base.keep b o e n hb hx)
 .obtain⟨sl,e1⟩:=I.base.slot b o e n hb hx
  exact⟨sl,(hs.2 b (abA (aa1 (aaK e) I.ok.above))).trans e1⟩
 .obtain⟨o',e1⟩:=I.base.there b o e hx
  exact⟨o',(hs.2 b (abA (aa1 (aaK e) I.ok.above))).trans e1⟩
 .by_cases hj:j=i
  .subst hj
   rw[hi]at e1;cases e1;rw[ab0 GK]at e2;cases e2;exact⟨u,r,.inl ⟨hk,by simp⟩⟩
  .rw[abt (ahb hj)]at e2
   obtain⟨u',r',q⟩:=hl j y v' e1 e2 e3;refine⟨u',r',?_⟩;rcases q with⟨k,e⟩|⟨k,c,e,z⟩
   .refine .inl ⟨k,?_⟩
    have:y≠x:=λe=>hj (vz hN e1 (e ▸ hi))
    simp[this,e]
   .exact .inr ⟨k,c,e,z.sameBut hs (vy y c e)⟩
 .obtain⟨w',z⟩:=I.cell y c e
  exact⟨w',z.sameBut hs (vy y c e)⟩
 .obtain⟨e,n,ne,nf,d⟩:=I.pin p hp
  exact⟨(hs.2 p.1 ne).trans e,n,ne,nf,d⟩
end
end L2
namespace L2
open PySem PySem.Spec PyProof.Rows
def Mg(x:Str)(c:Nat):Str:=alc x ⟨#[c]⟩ (abV " "++⟨#[c]⟩++abV " ")
def Pn:List Nat->Str->Prop
 |[],_=>True
 |c::r,x=>x.length<=100000/\Pn r (Mg x c)
def Mh(i j:Nat):List Nat->St->Str->St
 |[],σ,_=>σ
 |c::r,σ,x=>Mh i j r ((σ.set j (aa (.str ⟨#[c]⟩))).set i (aa (.str (Mg x c)))) (Mg x c)
def Du(i j:Nat)(w:Str):TS:=λD σ H=>∃x,σ[i]? =aa (aa (.str x))/\Pn w.cps.toList x/\D.nx (Mh i j w.cps.toList σ x) H
theorem gN(x y:Str):(x++y).length=x.length+y.length:=by
 show(x.cps++y.cps).size=_;rw[ajS];rfl
section
variable{X:Cx}
variable{E Q:Value->aaj->Prop}
theorem Hu{A:abL}{s:aaj}{x y:Str}{t u:Tok}(hx:x.length≠0)(hy:y.length≠0)(hz:x.length+y.length<=1000)(h:Q (.str (x++y) s.toks) { s with toks:=s.toks+1 }):
  abo (abu X.prog X.w) A (ahu .Add (.str x t) (.str y u)) Q E s:=by
 refine PySem.P.add_str ?_;rw[if_neg (by simpa using hx),if_neg (by simpa using hy)];exact⟨by rw[gN,adt];omega,h⟩
theorem Dv{A:abL}{s:aaj}{x y z:Str}{t u v:Tok}(hu:u≠0)(hv:v≠0)(huv:u≠v)(UP:(y==z)=false)(hy:y.length≠0)(hb:x.length+(x.length+1)*z.length<=16777216)
  (h:∀t' k,s.toks<=k->Q (.str (alc x y z) t') { s with toks:=k }):abo (abu X.prog X.w) A (call (.builtin "str.replace") [.str x t,.str y u,.str z v]) Q E s:=by
 have hl:aid (x.length+(abv x y 0 x.length (x.length+1)).length*z.length)=false:=by
  have h1:=akD x y 0 x.length (x.length+1);have h2:(abv x y 0 x.length (x.length+1)).length*z.length<=(x.length+1)*z.length:=akQ _ h1;unfold aid;rw[adt];exact decide_eq_false (by omega)
 refine call_gives alQ (ahB _ _ _) F.entry_str_replace (F.args_str_replace_3 _ _ _) (gives_str_replace x y z t u v λ_=>⟨by simp[hu,hv],by simp[huv],UP,hl⟩) ?_;unfold alc at h;split
 .rename_i hc
  rw[if_pos hc]at h;exact h t s.toks (aat _)
 .rename_i hc
  rw[if_neg hc]at h;exact⟨fits_replaced y hb,h _ _ (amJ _)⟩
theorem FC{i j:Nat}{rn sn w:Str}{k k1 k2:Nat}{p1 p2 p3 p4 p5 p6 p7 p8 p9 Ja p11 FD ap cp:Pos}(hp:akx (abu X.prog X.w) X.A X.env X.xe)(hc:X.calm=true)(hN:X.N.Nodup)(hi:X.N[i]? =aa rn)(hj:X.N[j]? =aa sn)(w_:i≠j)
  (hr:X.env.scope.names.lookup rn=aa .local)(hs:X.env.scope.names.lookup sn=aa .local)(hw:w.cps.all (·<128)=true)
  (To:(rn==("__debug__":Str))=false:=by decide)(hd2:(sn==("__debug__":Str))=false:=by decide)(hd3:(rn==("__classdict__":Str))=false:=by decide)
  (jF:ahc (.Name rn p4) "replace" X.env (ahx (.Name rn p4) X.env)=ahx (.Name rn p4) X.env:=by rfl)
  (i6:aa9 [.Name sn p5,.BinOp (.BinOp (.Constant (.str " ") k1 p6) .Add (.Name sn p7) p8) .Add (.Constant (.str " ") k2 p9) Ja] X.env=[(false,ahx (.Name sn p5) X.env),(false,ahx (.BinOp (.BinOp (.Constant (.str " ") k1 p6) .Add (.Name sn p7) p8) .Add (.Constant (.str " ") k2 p9) Ja) X.env)]:=by rfl)
  (nR:((ahJ cp (aa9 [.Name sn p5,.BinOp (.BinOp (.Constant (.str " ") k1 p6) .Add (.Name sn p7) p8) .Add (.Constant (.str " ") k2 p9) Ja] X.env)).all (λx=>!x.1)&&(akL cp (aiz [] X.env)).all (λx=>x.1.isSome)
   &&decide ([Expr.Name sn p5,.BinOp (.BinOp (.Constant (.str " ") k1 p6) .Add (.Name sn p7) p8) .Add (.Constant (.str " ") k2 p9) Ja].length+([]:List aik).length+(if ([]:List aik).isEmpty then 0 else 1)<30))=true:=by rfl)
  (gH:(ap.endLine==cp.line)=true:=by rfl)
  (C5:aih (.Call (.Attribute (.Name rn p4) "replace" ap) [.Name sn p5,.BinOp (.BinOp (.Constant (.str " ") k1 p6) .Add (.Name sn p7) p8) .Add (.Constant (.str " ") k2 p9) Ja] [] cp) (aa (.Name rn p3)) p11.line X.env=pure false:=by rfl)
  (hfs:∀x,agS (.Constant (.str w) k p2) X.env x=pure x:=by intro _;rfl):
  PS X (.For (.Name sn p1) (.Constant (.str w) k p2) [.Assign [.Name rn p3] (.Call (.Attribute (.Name rn p4) "replace" ap) [.Name sn p5,.BinOp (.BinOp (.Constant (.str " ") k1 p6) .Add (.Name sn p7) p8) .Add (.Constant (.str " ") k2 p9) Ja] [] cp) p11] [] FD) (Du i j w):=by
 intro pins s σ H D I h;obtain⟨x,hx,bB,q⟩:=h;refine wpAny_For (ahE (alP hw ?_)) hfs;have I2:Inv X pins σ H { s with heap:=s.heap.push { cls:=.type "str_ascii_iterator",data:=.fields #[.str w s.toks,.int 0 0] },toks:=s.toks+1 }:=I.kept (t':=s.toks+1) λb o e=>aap _ e
 have f0:kU X pins H s.heap.objs.size:=I.CD (aat _) (I.bB.fresh (aat _));generalize hit:s.heap.objs.size=it at f0;have st0:(s.heap.push { cls:=.type "str_ascii_iterator",data:=.fields #[.str w s.toks,.int 0 0] }).IsStrIter it "str_ascii_iterator" w s.toks 0:=by
  rw[<-hit];exact⟨_,abx _ rfl,rfl,rfl⟩
 refine ak2 (λn s'=>∃(m:Nat) (σ':St) (x':Str),n=w.cps.size - m/\Inv X pins σ' H s'/\s'.heap.IsStrIter it "str_ascii_iterator" w s.toks m/\0<s'.toks/\σ'[i]? =aa (aa (.str x'))/\Pn (w.cps.toList.drop m) x'/\Mh i j (w.cps.toList.drop m) σ' x'=Mh i j w.cps.toList σ x) ?_ _ ⟨0,σ,x,rfl,I2,st0,Nat.succ_pos _,hx,bB,rfl⟩;rintro n s3 ⟨m,oC,x3,hn,I3,Ko,tk3,hx3,UQ,e3⟩;obtain⟨g0,g1,g2,g3,g4,g5⟩:=f0
 by_cases hm:w.cps.size<=m
 .refine agr hp (akq (I3.ok.hd hc) Ko (aiq hm) λh' eb=>?_)
  have I4:Inv X pins oC H { s3 with heap:=h' }:=I3.turned (t':=s3.toks) (λb o hb e=>eb b o hb e) g0 g1 g3 g4 g5;refine ag1 ⟨oC,H,I4,?_⟩;rw[List.drop_eq_nil_of_le (by simpa using hm)]at e3;rw[<-e3]at q;exact q
 .have UR:m<w.cps.size:=by omega
  obtain⟨c,Ih⟩:∃c,w.cps[m]? =aa c:=⟨_,ah7 UR⟩;have hdr:w.cps.toList.drop m=c::w.cps.toList.drop (m+1):=by
   rw[agY (by simpa using UR)]
   congr 1
   rw[ah7 UR]at Ih;simpa using abK Ih
  rw[hdr]at UQ e3;refine agr hp (wpAny_pyNext_ascii_item Ko Ih λh' OP sb=>?_);have I4:Inv X pins oC H { s3 with heap:=h',toks:=s3.toks+1 }:=I3.turned (t':=s3.toks+1) (λb o hb e=>(sb.2 b hb).trans e) g0 g1 g3 g4 g5;obtain⟨o4,e4,c4,d4⟩:=id OP;refine agr hp (Be (s:={ s3 with heap:=h',toks:=s3.toks+1 }) e4 c4 d4 (by decide) ?_);refine agr hp (wpAny_assign_Name (AE (v:=.str ⟨#[c]⟩) I4 hN hj hs ⟨_,rfl⟩ λh5 I5 Po sb5=>?_));obtain⟨m5,Lh,Po⟩:=Po;have ET:h5.IsStrIter it "str_ascii_iterator" w s.toks (m+1):=⟨o4,sb5.extBut _ _ g1 e4,c4,d4⟩;have aaC:(oC.set j (aa (V.str ⟨#[c]⟩)))[i]? =aa (aa (.str x3)):=by rw[abt (ahb w_)];exact hx3
  refine agr hp (ah8 (wpAny_Assign_Name (aip jF nR gH rfl ?_) C5))
  -- oF ahX text
  obtain⟨m6,Um,hl6⟩:=I5.loc;obtain⟨u,ru,lu⟩:=hl6 i rn (.str x3) hi aaC (.inl hr);obtain⟨t,rfl⟩:=(show ∃t,u=ag0 x3 t from ru);have lr:m6 rn=aa (.str x3 t):=by
   rcases lu with⟨_,e⟩|⟨kk,_⟩
   .exact e
   .rcases kk with kk|kk
    .have kk:X.env.scope.names.lookup rn=aa .cell:=kk
     rw[hr]at kk;cases kk
    .have kk:X.env.scope.names.lookup rn=aa .free:=kk
     rw[hr]at kk;cases kk
  refine ajE (ah0 I5.ok.kind hr Um lr ?_) To;refine⟨"str","str.replace",amn,alQ,F.type_str_replace,ahB _ _ _,(λ_ e=>nomatch e),?_⟩;rw[i6];refine ahD rfl (aiU (ahF ?_))
  -- oF sign,and oF sign between blanks
  refine ajE (ah0 I5.ok.kind hs Lh Po ?_) hd2;refine ahF (amD (amD (ahE (ajE (ah0 I5.ok.kind hs Lh Po ?_) hd2))));have l1:(abV " ").length=1:=rfl;have l2:(⟨#[c]⟩:Str).length=1:=rfl;refine Hu (by rw[l1];decide) (by rw[l2];decide) (by rw[l1,l2];decide) (ahE (Hu (by rw[gN,l1,l2];decide) (by rw[l1];decide) (by rw[gN,l1,l2];decide) (ait ?_)))
  -- oF US
  have hz:x3.length<=100000:=UQ.1;have l3:(abV " "++⟨#[c]⟩++abV " ").length=3:=by rw[gN,gN,l1,l2]
  have kf:((⟨#[c]⟩:Str)==abV " "++⟨#[c]⟩++abV " ")=false:=by
   refine beq_eq_false_iff_ne.mpr λe=>?_
   have:=congrArg alY e;rw[gN,gN,l1,l2]at this;omega
  dsimp only
  refine Dv (aiE tk3) (Nat.succ_ne_zero _) (show s3.toks≠s3.toks+1+1+1+1+1 by omega) kf (by rw[l2];decide) (by rw[l3];omega) λt' k hk=>?_
  refine AE (v:=.str (Mg x3 c)) (I5.tok k) hN hi hr ⟨t',rfl⟩ λh7 I7 _ sb7=>?_
  refine ag1 ⟨w.cps.size - (m+1),by omega,m+1,_,Mg x3 c,rfl,I7,?_,Nat.succ_pos _,?_,UQ.2,e3⟩
  .obtain⟨o5,e5,c5,d5⟩:=ET
   exact⟨o5,sb7.extBut _ _ g1 e5,c5,d5⟩
  .rw[ab0]
   rw[abB];exact(aan.mp hx3).1
end
end L2
namespace Qm
open PySem
noncomputable section
def pX(x:Str)(c:Nat):Str:=alc x ⟨#[c]⟩ (abV " "++⟨#[c]⟩++abV " ")
def yR:List Nat->Str->Bool
 |[],_=>true
 |c::r,x=>decide (x.length<=100000)&&yR r (pX x c)
def Hv(i j:Nat):List Nat->Env->Str->Env
 |[],σ,_=>σ
 |c::r,σ,x=>Hv i j r ((σ.set j (aa (.str ⟨#[c]⟩))).set i (aa (.str (pX x c)))) (pX x c)
def uR(i j:Nat)(w:Str):XS:=λσ c=>match σ[i]?.join with
 |some (.str x)=>if yR w.cps.toList x=true then aa (.nx,Hv i j w.cps.toList σ x,c)else ae
 |_=>ae
end
end Qm
namespace Qm
open PySem
noncomputable section
open Classical in
def ly(ws:List Str)(a:XE):XE:=λσ c=>(a σ c).bind λp=>(data p.2 5 p.1).bind λd=>aa (.bl (!decide (d∈ws.map ahs)),p.2)
end
end Qm
namespace L2
open PySem PySem.Spec PyProof.Rows
theorem Dw:∀{l:List Nat}{x:Str},Qm.yR l x=true->Pn l x
 |[],_,_=>trivial
 |c::r,x,h=>by
  unfold Qm.yR at h;obtain⟨h1,h2⟩:=ag7.mp h;exact⟨of_decide_eq_true h1,Dw h2⟩
theorem Mi{K:aaa}{ρ:Nat->Addr}{N:Nat}{H:Hp}{i j:Nat}(l:List Nat):∀{env:Qm.Env}{σ:St}{x:Str},RE K ρ N H env σ->RE K ρ N H (Qm.Hv i j l env x) (Mh i j l σ x):=by
 induction l with
 |nil=>intro _ _ _ h;exact h
 |cons c r ih=>intro _ _ _ h;exact ih ((h.set (i:=j) (.str _)).set (i:=i) (.str _))
theorem FE{X:Cx}{i j:Nat}{w:Str}{st:Stmt}(h:PS X st (Du i j w)):QS X st (Qm.uR i j w):=h.imp <| by
 rintro D σ H ⟨ρ,env,c,fl,bW,c',rs,re,e,k⟩;unfold Qm.uR at e;split at e
 .rename_i x hx
  split at e
  .rename_i bB
   cases e;have e3:env[i]? =aa (aa (.str x)):=by
    cases h:env[i]? with
    |none=>rw[h]at hx;cases hx
    |some o=>rw[h]at hx;rw[show o=aa (.str x)from hx]
   obtain⟨v,h1,h2⟩:=re.at_ i _ e3;cases h2.gK;exact⟨x,h1,Dw bB,k ρ H (Nx.refl rs) _ (Mi _ re)⟩
  .cases e
 .cases e
end L2
namespace L2
open PySem PySem.Spec PyProof.Rows
section
variable{X:Cx}{e e1 e2 tg:acu}{fe:Qm.XE}{pos p2:Pos}
def aaD:V->Option Int->Option Int->Hp->VK->Prop:=λx lo hi H Q=>∃a i,x= .str a/\lo=aa i/\hi=ae/\a.length<=sizeLine/\Q (.str (ail a (aa i) ae)) H
theorem Pp:zR X aaD:=by
 intro pins s σ H x v vl vu lo hi sl Q I rx hs pl pu h;obtain⟨a,i,rfl,rfl,rfl,hz,q⟩:=h;obtain⟨t,rfl⟩:=(show ∃t,v=ag0 a t from rx);cases pl with
 |int _ ti=>
 cases pu;refine⟨"str",_,F.slot_str_getitem.lookup,ahB _ _ _,?_⟩;refine wpAny_getItem_str_slice (l:=aa (i,ti)) (u:=ae) (st:=ae) hs rfl (post_val_or_str ⟨ab2 (Txt.slice_le a _ _) hz,λt' k=>?_⟩);exact⟨.str (ail a (aa i) ae),H,I.tok k,⟨t',rfl⟩,q⟩
theorem Mj{j0:Nat}{p1:Pos}(he:QE X e fe):QE X (.Subscript e (.Slice (aa (.Constant (.int 1) j0 p1)) ae ae p2) pos) (Qm.kC fe):=(An Pp he (CV GL) CU).imp <| by
 rintro σ H Q ⟨ρ,env,c,d,c',rs,re,e,k⟩;obtain⟨p,e1,e⟩:=aJ e;obtain⟨a,e2,e⟩:=aJ e;split at e
 .rename_i hz
  cases e;refine⟨ρ,env,c,p.1,p.2,rs,re,e1,λaN v H1 n1 r1=>?_⟩;rw[fG e2]at r1;cases r1.gK;exact⟨1,rfl,a,1,rfl,rfl,rfl,by rw[adt];omega,k aN _ H1 n1 (.str _)⟩
 .cases e
open Classical in
theorem Pq{K:aaa}:gJ K (Df K false) Qm.yL:=by
 intro ρ c H x y d c' v u Q rs rx ry e k;unfold Qm.yL at e;split at e
 .obtain⟨xs,h1,e⟩:=aJ e
  obtain⟨ds,h3,e⟩:=aJ e;cases e;cases rx.Lq;obtain⟨p,vs,rfl,hp,a⟩:=rs.seq ry h1;obtain⟨b1,b2,b3,b4⟩:=uN (k:=60) rs (λr h=>jQ rs 60 r h) a h3;refine⟨p,vs,.none,ds,rfl,hp.imp id ja.of,.aA,b1,rfl,by decide,mr b2,?_⟩;rw[if_neg (by decide)];have:(ds.any λe=>ado e .none)=decide (ala∈ds):=by
   rw[agM];simp only[ahj,decide_eq_true_eq];constructor
   .rintro⟨e,he,q⟩
    rw[je e .none (uO b4 e he) rfl]at q;exact q ▸ he
   .intro hd
    exact⟨.none,hd,(je .none .none rfl rfl).mpr rfl⟩
  rw[this];exact k ρ _ H (Nx.refl rs) (.bl _)
 .cases e
end
end L2
namespace PySem
open Sem (wp)
namespace F
theorem Dx:alX (.type "list_reverseiterator") "__len__" =pure ae:=by rw[typeLookup_type,akE];kernel_rfl
theorem FG:alX (.type "list_reverseiterator") "__length_hint__" =pure (aa (.builtin "list_reverseiterator.__length_hint__")):=by rw[typeLookup_type,akE];kernel_rfl
end F
section
variable{prog:Program}{w:abZ}{A:abL}{E:Value->aaj->Prop}{s:aaj}{I:Addr}{fp wr:List Addr}{G:Array aiB->Array aiB->Prop}{n:Nat}{P:Nat->Value->Prop}{St:Nat->aaj->Prop}
abbrev FH:Obj:=⟨.type "list",ae,.seq #[] 0,#[]⟩
theorem Mk{R:amc->aaj->Prop}{S:Addr}{v:Value}(W:WalksS prog w A.in1 I fp wr G n P St)(hT:∀i s,St i s->s.TypeIs (.ref I) "list_reverseiterator")(st:St 0 s)(out:S∉fp)(hI:I∈fp)(hS:s.heap.get? S=aa FH)(hn:n<=sizeLine)
  (k:∀s' acc c,Moved (S::wr) G s s'->s'.heap.get? S=aa ⟨.type "list",ae,.seq acc c,#[]⟩->ItemsOf P acc n->R (.ok (.ret v)) s'):
  abo (abu prog w) A.in1 (Builtin.List.listExtendWith (.ref S) (.ref I) v) (λfin s'=>match fin with|.done f=>R (.ok f) s'|.again c'=>c'.quiet=true/\ai9 (abu prog w) A c' R s') (λe s'=>R (.error e) s') s:=by
 have ty:=hT 0 _ st;have two:ajT (.ref S) (.ref I)=false:=by
  have:S≠I:=by rintro rfl;exact out hI
  simp[ajT,this]
 refine aab (aiF ty ?_);rw[if_neg (by rw[two];decide)];refine aab (W.self 0 _ _ _ st (aab (agG (aab (ahq ty F.Dx (show abo _ _ (specialOf _ (abV "__length_hint__") >>= _) _ _ _ from aab (ahq ty F.FG ?_)))))));generalize R9:("list_reverseiterator.__length_hint__":String)=nm;have cut:splitId nm=aa ("list_reverseiterator","__length_hint__"):=by rw[<-R9];decide +kernel
 wp_delta
 rw[cut,<-R9];refine aab (aiO (b:=true) ty (by rw[isSubtype_type];kernel_rfl) (aas ?_));rw[if_neg (by decide)];exact aas ⟨plainId_quiet F.plain_extend_loop _,codeAny_extend_loopS W hn _ out _ n 0 _ _ _ rfl (ab7 _) st hS (ItemsOf.nil P) k⟩
theorem BH{Q:List Value->aaj->Prop}(W:WalksS prog w A.in1 I fp wr G n P St)(hT:∀i s,St i s->s.TypeIs (.ref I) "list_reverseiterator")(i6:St 0 s)(hfp:∀b∈fp,b<s.heap.objs.size)(hI:I∈fp)
  (hQ:∀s' acc,Moved wr G s s'->ItemsOf P acc n->Q acc.toList s')(hn:n<=sizeLine):abo (abu prog w) A (collect (.ref I)) Q E s:=by
 have go:∀(R:amc->aaj->Prop),(∀s' acc c,Moved wr G s s'->s'.heap.get? s.heap.objs.size=aa ⟨.type "list",ae,.seq acc c,#[]⟩->ItemsOf P acc n->R (.ok (.ret (.ref s.heap.objs.size))) s')->
   ai9 (abu prog w) A (.builtin "list.__iadd__" ⟨[.ref s.heap.objs.size,.ref I],[]⟩) R ⟨s.heap.push FH,s.gens,s.drawn,s.toks,s.os⟩:=by
  intro R k;refine codeAny_builtin F.entry_list_iadd ?_;rw[akR al5 _];exact Mk W hT (W.frame 0 s _ s.toks i6 (aat _) λb _ o e=>aap _ e) (λm=>absurd (hfp _ m) (agu _)) hI (abx _ rfl) hn
   λs' acc c mv=>k s' acc c (Moved.drop_new (o:=FH) (tk:=s.toks) mv (aat _))
 refine aab (wpAny_runValue (codeAny_builtin F.entry_proto_collect ?_));rw[akR F.plain_proto_collect _];exact aab (agR (aas ⟨plainId_quiet al5 _,go _ λs' acc c mv at' its=>
  (show abo _ A (load s.heap.objs.size >>= _) _ _ s' from aab (wpAny_load at' (aas (hQ s' acc mv its))))⟩))
end
end PySem
namespace L2
open PySem PySem.Spec PyProof.Rows
section
variable{X:Cx}
theorem Ml{zs:List Str}:∀{us:List Value},Vals (zs.map V.str) us->∃l:List (Str×Tok),strValues l=us/\l.map (·.1)=zs:=by
 induction zs with
 |nil=>
  intro us h;cases h;exact⟨[],rfl,rfl⟩
 |cons z r ih=>
  intro us h;cases h with
  |cons a b=>
   obtain⟨t,rfl⟩:=(show ∃t,_=ag0 z t from a);obtain⟨l,e1,e2⟩:=ih b;exact⟨(z,t)::l,by rw[<-e1];rfl,by rw[<-e2];rfl⟩
theorem FI{its:List Value}{acc:Array Value}(h:ItemsOf (λi v=>its.toArray[its.toArray.size - 1 - i]? =aa v) acc its.toArray.size):acc.toList=its.reverse:=by
 obtain⟨h1,h2⟩:=h;apply al6;intro j;have el:acc.toList.length=its.length:=by simpa using h1
 by_cases hj:j<its.length
 .have e1:acc[j]? =aa (acc[j]'(by rw[h1];simpa using hj)):=ah7 _
  have e2:=h2 j _ e1;rw[List.getElem?_reverse hj];have e3:acc.toList[j]? =acc[j]? :=by simp
  rw[e3,e1,<-e2];simp
 .rw[aiL (by omega),aiL (by rw[ald];omega)]
def Jb(sep:Str)(te:TE):TE:=λσ H Q=>te σ H λx H1=>∃(l:Addr) (zs:List Str),x= .ref l/\H1 l=aa (.lst (zs.map V.str))/\amU sep zs.reverse=true/\Q (.str (akc sep zs.reverse)) H1
theorem Dy{sep:Str}{j0:Nat}{p0 apos cY pr p2:Pos}{e:acu}{te:TE}(hc:X.calm=true)(hg:Gl X "reversed")(hm:X.mg "reversed" =ae)(he:PE X e te)
  (nR:((ahJ cY (aa9 [.Call (.Name "reversed" pr) [e] [] p2] X.env)).all (λx=>!x.1)&&(akL cY (aiz [] X.env)).all (λx=>x.1.isSome)
   &&decide ([Expr.Call (.Name "reversed" pr) [e] [] p2].length+([]:List aik).length+(if ([]:List aik).isEmpty then 0 else 1)<30))=true:=by rfl)
  (gH:(apos.endLine==cY.line)=true:=by rfl)(hs:aa9 [.Call (.Name "reversed" pr) [e] [] p2] X.env=[(false,ahx (.Call (.Name "reversed" pr) [e] [] p2) X.env)]:=by rfl)
  (nP:aa9 [e] X.env=[(false,ahx e X.env)]:=by rfl):
  PE X (.Call (.Attribute (.Constant (.str sep) j0 p0) "join" apos) [.Call (.Name "reversed" pr) [e] [] p2] [] cY) (Jb sep te):=by
 intro pins s σ H Q I h;refine aip rfl nR gH rfl (ahE ?_);have I0:=I.tok (s.toks+1);refine⟨"str","str.join",amn,akF,F.type_str_join,ahB _ _ _,(λ_ e=>nomatch e),?_⟩;rw[hs];refine ahD rfl (aiU ?_);show abo _ _ (spliced [(false,ahx (.Call (.Name "reversed" pr) [e] [] p2) X.env)]) _ _ _;refine ahF ?_;refine ag4 (oA I0 hg hm (u:=.type "reversed") (by decide +kernel) ?_);refine agL ?_ nP rfl;rw[nP];show abo _ _ (spliced [(false,ahx e X.env)]) _ _ _;refine ahF (cF (he pins _ σ H _ I0 h) λv s1 ⟨x,H1,I1,r1,q1⟩=>ait ?_);obtain⟨l,zs,rfl,hl,bB,q⟩:=q1;cases r1;obtain⟨hz,its,n,hv,hlen,e1⟩:=I1.yb hl;have hlz:zs.length=its.length:=by rw[<-hlen,aaE]
 refine call_reversed_list (l:=l) (items:=its.toArray) ⟨_,e1,rfl,n,rfl⟩ (ait ?_);have I2:Inv X pins σ H1 { s1 with heap:=s1.heap.push (anc l ((its.toArray.size:Int) - 1)) }:=I1.kept (t':=s1.toks) λb o e=>aap _ e
 have hit:(s1.heap.push (anc l ((its.toArray.size:Int) - 1))).IsRevIter s1.heap.objs.size l ((its.toArray.size:Int) - 1):=⟨_,abx _ rfl,rfl,rfl⟩;have e2:(s1.heap.push (anc l ((its.toArray.size:Int) - 1))).get? l=aa { cls:=.type "list",data:=.seq its.toArray n }:=aap _ e1;have kf:l≠s1.heap.objs.size:=abA (aaK e1);have Hw:H1 s1.heap.objs.size=ae:=I1.fresh;have hnL:s1.heap.objs.size≠X.env.locals:=λe=>by have:=I1.lt;rw[<-e]at this;exact agu _ this
 have E5:X.bR.heap.objs.size<=s1.heap.objs.size:=I1.sz;have UT:∀y c,X.env.cells.lookup y=aa c->c≠s1.heap.objs.size:=λy c ec z=>by
  obtain⟨v,o,Ig,_⟩:=I1.cell y c ec;have:=aaK Ig;rw[z]at this;exact agu _ this
 have hpn:∀p∈X.pn++pins,p.1≠s1.heap.objs.size:=λp hp z=>by
  have:=aaK (I1.pin p hp).1;rw[z]at this;exact agu _ this
 have es:s1.heap.objs.size<(s1.heap.push (anc l ((its.toArray.size:Int) - 1))).objs.size:=by rw[Heap.size_push];exact amm _
 generalize s1.heap.objs.size=p at*;generalize ON:({ s1 with heap:=s1.heap.push (anc l ((its.toArray.size:Int) - 1)) }:aaj)=s3 at*;have hh:s3.heap=s1.heap.push (anc l ((its.toArray.size:Int) - 1)):=by rw[<-ON]
 rw[<-hh]at hit e2 es;have W:=(Walks.listRev (prog:=X.prog) (w:=X.w) (A:=X.A.in1.in1) (I.ok.hd hc) p l kf its.toArray).toS;refine aiu (ah1 akF.plain F.entry_str_join (akF.check _ _ _ _ _ _ _ _ (ahB _ _ _) (F.args_str_join_2 _ _) ?_));show abo _ _ (amW.«str.join» ⟨[.str sep s.toks,.ref p],[]⟩) _ _ _;rw[join_tree_other];refine aab (aiF (akG hit) ?_);show abo _ X.A.in1 ((pyIter (.ref p)).tryCatch _ >>= λit=>collect it >>= λitems=>joinTail sep items) _ _ s3;refine aab (wpAny_tryCatch (wpAny_pyIter_revIter hit ?_));refine aab (BH W (λi s' st=>akG st.2.1) ⟨ab7 _,by simpa using hit,⟨_,e2,rfl,n,rfl⟩⟩ (λb hb=>?_) (by simp) (λs' acc hm aaF=>?_) ?_)
 .have:b=p\/b=l:=by simpa using hb
  rcases this with rfl|rfl
  .exact es
  .exact aaK e2
 .have ea:=FI aaF
  have Pr:Vals (zs.reverse.map V.str) its.reverse:=by rw[List.map_reverse];exact hv.reverse
  obtain⟨ls,el,em⟩:=Ml Pr;rw[ea,<-el];have Ao:amU sep (ls.map (·.1))=true:=by rw[em];exact bB
  unfold amU at Ao;rw[ajQ]at Ao;have g:Gives (joinTail sep (strValues ls)) (joinMade sep ls):=by
   have g0:=gives_joinTail sep ls Ao;cases ls with
   |nil=>exact g0
   |cons p r=>cases r with
    |nil=>exact g0
    |cons q r'=>exact g0
  refine g X.prog X.w X.A (wants _ _) s' (post_join ls ⟨joinFit_length Ao,λt' k=>?_⟩);rw[em];have Fo:s'= { s3 with heap:=s'.heap,toks:=s'.toks }:=by
   obtain⟨a1,a2,a3,a4,a5⟩:=s';obtain⟨b1,b2,b3,b4,b5⟩:=s3;have q1:=hm.gens;have q2:=hm.drawn;have q3:=hm.os;simp only at q1 q2 q3;subst q1 q2 q3;rfl
  have I3:Inv X pins σ H1 { s3 with heap:=s'.heap,toks:=k }:=I2.turned (t':=k) (it:=p) (λb o hb eb=>hm.heap b o (by simpa using hb) eb) Hw hnL (.inr E5) UT hpn;have Ie:({ s' with toks:=k }:aaj)= { s3 with heap:=s'.heap,toks:=k }:=by rw[Fo]
  rw[Ie];exact⟨.str (akc sep zs.reverse),H1,I3,⟨t',rfl⟩,q⟩
 .have:its.length<=sizeLine:=by rw[<-hlen];exact hz
  simpa using this
end
end L2
namespace L2
open PySem PySem.Spec PyProof.Rows
section
variable{X:Cx}
theorem Dz{sep:Str}{j0:Nat}{p0 apos cY pr p2:Pos}{e:acu}{fe:Qm.XE}(hc:X.calm=true)(hg:Gl X "reversed")(hm:X.mg "reversed" =ae)(he:QE X e fe)
  (nR:((ahJ cY (aa9 [.Call (.Name "reversed" pr) [e] [] p2] X.env)).all (λx=>!x.1)&&(akL cY (aiz [] X.env)).all (λx=>x.1.isSome)
   &&decide ([Expr.Call (.Name "reversed" pr) [e] [] p2].length+([]:List aik).length+(if ([]:List aik).isEmpty then 0 else 1)<30))=true:=by rfl)
  (gH:(apos.endLine==cY.line)=true:=by rfl)(hs:aa9 [.Call (.Name "reversed" pr) [e] [] p2] X.env=[(false,ahx (.Call (.Name "reversed" pr) [e] [] p2) X.env)]:=by rfl)
  (nP:aa9 [e] X.env=[(false,ahx e X.env)]:=by rfl):
  QE X (.Call (.Attribute (.Constant (.str sep) j0 p0) "join" apos) [.Call (.Name "reversed" pr) [e] [] p2] [] cY) (Qm.rP sep fe):=(Dy hc hg hm he nR gH hs nP).imp <| by
 rintro σ H Q ⟨ρ,env,c,d,c',rs,re,e,k⟩;obtain⟨p,e1,e⟩:=aJ e;obtain⟨l,e2,e⟩:=aJ e;obtain⟨xs,e3,e⟩:=aJ e;split at e
 .rename_i hz
  cases e;refine⟨ρ,env,c,p.1,p.2,rs,re,e1,λaN v H1 n1 r1=>?_⟩;obtain⟨_,_,vs,rfl,hl,ra⟩:=n1.rs.cj r1 e2;rw[tF ra e3]at hl;exact⟨_,xs,rfl,hl,hz,k aN _ H1 n1 (.str _)⟩
 .cases e
end
end L2
namespace L2
open PySem PySem.Spec PyProof.Rows
section
variable{X:Cx}
theorem AF{c:Qm.Cells}:∀{ws:List Str},(∀x∈ws,x.cps.all (·<1114112)=true)->Qm.omap (Qm.data c 5) (ws.map Qm.D.str)=aa (ws.map ahs)
 |[],_=>rfl
 |x::ws,h=>by
  have h1:=h x (by simp);have ih:=AF (c:=c) (ws:=ws) λy hy=>h y (by simp[hy])
  simp only[abk,Qm.omap];rw[ih];simp only[Qm.data];rw[if_pos h1];rfl
open Classical in
theorem FJ{e:acu}{fe:Qm.XE}{n:Str}{a:Addr}{ws:List Str}{its:Array Value}{o:Obj}{m:Nat}{pos pos':Pos}(hu:X.A.units+64<cLine)(hg:Gl X n)(hm:X.mg n=aa (.ref a))(hk:X.K.lookup a=aa o)(ho:o.cls= .type "tuple")(hd:o.data= .seq its m)(hz:its.size<=sizeLine)(hv:Vals (ws.map V.str) its.toList)
  (hw:∀x∈ws,x.cps.all (·<1114112)=true)(he:QE X e fe)(hb:agX .NotIn (.Name n pos)=false:=by with_unfolding_all rfl)(mR:(n==("__debug__":Str))=false:=by decide):QE X (.Compare e [.NotIn] [.Name n pos] pos') (Qm.ly ws fe):=
 (CJ (yC hu) he (qh (v:=.ref a) hg hm rfl mR) hb).imp <| by
 rintro σ H Q ⟨ρ,env,c,d,c',rs,re,e,k⟩;obtain⟨p,e1,e⟩:=aJ e;obtain⟨dd,e2,e⟩:=aJ e;cases e;refine⟨ρ,env,c,p.1,p.2,rs,re,e1,λaN v H1 n1 r1=>?_⟩;obtain⟨a1,a2,a3,a4⟩:=jQ n1.rs 5 r1 e2;obtain⟨b1,b2,b3,b4⟩:=uN (k:=5) n1.rs (λr h=>jQ n1.rs 5 r h) (yP ws) (AF hw);refine⟨a,ws.map V.str,dd,ws.map ahs,rfl,.inr (.inr ⟨o,its,m,hk,ho,hd,hz,hv⟩),a1,b1,by simp[agt,a2];omega,by omega,mr b2,?_⟩;rw[if_pos rfl];have:((ws.map ahs).any λe=>ado e dd)=decide (dd∈ws.map ahs):=by
  rw[agM];simp only[ahj,decide_eq_true_eq];constructor
  .rintro⟨e,he,q⟩
   rw[je e dd (uO b4 e he) a4]at q;exact q ▸ he
  .intro hd
   exact⟨dd,hd,(je dd dd a4 a4).mpr rfl⟩
 rw[this];exact k aN _ H1 n1 (.bl _)
end
end L2
namespace L2
open PySem PySem.Spec PyProof.Rows
def DA(K:aaa)(a:Addr)(ws:List Str):Prop:=∃(o:Obj) (its:Array Value) (m:Nat),K.lookup a=aa o/\o.cls= .type "tuple"/\o.data= .seq its m/\its.size<=sizeLine/\Vals (ws.map V.str) its.toList
theorem DA.mk_{K:aaa}{a:Addr}{ws:List Str}{d:Option Addr}{its:Array Value}{m:Nat}{sl:Array (Option Value)}(h:K.lookup a=aa ⟨.type "tuple",d,.seq its m,sl⟩)(v:Vals (ws.map V.str) its.toList)(hz:(its.size).ble 1000=true:=by rfl):DA K a ws:=⟨_,its,m,h,rfl,rfl,by have:=Nat.le_of_ble_eq_true hz;rw[adt];omega,v⟩
theorem DB{X:Cx}{e:acu}{fe:Qm.XE}{n:Str}{a:Addr}{ws:List Str}{pos pos':Pos}(hu:X.A.units+64<cLine)(hg:Gl X n)(hm:X.mg n=aa (.ref a))(hk:DA X.K a ws)
  (hw:∀x∈ws,x.cps.all (·<1114112)=true)(he:QE X e fe)(hb:agX .NotIn (.Name n pos)=false:=by with_unfolding_all rfl)(mR:(n==("__debug__":Str))=false:=by decide):QE X (.Compare e [.NotIn] [.Name n pos] pos') (Qm.ly ws fe):=by
 obtain⟨o,its,m,h1,h2,h3,h4,h5⟩:=hk;exact FJ hu hg hm h1 h2 h3 h4 h5 hw he hb mR
end L2
namespace Qm
open PySem
noncomputable section
def mW(d:D):Option Nat:=match d with
 |.tup [.aA,.aA,.aA,.ref n]=>aa n
 |_=>ae
def uS(a:XE):XS:=λσ c=>(a σ c).bind λp=>match p.1 with
 |.ref n=>aa (.rt (.tup [.aA,.aA,.aA,.ref n]),σ,p.2)
 |_=>ae
def yS(e:XE):XS:=λσ c=>(e σ c).bind λp=>match mW p.1 with
 |none=>aa (.rt p.1,σ,p.2)
 |some _=>ae
def mX(s:XS):XS:=λσ c=>(s σ c).bind λp=>match p.1 with
 |.rt _=>ae
 |_=>aa p
def kD(F:FN)(a:XA):XE:=λσ c=>(a σ c).bind λp=>(F p.1 p.2).bind λq=>match mW q.1 with
 |none=>aa q
 |some _=>ae
def Hx(F:FN)(S i j:Nat)(a:XA):XS:=λσ c=>(a σ c).bind λp=>(F p.1 p.2).bind λq=>match mW q.1 with
 |none=>aa (.nx,σ,q.2)
 |some n=>match q.2[n]? with
  |some (.exc _ S' _)=>if S'=S then aa (.nx,(σ.set i (aa (.ref n))).set j ae,q.2)else ae
  |_=>ae
end
end Qm
namespace L2
open PySem PySem.W PySem.Spec PyProof.Rows
structure wJ(h:Heap)(e C:Addr)(d:Option Addr)(T:Addr)(fl:Value):Prop where
 ex:∃(vs:Array Value) (sl:Array (Option Value)) (oT:Obj) (ts:Array Value),h.get? e=aa (xo C d vs sl)/\vs[1]? =aa (.ref T)/\T≠e/\h.get? T=aa oT/\oT.data= .fields ts/\ts[3]? =aa fl
def BI(fs:List Addr)(p:Addr->Prop)(h h':Heap):Prop:=∀b o,h.get? b=aa o->¬p b->(b∉fs->h'.get? b=aa o)/\∃sl,h'.get? b=aa { o with slots:=sl }
section
variable{M:amY}{A:abL}{E:Value->aaj->Prop}{s:aaj}{base:Heap}{env:Env}{outer:List Env}{L e C T:Addr}{d:Option Addr}{vs:Array Value}{sl:Array (Option Value)}{Q:Unit->aaj->Prop}{fl head:Value}{hn:Bool}
theorem DC(hl:s.heap.FunFrames base (env::outer))(he:s.heap.get? e=aa (xo C d vs sl)):e∉mQ (env::outer):=λm=>by
 obtain⟨_,o,ho,nf⟩:=hl.mem m;rw[he]at ho;cases ho;exact nf vs rfl
theorem yT(Mm:A.frames=aa (env::outer))(hl:s.heap.FunFrames base (env::outer))(hf:env.frame=aa L)(he:s.heap.get? e=aa (xo C d vs sl))(hz: 1<vs.size)
  (h:∀h' T,s.heap.get? T=ae->wJ h' e C d T (alH L)->BI (mQ (env::outer)) (·=e) s.heap h'->Q () { s with heap:=h' }):
  abo M A (do let a <-frameOf env;let pl <-entryPlaceOf L hn;let b <-ale head a .none (alH L) .none pl;setField (.ref e) 1 b) Q E s:=by
 have ne:=DC hl he;refine aab (wpAny_frameOf_fun Mm hl hf λh1 so=>aab (wpAny_entryPlaceOf λpl hp=>?_));unfold ale newFields;refine aab (agR ?_ (hp.sizeOk5 _ _ _ _ _));obtain⟨z1,z2,z3⟩:=so;have g1:h1.get? e=aa (xo C d vs sl):=(z2 e ne).trans he;have neT:h1.objs.size≠e:=aiE (aaK g1);have g2:=aap (h:=h1) { cls:=.type "traceback",dict:=ae,data:=.fields ([head,.ref L,.none,alH L,.none]++(if pl.isEmpty then aaL 6 ag3 else pl)).toArray } g1;refine ak1 g2 rfl hz (h _ h1.objs.size (ahZ (by rw[z1];exact aat _)) ⟨vs.setIfInBounds 1 (.ref h1.objs.size),sl,_,_,ahl _ g2 rfl,by simp[hz],neT,(agB _ _ neT.symm).trans (abx h1 rfl),rfl,by first|(simp;done)|(rcases hp with rfl|⟨_,_,_,_,_,_,_,rfl⟩<;>simp)⟩ λb o hb hp=>⟨λnb=>?_,?_⟩)
 .exact(agB _ _ (ahb hp)).trans (aap _ ((z2 b nb).trans hb))
 .obtain⟨w,hw⟩:=z3 b o hb
  exact⟨w,(agB _ _ (ahb hp)).trans (aap _ hw)⟩
theorem FK(Mm:A.frames=aa (env::outer))(hl:s.heap.FunFrames base (env::outer))(hf:env.frame=aa L)(he:s.heap.get? e=aa (xo C d vs sl))(h1:vs[1]? =aa .none)
  (h:∀h' T,s.heap.get? T=ae->wJ h' e C d T (alH L)->BI (mQ (env::outer)) (·=e) s.heap h'->Q () { s with heap:=h' }):abo M A (akA (.ref e) env) Q E s:=by
 unfold akA;simp only[hf];refine aab (aix he rfl h1 ?_);rw[if_neg (by decide)];exact yT Mm hl hf he (ahh.mp h1).1 h
theorem Jc(Mm:A.frames=aa (env::outer))(hl:s.heap.FunFrames base (env::outer))(hf:env.frame=aa L)(ft:wJ s.heap e C d T .none)
  (h:∀h' T',s.heap.get? T'=ae->wJ h' e C d T' (alH L)->BI (mQ (env::outer)) (λb=>b=e\/b=T) s.heap h'->Q () { s with heap:=h' }):abo M A (akA (.ref e) env) Q E s:=by
 obtain⟨vs,sl,oT,ts,g1,g2,ne,g3,g4,g5⟩:=ft;unfold akA;simp only[hf];refine aab (aix g1 rfl g2 ?_);rw[if_pos (show(abm T != ag3)=true from by simp)];refine aab (aix g3 g4 g5 ?_);rw[if_neg (show ¬((ag3==alH L)=true)from by simp[alH])];refine aab (ak1 g3 g4 (ahh.mp g5).1 ?_);have DD:∀b,b≠T->(s.heap.update T (aiZ (·.setIfInBounds 3 ag3))).get? b=s.heap.get? b:=λb hb=>agB _ _ (ahb hb)
 have nf:∀b o,s.heap.get? b=aa o->(∀us,o.data≠.fields us)->b≠T:=λb o hb k z=>by
  rw[z,g3]at hb;cases hb;exact k ts g4
 refine yT (s:={ s with heap:=s.heap.update T (aiZ (·.setIfInBounds 3 ag3)) }) Mm (hl.of_keeps λb o hb k=>⟨o,(DD b (nf b o hb k)).trans hb,rfl⟩) hf ((DD e ne.symm).trans g1) (ahh.mp g2).1 λh' T' nT fl st=>?_
 have FL:T'≠T:=by
  rintro rfl;have:=ahl (aiZ (·.setIfInBounds 3 ag3)) g3 (akH (ajw g4 _));rw[show(s.heap.update T' (aiZ (·.setIfInBounds 3 ag3))).get? T'=ae from nT]at this;cases this
 refine h h' T' ((DD T' FL).symm.trans nT) fl λb o hb k=>?_
 exact st b o ((DD b λz=>k (.inr z)).trans hb) λz=>k (.inl z)
theorem vR(ft:wJ s.heap e C d T fl)(h:∀h',wJ h' e C d T .none->BI [] (·=T) s.heap h'->Q () { s with heap:=h' }):abo M A (setFlight (.ref e) ae) Q E s:=by
 obtain⟨vs,sl,oT,ts,g1,g2,ne,g3,g4,g5⟩:=ft;have z:=(ahh.mp g5).1;have DD:∀b,b≠T->(s.heap.update T (aiZ (·.setIfInBounds 3 ag3))).get? b=s.heap.get? b:=λb hb=>agB _ _ (ahb hb)
 unfold setFlight;refine aab (aix g1 rfl g2 ?_);rw[if_pos (show(abm T != ag3)=true from by simp)];refine ak1 g3 g4 z (h _ ⟨vs,sl,_,_,(DD e ne.symm).trans g1,g2,ne,ahl _ g3 (akH (ajw g4 _)),ajw g4 _,by simp[z]⟩ λb o hb k=>?_);exact⟨λ_=>(DD b k).trans hb,o.slots,(DD b k).trans hb⟩
end
def xl(P:Program)(w:abZ)(K:Frag):vC:=λouter H s E e s'=>∃(a:Addr) (H':Hp) (C S:Addr) (cd:ag8) (d:Option Addr) (T:Addr),e= .ref a/\s'.os=s.os/\aj2 s'.gens/\Un (mQ outer) [] H H' s.heap s'.heap/\ip P w H' s'.heap/\XK0 K C S cd/\
 H' a=ae/\H' T=ae/\s.heap.get? a=ae/\s.heap.get? T=ae/\wJ s'.heap a C d T .none/\∀jA vs sl,jA a=aa (xh a (xo C d vs sl))->(∀b o,H' b=aa o->jA b=aa o)->E (.ref a) ae jA
def wo(H:Hp)(a:Addr):Hp:=λb=>if b=a then ae else H b
theorem DE{H:Hp}{a:Addr}:wo H a a=ae:=if_pos rfl
theorem qH{H:Hp}{a b:Addr}(h:b≠a):wo H a b=H b:=if_neg h
theorem ip.none_of{P:Program}{w:abZ}{H:Hp}{h:Heap}{b:Addr}(x:ip P w H h)(e:h.get? b=ae):H b=ae:=by
 cases q:H b with
 |none=>rfl
 |some u=>
  obtain⟨z,hz⟩:=(x b u q).there;rw[e]at hz;cases hz
section
variable{P:Program}{w:abZ}{K:Frag}{mg:Str->Option Value}{base:Heap}{N:List Str}{qual:Str}{scope:Scope}{f a C S:Addr}{bS:Value}{A:abL}{outer:List Env}{s s1:aaj}{H H1:Hp}{E:XK}{pins:List (Addr×Obj)}{σ:St}{cd:ag8}{d:Option Addr}{vs:Array Value}{sl:Array (Option Value)}
theorem Jd(I:Inv (mf (xl P w K) P w K mg base N qual scope f bS A outer s H E) pins σ H1 s1)(hh:H1 a=aa (xm a (xo C d vs sl)))(h1:vs[1]? =aa .none)(hn:s.heap.get? a=ae)(c:XK0 K C S cd)
  (q:∀jA vs sl,jA a=aa (xh a (xo C d vs sl))->(∀b o,b≠a->H1 b=aa o->jA b=aa o)->E (.ref a) ae jA):(mf (xl P w K) P w K mg base N qual scope f bS A outer s H E).xe (.ref a) s1:=by
 have ga:=I.Ho hh;show abo _ _ (leaving _ _) _ _ s1;unfold leaving;refine aab (FK (env:=aja qual scope s.heap.objs.size f bS) (outer:=outer) I.ok.frames I.stack rfl ga h1 λh' T nT fl st=>?_);refine vR (s:={ s1 with heap:=h' }) fl λh2 Pt oE=>?_
 have kp:∀b o,s1.heap.get? b=aa o->b≠a->(b∉mQ (aja qual scope s.heap.objs.size f bS::outer)->h2.get? b=aa o)/\∃sl,h2.get? b=aa { o with slots:=sl }:=λb o hb na=>by
  have FL:b≠T:=λz=>by rw[z,nT]at hb;cases hb
  obtain⟨p1,w,p2⟩:=st b o hb na;refine⟨λnf=>(oE b o (p1 nf) FL).1 (by simp),?_⟩;exact⟨w,(oE b _ p2 FL).1 (by simp)⟩
 have na:∀b o,s.heap.get? b=aa o->b≠a:=λb o hb z=>by rw[z,hn]at hb;cases hb
 have nh:∀b u,H1 b=aa u->(∀φ,u≠.ext φ)->b≠a:=λb u hb k z=>by
  rw[z,hh]at hb;cases hb;exact k _ rfl
 have pU:∀b:Addr,b∉(mf (xl P w K) P w K mg base N qual scope f bS A outer s H E).ex:=λb z=>absurd (show b∈([]:List Addr)from z) (by simp)
 have loc:∀b o,s.heap.get? b=aa o->b∉mQ outer->b∉mQ (aja qual scope s.heap.objs.size f bS::outer):=λb o hb nb z=>by
  have z':b∈s.heap.objs.size::mQ outer:=z;rcases aaI.mp z' with z'|z'
  .have:=aaK hb
   rw[z']at this;exact agu _ this
  .exact nb z'
 refine⟨a,wo H1 a,C,S,cd,d,T,rfl,I.os,I.bare,⟨λb o hb nb hf _=>?_,λb o hb nb hf _=>?_,λb o hb nb _=>?_,λb o hb _=>?_,λb xs hb=>?_,λb o u hb=>?_,λb ps hb=>?_⟩,λb u hb=>?_,c,DE,?_,hn,?_,Pt,λjA vs sl h1 h2=>q jA vs sl h1 λb o nb hb=>h2 b o (by rw[qH nb];exact hb)⟩
 .exact(kp b o (I.base.keep b o hb nb hf (pU b)) (na b o hb)).1 (loc b o hb hf)
 .obtain⟨w,hw⟩:=I.base.slot b o hb nb hf (pU b)
  obtain⟨_,w2,DF⟩:=kp b _ hw (na b o hb);exact⟨w2,DF⟩
 .rw[qH (na b o hb)]
  exact I.base.free b o hb nb (pU b)
 .obtain⟨o',hw⟩:=I.base.there b o hb (pU b)
  obtain⟨_,w2,DF⟩:=kp b _ hw (na b o hb);exact⟨_,DF⟩
 .have:=I.base.pS b xs hb
  rw[qH (nh b _ this λ_ z=>by cases z)];exact this
 .have:=I.base.kR b o u hb
  rw[qH (nh b _ this λ_ z=>by cases z)];exact this
 .obtain⟨more,this⟩:=I.base.pT b ps hb
  refine⟨more,?_⟩;rw[qH (nh b _ this λ_ z=>by cases z)];exact this
 .by_cases nb:b=a
  .rw[nb,DE]at hb;cases hb
  .rw[qH nb]at hb
   refine(I.bB b u hb).pR (λc v hc gc=>?_) (λc hc=>?_) λc xs hc=>?_
   .have:c≠a/\∃u,H1 c=aa u:=by
     rcases hc with rfl|hc
     .exact⟨nb,u,hb⟩
     .exact⟨nh c _ hc (λ_ z=>by cases z),_,hc⟩
    obtain⟨nc,u',xQ⟩:=this;refine(kp c v gc nc).1 λz=>?_
    rw[I.uj c z]at xQ;cases xQ
   .rw[qH (nh c _ hc λ_ z=>by cases z)];exact hc
   .rw[qH (nh c _ hc λ_ z=>by cases z)];exact hc
 .have:H1 T=ae:=I.bB.none_of nT
  unfold wo;rw[this];split<;>rfl
 .cases q:s.heap.get? T with
  |none=>rfl
  |some o=>
   obtain⟨o',hw⟩:=I.base.there T o q (pU T);rw[nT]at hw;cases hw
end
end L2
namespace L2
open PySem PySem.W PySem.Spec PyProof.Rows
def R_(K:Frag)(E:XK)(ρ:Nat->Addr)(c:Qm.Cells)(H:Hp)(env:Qm.Env)(D:Ends):Qm.Fl->Prop
 |.nx=>∀σ,RE K ρ c.length H env σ->D.nx σ H
 |.bk=>∀σ,RE K ρ c.length H env σ->D.bk σ H
 |.ct=>∀σ,RE K ρ c.length H env σ->D.ct σ H
 |.rt d=>match Qm.mW d with
  |none=>∀v,RD K ρ c.length H d v->D.rt v H
  |some n=>E (.ref (ρ n)) ae H
def SX(K:Frag)(E:XK)(f:Qm.XS):TS:=λD σ H=>∃ρ env c fl bW c',RS K ρ c H/\RE K ρ c.length H env σ/\f env c=aa (fl,bW,c')/\∀aZ H',Nx K ρ c H aZ c' H'->R_ K E aZ c' H' bW D fl
def QY(X:Cx)(E:XK)(st:Stmt)(f:Qm.XS):Prop:=PS X st (SX X.K E f)
def DG(X:Cx)(E:XK)(st:List Stmt)(f:Qm.XS):Prop:=nM X st (SX X.K E f)
def Mn(X:Cx)(E:XK):Prop:=∀(pins:List (Addr×Obj)) (σ:St) (H1:Hp) (s1:aaj) (a C S:Addr) (cd:ag8) (d:Option Addr) (vs:Array Value) (sl:Array (Option Value)),Inv X pins σ H1 s1->H1 a=aa (xm a (xo C d vs sl))->vs[1]? =aa .none->X.bR.heap.get? a=ae->XK0 X.K C S cd->
 (∀jA vs sl,jA a=aa (xh a (xo C d vs sl))->(∀b o,b≠a->H1 b=aa o->jA b=aa o)->E (.ref a) ae jA)->X.xe (.ref a) s1
variable{mg:Str->Option Value}{N:List Str}
theorem lands{P:Program}{w:abZ}{K:Frag}{base:Heap}{qual:Str}{scope:Scope}{f:Addr}{bS:Value}{A:abL}{outer:List Env}{s:aaj}{H:Hp}{E:XK}:Mn (mf (xl P w K) P w K mg base N qual scope f bS A outer s H E) E:=
 λ_ _ _ _ _ _ _ _ _ _ _ I hh h1 hn c q=>Jd I hh h1 hn c q
section
variable{X:Cx}{E:XK}{a b e tg:acu}{fa fb fe:Qm.XE}{ft:Qm.XT}{pos:Pos}{st:Stmt}{rest:List Stmt}{fs fr:Qm.XS}{fg:Qm.XG}
theorem BJ(h:QS X st fs):QY X E st (Qm.mX fs):=PS.imp h <| by
 rintro D σ H ⟨ρ,env,c,fl,bW,c',rs,re,e,k⟩;obtain⟨p,e1,e⟩:=aJ e;obtain⟨f,e2,c2⟩:=p;cases f with
 |nx=>cases e;exact⟨ρ,env,c,_,_,_,rs,re,e1,λaZ H' n=>k aZ H' n⟩
 |bk=>cases e;exact⟨ρ,env,c,_,_,_,rs,re,e1,λaZ H' n=>k aZ H' n⟩
 |ct=>cases e;exact⟨ρ,env,c,_,_,_,rs,re,e1,λaZ H' n=>k aZ H' n⟩
 |rt d=>cases e
theorem DH:DG X E [] Qm.bz:=nM.imp (bo (X:=X)) <| by
 rintro D σ H ⟨ρ,env,c,fl,bW,c',rs,re,e,k⟩;cases e;exact⟨ρ,env,c,_,_,_,rs,re,rfl,λaZ H' n=>k aZ H' n⟩
theorem uT(h1:QY X E st fs):DG X E [st] fs:=xV h1
theorem n_(h1:QY X E st fs)(h2:DG X E rest fr):DG X E (st::rest) (Qm.ax fs fr):=(Ak h1 h2).imp <| by
 rintro D σ H ⟨ρ,env,c,fl,bW,c',rs,re,e,k⟩;obtain⟨p,e1,e⟩:=aJ e;obtain⟨f,e2,c2⟩:=p;cases f with
 |nx=>exact⟨ρ,env,c,.nx,e2,c2,rs,re,e1,λaN H1 n1 σ1 qA=>⟨aN,e2,c2,fl,bW,c',n1.rs,qA,e,λaZ H' n=>k aZ H' (n1.trans n)⟩⟩
 |rt d=>cases e;exact⟨ρ,env,c,.rt d,bW,c',rs,re,e1,λaN H1 n1=>k aN H1 n1⟩
 |bk=>cases e;exact⟨ρ,env,c,.bk,bW,c',rs,re,e1,λaN H1 n1=>k aN H1 n1⟩
 |ct=>cases e;exact⟨ρ,env,c,.ct,bW,c',rs,re,e1,λaN H1 n1=>k aN H1 n1⟩
theorem Mo{c0:acu}{x y:List Stmt}(hc:QT X c0 ft)(ha:DG X E x fs)(hb:DG X E y fr):QY X E (.If c0 x y pos) (Qm.cu ft fs fr):=(Kg hc ha hb).imp <| by
 rintro D σ H ⟨ρ,env,c,fl,bW,c',rs,re,e,k⟩;obtain⟨p,e1,e⟩:=aJ e;refine⟨ρ,env,c,p.1,p.2,rs,re,e1,λaN H1 n1=>?_⟩;split at e
 .rename_i hi
  rw[if_pos hi];exact⟨aN,env,p.2,fl,bW,c',n1.rs,re.up n1.up,e,λaZ H' n=>k aZ H' (n1.trans n)⟩
 .rename_i hi
  rw[if_neg hi];exact⟨aN,env,p.2,fl,bW,c',n1.rs,re.up n1.up,e,λaZ H' n=>k aZ H' (n1.trans n)⟩
theorem Pu(he:QE X e fe):QY X E (.Return (aa e) pos) (Qm.yS fe):=(GN he).imp <| by
 rintro D σ H ⟨ρ,env,c,fl,bW,c',rs,re,e,k⟩;obtain⟨p,e1,e⟩:=aJ e;cases u:Qm.mW p.1 with
 |some n=>rw[u]at e;cases e
 |none=>
  rw[u]at e;cases e;refine⟨ρ,env,c,p.1,p.2,rs,re,e1,λaN v H1 n1 r1=>?_⟩;have z:=k aN H1 n1;unfold R_ at z;dsimp only at z;rw[u]at z;exact z v r1
theorem Pw{body:List Stmt}{fi:Qm.XI}(hp:akx (abu X.prog X.w) X.A X.env X.xe)(hc:X.calm=true)(hi:QI X tg e fi)(hg:QG X tg fg)(hb:DG X E body fs)
  (hs:∀x,agS e X.env x=pure x:=by intro _;rfl):QY X E (.For tg e body [] pos) (Qm.jc fi fg fs):=(GP hp hc hi hg hb hs).imp <| by
 rintro D σ H ⟨ρ,env,c,fl,bW,c',rs,re,e,k⟩;obtain⟨m,e1,e⟩:=aJ e;refine⟨ρ,env,c,m.1,m.2,rs,re,e1,λyx J H0 n0 it=>?_⟩;refine⟨λi q σ' H'=>q=m.1.ds.length - i/\i<=m.1.ds.length/\∃aN eA c1,Nx X.K yx m.2 H0 aN c1 H'/\RE X.K aN c1.length H' eA σ'/\Qm.bY m.1.ks fg fs (m.1.ds.drop i) eA c1=aa (fl,bW,c'),⟨_,rfl,ab7 _,yx,env,m.2,Nx.refl n0.rs,re.up n0.up,e⟩,?_⟩;rintro i q σ1 H1 ⟨rfl,hi,aN,eA,c1,n1,qA,e1⟩
 by_cases fW:i<m.1.ds.length
 .rw[agY fW]at e1
  unfold Qm.bY at e1;split at e1
  .rename_i i6
   obtain⟨go,_,yl⟩:=it aN c1 H1 n1.up n1.rs i6;obtain⟨p,e2,e1⟩:=aJ e1;obtain⟨q,e3,e1⟩:=aJ e1;refine .inr ⟨go i fW,λσ' H'=>i+1<=m.1.ds.length/\∃aN eA c1,Nx X.K yx m.2 H0 aN c1 H'/\RE X.K aN c1.length H' eA σ'/\Qm.bY m.1.ks fg fs (m.1.ds.drop (i+1)) eA c1=aa (fl,bW,c'),λσ' H' h=>⟨m.1.ds.length - (i+1),by omega,rfl,h⟩,λx H2 hy=>?_⟩;obtain⟨n2,r2⟩:=yl i _ x H2 (aav fW) hy;refine⟨aN,eA,c1,_,p.1,p.2,n2.rs,qA.up n2.up,r2,e2,λxj H3 oC n3 C_=>?_⟩;obtain⟨f,qC,c4⟩:=q;refine⟨xj,p.1,p.2,f,qC,c4,n3.rs,C_,e3,λoO H4 n4=>?_⟩;have nn:=n1.trans (n2.trans (n3.trans n4));cases f with
   |nx=>exact λyz qD=>⟨fW,oO,qC,c4,nn,qD,e1⟩
   |ct=>exact λyz qD=>⟨fW,oO,qC,c4,nn,qD,e1⟩
   |bk=>cases e1;exact λyz qD=>k oO H4 (n0.trans nn) yz qD
   |rt d=>cases e1;exact k oO H4 (n0.trans nn)
  .cases e1
 .have Ft:i=m.1.ds.length:=by omega
  subst Ft;rw[akf]at e1;unfold Qm.bY at e1;split at e1
  .rename_i i6
   obtain⟨_,stop,_⟩:=it aN c1 H1 n1.up n1.rs i6;cases e1;exact .inl ⟨stop,k aN H1 (n0.trans n1) σ1 qA⟩
  .cases e1
end
def Je(K:Frag)(F:Qm.FN):Sp:=λvs H Q E=>∃ρ c ds d c',RS K ρ c H/\RA K ρ c.length H ds vs/\F ds c=aa (d,c')/\∀aZ H',Nx K ρ c H aZ c' H'->match Qm.mW d with
 |none=>∀v,RD K aZ c'.length H' d v->Q v H'
 |some n=>E (.ref (aZ n)) ae H'
theorem AG{K:Frag}{n:Nat}{B:Qm.XS}{vs:List V}{H:Hp}{Q:VK}{E:XK}(hn:n<=N.length)(h:Je K (Qm.eP n N.length B) vs H Q E):vs.length=n/\SX K E B { nx:=λ_ H'=>Q .aA H',rt:=Q } (start N vs) H:=by
 obtain⟨ρ,c,ds,d,c',rs,ra,e,k⟩:=h;unfold Qm.eP at e;split at e
 .rename_i hl
  obtain⟨p,e1,e⟩:=aJ e;obtain⟨f,bW,c2⟩:=p;have hv:vs.length=n:=by rw[<-ra.length];exact hl
  refine⟨hv,ρ,_,c,f,bW,c2,rs,⟨?_,λi d hd=>?_⟩,e1,λaZ H' nx=>?_⟩
  .simp[start,hl,hv]
  .have hi:i<ds.length:=by
    by_cases hi:i<ds.length
    .exact hi
    .exfalso
     rw[agP (by simp;omega)]at hd;have:=aa8 hd;have:=agp this;cases this
   rw[abi (by simpa using hi),aa6]at hd;cases e:ds[i]? with
   |none=>rw[e]at hd;cases hd
   |some d'=>
    rw[e]at hd;cases hd;obtain⟨v,h1,h2⟩:=ra.get e;refine⟨v,?_,h2⟩;unfold start;rw[abi (by have:=ra.length;simp;omega),aa6,h1];rfl
  .cases f with
   |nx=>cases e;exact λσ' _=>k aZ H' nx .aA .aA
   |rt d=>cases e;exact k aZ H' nx
   |bk=>cases e
   |ct=>cases e
 .cases e
theorem eG.okY{P:Program}{w:abZ}{K:Frag}{base:Heap}{x qual:Str}{st:Stmt}{f:Addr}{fd:abd}{ps:List Str}{k n m:Nat}{B:Qm.XS}{FF:Qm.FN}(F:eG K x qual st f fd)(S:bg N ps (ar st))(hn:ps.length=n)(hm:N.length=m)(hN:n<=m)(hF:FF=Qm.eP n m B)
  (kW:∀(bS:Value) (A:abL) (outer:List Env) (s:aaj) (H:Hp) (E:XK),eX k (A.deeper (aja qual (ar st) s.heap.objs.size f bS))->
   DG (mf (xl P w K) P w K mg base N qual (ar st) f bS A outer s H E) E (aS st) B):bX P w K mg base (xl P w K) (k+1) f fd ps (Je K FF):=by
 subst hm hF;obtain⟨oc,od,kV,doc,pm,an,bS,ct,sZ,rfl,lk,sV⟩:=F.ex;exact E3 lk sV S (λvs H Q E h=>by rw[(AG hN h).1,hn]) λA outer s H vs Q E hr h=>⟨_,kW bS A outer s H E hr,(AG hN h).2⟩
theorem UU{X:Cx}:Passes (xl X.prog X.w X.K) X E0:=λ_ _ _ _ _ _ _ h=>by
 obtain⟨a,H',C,S,cd,d,T,_,_,_,_,_,_,h1,_,_,_,_,q⟩:=h;exact(q (upd H' a (xh a (xo C d #[] #[]))) _ _ bH λb o hb=>aG hb h1).elim
theorem AH{X:Cx}{k:Nat}{f:Addr}{fd:abd}{ps:List Str}{F:Qm.FN}{x:Str}{p pos:Pos}{e:acu}{es:List acu}{fx:Qm.XA}(G:bX X.prog X.w X.K X.mg X.base (xl X.prog X.w X.K) k f fd ps (Je X.K F))(hr:eX k X.A)(hg:Gl X x)(hm:X.mg x=aa (.ref f))(hk:aaJ X.K (.ref f)=true)(hb:Binds X.K fd ps [])
  (ha:QA X (e::es) fx)(mR:(x==("__debug__":Str))=false:=by decide)(he:aa9 (e::es) X.env=(false,ahx e X.env)::aa9 es X.env:=by rfl)(jZ:(ahJ pos (aa9 es X.env)).any (·.1)=false:=by rfl):
  QE X (.Call (.Name x p) (e::es) [] pos) (Qm.kD F fx):=(CP (E:=E0) (sY:=[]) (ds:=[]) G hr hg hm hk hb .nil UU ha mR he jZ).imp <| by
 rintro σ H Q ⟨ρ,env,c,d,c',rs,re,e,k⟩;obtain⟨p,e1,e⟩:=aJ e;obtain⟨q,e2,e⟩:=aJ e;cases u:Qm.mW q.1 with
 |some n=>rw[u]at e;cases e
 |none=>
  rw[u]at e;cases e;refine⟨ρ,env,c,p.1,p.2,rs,re,e1,λaN vs H1 n1 r1=>⟨aN,p.2,p.1,d,c',n1.rs,by simpa using r1,e2,λaZ H' n=>?_⟩⟩;rw[u];exact λv r=>k aZ v H' (n1.trans n) r
end L2
namespace L2
open PySem PySem.W PySem.Spec PyProof.Rows
section
variable{M:amY}{A:abL}{E:Value->aaj->Prop}{env:Env}
variable{nm q:Str}{C N:Addr}{bs bm:List Value}{hdct:Bool}{sn:List Str}{sub:List Value}{ab:Bool}{col:Option Bool}{dd:Option Addr}{k0 k1 k2 k3 k5:Option Value}{newId:String}
theorem FO{s:aaj}{x:Sem Value}{Q:Flow->aaj->Prop}(hb:bm.contains (.type "BaseException")=true)(hh:A.handled=ae)
  (h:abo M A x (λv s1=>∃e d t sl,v= .ref e/\s1.heap.get? C=aa (amK nm q C N bs bm hdct sn sub ab col dd k0 k1 k2 k3 k5 newId)/\
   s1.heap.get? e=aa (xo C d #[.ref t,.none,.none,.none,.bool false,.none] sl)/\E (.ref e) s1) E s):abo M A (raiseStmt env (aa x) ae) Q E s:=by
 have hc:(abm C::bm).contains (.type "BaseException")=true:=by rw[aju,hb,Bool.or_true]
 unfold raiseStmt;refine aab (acd h (λv s1 z=>?_) λ_ _ y=>y);obtain⟨e,d,t,sl,rfl,hC,he,hE⟩:=z;obtain⟨hp,g,dr,tk,os⟩:=s1
 repeat (first|with_reducible refine ahT he ?_|with_reducible refine ahT hC ?_|(with_reducible refine ak8 hC ?_;rw[hc])|wp_step)
 exact wpAny_raiseNew_none hh hE
end
section
variable{X:Cx}{pins:List (Addr×Obj)}{σ:St}{H:Hp}{s:aaj}{C S f:Addr}{fs ps:List Str}{cd:ag8}{fd:abd}{k:Nat}{Q:Value->aaj->Prop}{vs:List V}{us:List Value}
theorem Inv.Jf(I:Inv X pins σ H s){e:Addr}(h:s.heap.get? e=ae):H e=ae:=I.bB.none_of h
theorem Px(xc:XC X.K C S (aa f) fs cd)(F:bX X.prog X.w X.K X.mg X.base d8 k f fd ps (IV C fs))(hr:eX (k+1) X.A)(hb:Binds X.K fd ps [])(I:Inv X pins σ H s)(r:Vals vs us)(hl:vs.length=fs.length)(hz:fs.length<=100)
  (h:∀e dx tt od s',s.heap.get? e=ae->H e=ae->H dx=ae->dx≠e->L_ fs vs od->Inv X pins σ (upd (upd H dx (xh dx od)) e (xm e (xo C (aa dx) #[.ref tt,.none,.none,.none,.bool false,.none] #[]))) s'->Q (.ref e) s'):abo (abu X.prog X.w) X.A (call (.ref C) us) Q X.xe s:=by
 obtain⟨nm,q,N,bs,sn,sub,ab,col,dd,k0,k1,k2,k3,k5,lk,bB,L0,ht⟩:=xc.obj;have hN:s.heap.Ns N (s.heap.nsMap N):=.of_isNs (isNs_of_in I.fP bB);obtain⟨oI,gI,cI⟩:=Ph I.fP (xc.fn f rfl);have aaG:=Dn I.fP hN L0;have hT:=tail_of_in I.fP ht;have hC:=I.fP _ _ lk;obtain⟨hh,g,d,t,os⟩:=s;refine LY PySem.F.excBase_ValueError hT hC hN aaG gI cI (λh' e made=>?_) (by rw[<-r.length,hl];exact ab2 hz (by decide));obtain⟨tt,ge,_,_⟩:=made.there;have he:H e=ae:=I.Jf made.new;have I2:=I.UJ (a:=e) (t':=t) made.keeps made.new (vO (o:=xo C ae #[.ref tt,.none,.none,.none,.bool false,.none] #[]) ge)
 let H2:Hp:=upd H e (xm e (xo C ae #[.ref tt,.none,.none,.none,.bool false,.none] #[]))
 let W:VK:=λv H3=>v= .aA/\∃dx od,H2 dx=ae/\dx≠e/\L_ fs vs od/\H3=upd (upd H2 dx (xm dx od)) e (xm e (xo C (aa dx) #[.ref tt,.none,.none,.none,.bool false,.none] #[]))
 have hq:IV C fs (.ref e::vs) H2 W (λ_ _ _=>False):=⟨e,vs,_,_,rfl,hl,bH,λdx od h1 h2 h3=>⟨rfl,dx,od,h1,h2,h3,rfl⟩⟩;have r2:Vals (V.ref e::vs) (abm e::us):=.cons rfl r;have C0:(abm e::us++[]).length=ps.length:=by
  rw[aa5,<-r2.length];exact F.len _ _ _ _ hq
 have bb:=hb _ (abm e::us) I2.fP C0;rw[aa5]at bb;refine aiu (ajs (F.run _ X.stack _ _ ⟨abm e::us,[]⟩ (abm e::us) _ _ _ (hr.make C us []) (I2.Kz.make C us []) bb r2 hq) λrr s' DI=>?_)
 match rr,DI with
 |.ok (.ret u),DI=>
  obtain⟨v,H',I3,rv,ev,dx,od,h1,h2,h3,rfl⟩:=I2.after DI;subst ev;refine⟨rv,?_⟩;have hdx:H dx=ae:=by
   have:upd H e _ dx=ae:=h1;rw[aY h2]at this;exact this
  have I5:=I3.freeze (a:=dx) (o:=od) (by rw[aY h2,bH]);refine h e dx tt od s' made.new he hdx h2 h3 ?_;refine cast (congrArg (λZ=>Inv X pins σ Z s') ?_) I5
  funext b
  show upd (upd (upd (upd H e _) dx _) e _) dx _ b=_;unfold upd
  by_cases b1:b=dx
  .subst b1;simp[h2]
  .by_cases b2:b=e
   .subst b2;simp[b1]
   .simp[b1,b2]
end
section
variable{X:Cx}{E:XK}{C S f:Addr}{fs ps:List Str}{fd:abd}{k:Nat}{x:Str}{e:acu}{es:List acu}{pos aaH p:Pos}{fa:Qm.XA}
theorem Jg(hL:Mn X E)(hh:X.A.handled=ae)(hex:X.ex=[])(h:gL X.K C S (aa f) fs=true)(F:bX X.prog X.w X.K X.mg X.base d8 k f fd ps (IV C fs))(hr:eX (k+1) X.A)(hb:Binds X.K fd ps [])(hz:fs.length<=100)(hg:Gl X x)(hm:X.mg x=aa (.ref C))(ha:QA X (e::es) fa)
  (mR:(x==("__debug__":Str))=false:=by decide)(he:aa9 (e::es) X.env=(false,ahx e X.env)::aa9 es X.env:=by rfl)(jZ:(ahJ pos (aa9 es X.env)).any (·.1)=false:=by rfl):QY X E (.Raise (aa (.Call (.Name x p) (e::es) [] pos)) ae aaH) (Qm.uS (Qm.Dl C S fs fa)):=by
 obtain⟨cd,xc⟩:=LZ h;obtain⟨nm,q,N,bs,sn,sub,ab,col,dd,k0,k1,k2,k3,k5,lk,bB,L0,ht⟩:=xc.obj;intro pins s σ H D I hw;obtain⟨ρ,env,c,fl,bW,c',rs,re,e0,kk⟩:=hw;obtain⟨p1,e1,e0⟩:=aJ e0;obtain⟨p2,e2,e1⟩:=aJ e1;split at e1
 .rename_i hl
  cases e1;cases e0;rw[arm_exec_Raise];refine aab (aii ?_);refine FO (C:=C) (nm:=nm) (q:=q) (N:=N) (bs:=bs) (bm:=.ref S::vE) (hdct:=true) (sn:=sn) (sub:=sub) (ab:=ab) (col:=col) (dd:=dd) (k0:=k0) (k1:=k1) (k2:=k2) (k3:=k3) (k5:=k5) (newId:="ValueError.__new__") (by rfl) hh ?_;refine aab ?_;refine ag4 (qg I hg hm ?_ mR);refine ajt (h₀:=X.base) I.ok.mod.Ba xc.kp (cF (ha pos pins s σ H (λvs H1=>∃aN,Nx X.K ρ c H aN p2.2 H1/\RA X.K aN p2.2.length H1 p2.1 vs) I ⟨ρ,env,c,p2.1,p2.2,rs,re,e2,λaN vs H1 n1 r1=>⟨aN,n1,r1⟩⟩) λus s1 z=>?_) he jZ;obtain⟨vs,H1,I1,r,aN,n1,r1⟩:=z;refine⟨I1.fP,Px xc F hr hb I1 r (by rw[<-r1.length];exact hl) hz λa dx tt od s' na ha hd kf hf I2=>?_⟩;refine aab (aii (aas ?_));have hn0:X.bR.heap.get? a=ae:=by
   cases z:X.bR.heap.get? a with
   |none=>rfl
   |some o=>
    obtain⟨o',hw⟩:=I1.base.there a o z (by rw[hex];simp);rw[na]at hw;cases hw
  refine⟨a,aa dx,tt,#[],rfl,I2.fP _ _ lk,I2.Ho bH,hL pins σ _ s' a C S cd (aa dx) _ _ I2 bH rfl hn0 xc.toXK0 λjA kA sl g1 g2=>?_⟩;have n2:Nx X.K aN p2.2 H1 aN p2.2 (upd H1 dx (xh dx od)):=Nx.same n1.rs λb o hb=>aG hb hd
  obtain⟨m,hm,hfl⟩:=hf;obtain⟨n3,r3⟩:=Nx.Bu (l:=a) (z:=.exc C S (fs.zip p2.1)) (o:=xh a (xo C (aa dx) kA sl)) n2.rs (by rw[aY kf.symm];exact ha) (λaZ N' H' u hh=>by
   refine⟨(fs.map ahY).zip vs,⟨cd,aa dx,kA,sl,aa od,xc.toXK0,hh,u.fz _ _ _ bH,λg v hg=>?_⟩,Hq ((r1.up n2.up).up u)⟩;obtain⟨i,h1,h2⟩:=Mb hg;obtain⟨uu,e3,ru⟩:=hfl i g v h1 h2;exact⟨xc.fld g (aa8 h1),od,uu,rfl,hm.look e3,ru⟩)
  have n4:=Nx.same (H':=jA) n3.rs λb o hb=>by
   by_cases z:b=a
   .subst z
    rw[bH]at hb;rw[<-hb];exact g1
   .rw[aY z]at hb
    exact g2 b o z (by rw[aY z];exact hb)
  have w:=kk _ _ (((n1.trans n2).trans n3).trans n4);have w2:E (.ref (if p2.2.length=p2.2.length then a else aN p2.2.length)) ae jA:=w;rw[if_pos rfl]at w2;exact w2
 .cases e1
end
end L2
namespace L2
open PySem PySem.W PySem.Spec PyProof.Rows
section
variable{X:Cx}{pins:List (Addr×Obj)}{σ:St}{H:Hp}{s s':aaj}{E:XK}{Ex:Value->aaj->Prop}
variable{Q:Unit->aaj->Prop}
theorem Jh{e:Value}(I:Inv X pins σ H s)(i6:X.stack=X.env::X.outer)(UW:X.env.frame=aa X.env.locals)(hx:xl X.prog X.w X.K X.stack H s E e s')
  (k:∀(a C S:Addr) (cd:ag8) (d:Option Addr) (H4:Hp) (T:Addr) (vs:Array Value) (sl:Array (Option Value)) (oT:Obj) (s4:aaj),e= .ref a->XK0 X.K C S cd->Inv X pins σ H4 s4->wJ s4.heap a C d T .none->H4 a=aa (xm a (xo C d vs sl))->H4 T=aa (xm T oT)->T≠a->
   (∀jA vs sl,jA a=aa (xh a (xo C d vs sl))->(∀b o,b≠a->b≠T->H4 b=aa o->jA b=aa o)->E (.ref a) ae jA)->Q () s4):
  abo (abu X.prog X.w) X.A (akA e X.env) (λ_ s2=>abo (abu X.prog X.w) X.A (setFlight e ae) Q Ex s2) Ex s':=by
 obtain⟨a,H',C,S,cd,d,T,rfl,os,bare,un,bB,c,h1,h2,h3,h4,fl,q⟩:=hx;have I1:Inv X pins σ H' s':=I.EL os un bB bare λb z=>absurd z (by simp)
 refine Jc (env:=X.env) (outer:=X.outer) (base:=X.base) (by rw[I.ok.frames,i6]) (by rw[<-i6];exact I1.stack) UW fl λh' T' nT fl1 st1=>?_
 refine vR (s:={ s' with heap:=h' }) fl1 λPy Pt oE=>?_
 rw[<-i6]at st1;have nn:=Pt;obtain⟨vs,sl,oT,ts,g1,g2,ne,g3,g4,g5⟩:=nn.ex;have kp:∀b o,s'.heap.get? b=aa o->b≠a->b≠T->(b∉mQ X.stack->Py.get? b=aa o)/\∃sl,Py.get? b=aa { o with slots:=sl }:=λb o hb na nb=>by
  have FL:b≠T':=λz=>by rw[z,nT]at hb;cases hb
  obtain⟨p1,w,p2⟩:=st1 b o hb λz=>z.elim na nb
  refine⟨λnf=>(oE b o (p1 nf) FL).1 (by simp),?_⟩;exact⟨w,(oE b _ p2 FL).1 (by simp)⟩
 have Sa:H' T'=ae:=bB.none_of nT;have na:∀b o,s.heap.get? b=aa o->b≠a:=λb o hb z=>by rw[z,h3]at hb;cases hb
 have nb:∀b o,s.heap.get? b=aa o->b≠T:=λb o hb z=>by rw[z,h4]at hb;cases hb
 have nc:∀b o,s.heap.get? b=aa o->b≠T':=λb o hb z=>by
  obtain⟨o',hw⟩:=un.there b o hb (by simp);rw[z,nT]at hw;cases hw
 have gd:∀b o,H' b=aa o->upd (upd H' T' (xm T' oT)) a (xm a (xo C d vs sl)) b=aa o:=λb o hb=>aG (aG hb Sa) (by rw[aY ne.symm];exact h1)
 have Hw:∀b,b≠a->b≠T'->upd (upd H' T' (xm T' oT)) a (xm a (xo C d vs sl)) b=H' b:=λb z1 z2=>by rw[aY z1,aY z2]
 refine k a C S cd d (upd (upd H' T' (xm T' oT)) a (xm a (xo C d vs sl))) T' vs sl oT { s' with heap:=Py } rfl c ?_ Pt bH (by rw[aY ne,bH]) ne λjA vs sl z1 z2=>?_
 .refine I.EL (ch:=[]) (s':={ s' with heap:=Py }) os ⟨λb o hb n hf hx=>?_,λb o hb n hf hx=>?_,λb o hb n hx=>?_,λb o hb hx=>?_,λb xs hb=>gd _ _ (un.pS b xs hb),λb o u hb=>gd _ _ (un.kR b o u hb),λb ps hb=>?_⟩ (λb u hb=>?_) bare λb z=>absurd z (by simp)
  .exact(kp b o (un.keep b o hb n hf hx) (na b o hb) (nb b o hb)).1 hf
  .obtain⟨w,hw⟩:=un.slot b o hb n hf hx
   obtain⟨_,w2,DF⟩:=kp b _ hw (na b o hb) (nb b o hb);exact⟨w2,DF⟩
  .rw[Hw b (na b o hb) (nc b o hb)]
   exact un.free b o hb n hx
  .obtain⟨o',hw⟩:=un.there b o hb hx
   obtain⟨_,w2,DF⟩:=kp b _ hw (na b o hb) (nb b o hb);exact⟨_,DF⟩
  .obtain⟨more,z⟩:=un.pT b ps hb
   exact⟨more,gd _ _ z⟩
  .by_cases z1:b=a
   .subst z1
    rw[bH]at hb;cases hb;exact vO g1
   .by_cases z2:b=T'
    .subst z2
     rw[aY z1,bH]at hb;cases hb;exact vO g3
    .rw[Hw b z1 z2]at hb
     refine(bB b u hb).pR (λc v hc gc=>?_) (λc hc=>gd _ _ hc) λc xs hc=>gd _ _ hc
     have:∃u,H' c=aa u:=by
      rcases hc with rfl|hc
      .exact⟨u,hb⟩
      .exact⟨_,hc⟩
     obtain⟨u',xQ⟩:=this;refine(kp c v gc (λz=>by rw[z,h1]at xQ;cases xQ) (λz=>by rw[z,h2]at xQ;cases xQ)).1 λz=>?_
     rw[I1.uj c z]at xQ;cases xQ
 .refine q jA vs sl z1 λb o hb=>z2 b o (λz=>by rw[z,h1]at hb;cases hb) (λz=>by rw[z,Sa]at hb;cases hb) (gd _ _ hb)
abbrev Cx.FP(X:Cx)(a:Addr):Cx:={ X with A:=X.A.mark (aa (.ref a)),calm:=false }
theorem Inv.FP(I:Inv X pins σ H s)(a:Addr):Inv (X.FP a) pins σ H s:=
 ⟨⟨I.ok.mod,I.ok.kind,I.ok.glob,I.ok.blt,I.ok.above,I.ok.inj,I.ok.has,I.ok.Ic,(λz=>by cases z),I.ok.frames,I.ok.J_,I.ok.Ka,I.ok.bs,I.ok.zP,I.ok.pU,I.ok.Ai,I.ok.nL,I.ok.Cw⟩,I.os,I.bare,I.base,I.loc,I.cell,I.free,I.jE,I.pin,I.bB,I.len⟩
theorem Inv.UX{a:Addr}(ok:X.Ok)(I:Inv (X.FP a) pins σ H s):Inv X pins σ H s:=⟨ok,I.os,I.bare,I.base,I.loc,I.cell,I.free,I.jE,I.pin,I.bB,I.len⟩
theorem name_goes{M:amY}{A:abL}{j:Nat}{n:Str}{pos:Pos}(I:Inv X pins σ H s)(hN:X.N.Nodup)(hj:X.N[j]? =aa n)(hx:X.env.scope.names.lookup n=aa .local)(h:∀s',Inv X pins (σ.set j ae) H s'->Q () s'):
  abo M A (do amt X.env n .none;akS X.env n pos) Q Ex s:=by
 refine aab (akV (kL (v:=.aA) I hN hj (.inl hx) rfl (λs1 I1=>?_) (.inr hx)));have Cy:(X.env.scope.kind==.class||(X.env.scope.kind==.module&&X.env.locals != X.env.globals))=false:=by rw[I.ok.kind];rfl
 have hl:X.env.kindOf n=aa .local:=hx;have DJ:j<σ.length:=by rw[I.len];exact(aan.mp hj).1
 obtain⟨m,hn,hm⟩:=id I1.loc;have hmn:(m n).isSome=true:=by
  obtain⟨u,_,lk⟩:=hm j n .aA hj (by rw[ab0 DJ]) (.inl hx);rcases lk with⟨_,z⟩|⟨z,_⟩
  .rw[z];rfl
  .rcases z with z|z<;>(rw[hl]at z;cases z)
 unfold akS;refine wpAny_onRaise ?_;unfold unbindName;refine aab (wpAny_point (aab ?_));unfold deleteName;simp only[hl,Cy];rw[if_neg (by decide)];refine aab (wpAny_nsDel_keeps hn λh2 v Iy sb=>?_);rw[hmn];simp only[if_true,aha,abX,if_false];refine aas (wpAny_point (h _ ?_));obtain⟨oL,_,_,NY,_⟩:=id hn;have lt:∀b o,X.bR.heap.get? b=aa o->b≠X.env.locals:=λb o e=>abA (aa1 (aaK e) I.ok.above)
 refine⟨I1.ok,I1.os,I1.bare,⟨λb o e n hb hx=>(sb.2 b (lt b o e)).trans (I1.base.keep b o e n hb hx),λb o e n hb hx=>?_,I1.base.free,λb o e hx=>?_,I1.base.pS,I1.base.kR,I1.base.pT⟩,⟨_,Iy,λi y w e1 e2 e3=>?_⟩,λy c e=>?_,I1.free,I1.jE,λp hp=>?_,λb u hb=>?_,?_⟩
 .obtain⟨sl,z⟩:=I1.base.slot b o e n hb hx
  exact⟨sl,(sb.2 b (lt b o e)).trans z⟩
 .obtain⟨o',z⟩:=I1.base.there b o e hx
  exact⟨o',(sb.2 b (lt b o e)).trans z⟩
 .have ij:i≠j:=by
   rintro rfl;rw[ab0 DJ]at e2;cases e2
  rw[abt (ahb ij)]at e2;obtain⟨u,ru,lk⟩:=hm i y w e1 (by rw[abt (ahb ij)];exact e2) e3;have yn:y≠n:=by
   rintro rfl;obtain⟨l1,g1⟩:=aan.mp e1;obtain⟨l2,g2⟩:=aan.mp hj;exact ij ((amf hN).mp (g1.trans g2.symm))
  refine⟨u,ru,?_⟩;rcases lk with⟨z1,z2⟩|⟨z1,c,z2,z3⟩
  .exact .inl ⟨z1,(if_neg yn).trans z2⟩
  .refine .inr ⟨z1,c,z2,?_⟩
   obtain⟨v,hv⟩:=I1.cell y c z2;unfold Heap.IsCell at z3 |-
   rw[sb.2 c (I1.vy y c z2)];exact z3
 .obtain⟨v,hv⟩:=I1.cell y c e
  refine⟨v,?_⟩;unfold Heap.IsCell at hv |-
  rw[sb.2 c (I1.vy y c e)];exact hv
 .obtain⟨p1,p2,p3,p4⟩:=I1.pin p hp
  exact⟨(sb.2 _ p3).trans p1,p2,p3,p4⟩
 .refine(I1.bB b u hb).pR (λc v hc gc=>(sb.2 c ?_).trans gc) (λ_ q=>q) λ_ _ q=>q
  rintro rfl;rcases hc with rfl|hc
  .rw[I1.free]at hb;cases hb
  .rw[I1.free]at hc;cases hc
 .rw[abB]
  exact I.len
end
end L2
namespace L2
open PySem PySem.W PySem.Spec PyProof.Rows
theorem RE.Hy{K:Frag}{ρ:Nat->Addr}{N:Nat}{H:Hp}{env:Qm.Env}{σ:St}{d:Qm.D}{v:V}{w:Option V}{i j:Nat}(h:RE K ρ N H env σ)(r:RD K ρ N H d v)(w_:i≠j):RE K ρ N H ((env.set i (aa d)).set j ae) (((σ.set j w).set i (aa v)).set j ae):=by
 have hl:=h.len;refine⟨by simp only[abB];exact hl,λm e he=>?_⟩
 by_cases hm:m=j
 .subst hm
  rw[aal]at he;rw[if_pos rfl]at he;split at he<;>cases he
 .rw[abt (ahb hm)]at he |-
  by_cases hi:m=i
  .subst hi
   rw[aal,if_pos rfl]at he;split at he
   .rename_i fW
    cases he;exact⟨v,by rw[aal,if_pos rfl,if_pos (by rw[abB];omega)],r⟩
   .cases he
  .rw[abt (ahb hi)]at he |-
   rw[abt (ahb hm)];exact h.at_ m e he
theorem Pz{K:Frag}{C S:Addr}{cd:ag8}(c:XK0 K C S cd)(cS:ku K S)(hS:subIn K (.ref S) (.type "BaseException")=aa true):exmOne K (.ref C) (.ref S)=aa true:=by
 unfold exmOne;rw[if_pos (by rw[hS];rfl)];unfold kitCls;dsimp only
 rw[if_pos (by rw[cS.ty,cS.cls];rfl)];show mroIn K C (.ref S)=_;rw[lj c.cls c.mro];simp
section
variable{X:Cx}{S f:Addr}{ps:List Str}{fd:abd}{k i j:Nat}{x y z n:Str}{e:acu}{es:List acu}{pos Sd Ky AI apos p py pz pn:Pos}{fx:Qm.XA}{F:Qm.FN}
theorem PB(G:bX X.prog X.w X.K X.mg X.base (xl X.prog X.w X.K) k f fd ps (Je X.K F))(hr:eX k X.A)(hg:Gl X x)(hm:X.mg x=aa (.ref f))(hk:aaJ X.K (.ref f)=true)(hb:Binds X.K fd ps [])(ha:QA X (e::es) fx)
  (hgy:Gl X y)(hmy:X.mg y=aa (.ref S))(cS:ku X.K S)(hS:subIn X.K (.ref S) (.type "BaseException")=aa true)(i6:X.stack=X.env::X.outer)(UW:X.env.frame=aa X.env.locals)(PF:∀e s,X.xe e s->False)
  (hN:X.N.Nodup)(hi:X.N[i]? =aa z)(hj:X.N[j]? =aa n)(w_:i≠j)(hz:X.env.scope.names.lookup z=aa .local)(hn:X.env.scope.names.lookup n=aa .local)
  (hdn:(n==("__debug__":Str))=false/\(n==("__classdict__":Str))=false:=by decide)(hdy:(y==("__debug__":Str))=false:=by decide)(mR:(x==("__debug__":Str))=false:=by decide)(he:aa9 (e::es) X.env=(false,ahx e X.env)::aa9 es X.env:=by rfl)(jZ:(ahJ pos (aa9 es X.env)).any (·.1)=false:=by rfl)
  (C5:aih (.Call (.Name x p) (e::es) [] pos) ae Sd.line X.env=pure false:=by rfl)(hsa:aih (.Name n pn) (aa (.Name z pz)) apos.line X.env=pure false:=by rfl):
  QS X (.Try [.Expr (.Call (.Name x p) (e::es) [] pos) Sd] [.ExceptHandler (aa (.Name y py)) (aa n) [.Assign [.Name z pz] (.Name n pn) apos] AI] [] [] Ky) (Qm.Hx F S i j fx):=by
 intro pins s σ H D I h;obtain⟨ρ,env,c,fl,bW,c',rs,re,e0,kk⟩:=h;obtain⟨p1,e1,ea⟩:=aJ e0;obtain⟨q1,e2,eb⟩:=aJ ea;clear ea e0;refine wpAny_Try_except (ah8 (wpAny_Expr_any ?_ I.quiet C5));refine ag4 (qg I hg hm ?_ mR);refine ajt (h₀:=X.base) I.ok.mod.Ba hk (acd (ha pos pins s σ H (λvs H1=>∃aN,Nx X.K ρ c H aN p1.2 H1/\RA X.K aN p1.2.length H1 p1.1 vs) I ⟨ρ,env,c,p1.1,p1.2,rs,re,e1,λaN vs H1 n1 r1=>⟨aN,n1,r1⟩⟩) (λus s1 w=>?_) λ_ _ w=>(PF _ _ w).elim) he jZ;obtain⟨vs,H1,I1,r,aN,n1,r1⟩:=w;refine⟨I1.fP,?_⟩
 let Qd:VK:=λv H2=>Qm.mW q1.1=ae/\∃i9,Nx X.K aN p1.2 H1 i9 q1.2 H2
 let Ed:XK:=λv _ H2=>∃i9 m,Nx X.K aN p1.2 H1 i9 q1.2 H2/\Qm.mW q1.1=aa m/\v= .ref (i9 m)
 have s_:Je X.K F vs H1 Qd Ed:=⟨aN,p1.2,p1.1,q1.1,q1.2,n1.rs,r1,e2,λaZ H' n2=>by
  cases u:Qm.mW q1.1 with
  |none=>exact λv _=>⟨u,aZ,n2⟩
  |some m=>exact⟨aZ,m,n2,u,rfl⟩⟩
 have hlen:us.length=ps.length:=by rw[<-r.length];exact G.len _ _ _ _ s_
 have bb:=hb s1 us I1.fP (by rw[aa5];exact hlen);rw[aa5]at bb;refine aiu (ajs (G.run X.A X.stack s1 H1 ⟨us,[]⟩ us vs Qd Ed hr I1.Kz bb r s_) λrr s' hq=>?_)
 match rr,hq with
 |.ok (.ret u),hq=>
  obtain⟨v,H2,I2,rv,un,i9,n2⟩:=I1.after hq;rw[un]at eb;cases eb;exact ag1 (ag1 ⟨σ,H2,I2,kk i9 H2 (n1.trans n2) σ (re.up (n1.trans n2).up)⟩)
 |.error ex,hq=>
  have hq:xl X.prog X.w X.K X.stack H1 s1 Ed ex s':=hq;refine Jh (Q:=λ_ s3=>abo (abu X.prog X.w) X.A (handleBy ex X.env [.ExceptHandler (aa (.Name y py)) (aa n) [.Assign [.Name z pz] (.Name n pn) apos] AI]) (SP X pins D) X.xe s3) I1 i6 UW hq ?_;intro a C S' cd d H4 T kA FQ oT s4 eex xk I4 fl4 ga gT neT nO;subst eex
  -- oF class Se was Hy
  have w0:=nO (upd H4 a (xh a (xo C d kA FQ))) kA FQ bH λb o z1 _ hb=>by rw[aY z1];exact hb
  obtain⟨i9,m,n2,um,em⟩:=w0;have em:a=i9 m:=by cases em;rfl
  rw[um]at eb;dsimp only at eb;split at eb
  .rename_i C1 S1 fs1 oz
   split at eb
   .rename_i hS1
    subst hS1;cases eb;have sub:XK0 X.K C S1 cd:=by
     obtain⟨ws,xob,_⟩:=n2.rs.ok m _ oz;obtain⟨Mp,d',yU,Zw,ym,k1,k2,_⟩:=xob.ex;rw[<-em,bH]at k2;have hC:C=C1:=by
      have:=abK k2;injection this with z1 z2
      injection z1 with z3
      injection z3
     subst hC;have e3:cd=Mp:=abK (xk.cls.symm.trans k1.cls);subst e3;exact k1
    refine wpAny_handleBy_cons (codeAny_handlers_test ?_) (by intro q;cases q);refine qg (X:=X.FP a) (I4.FP a) hgy hmy ?_ hdy;have LT:Looks (abu X.prog X.w) s4.heap (amF (.ref a)) (.ref C):=(Looks.ld (I4.Ho ga)).andThen .now;refine(exm_one I4.fP LT (Pz sub cS hS)).here ?_;simp only[if_true];refine codeAny_handlers_suite_as ?_;refine vR fl4 λh5 fl5 ET=>?_
    obtain⟨vs5,sl5,UY,ts5,g1,g2,_,g3,g4,g5⟩:=fl5.ex;have I5:=I4.rewrite (a:=T) (h':=h5) (t':=s4.toks) gT (λb u hb hg=>(ET b u hg hb).1 (by simp)) g3;refine kL (v:=.ref a) I5 hN hj (.inl hn) rfl (λs6 I6=>?_) (.inr hn);have DJ:j<σ.length:=by rw[I.len];exact(aan.mp hj).1
    refine ah8 ?_;refine acd (GO (X:=X.FP a) (i:=i) hN hi (.inl hz) (xx (i:=j) hj (.inl hn) hdn.1 hdn.2) hsa (.inr hz) pins s6 _ _ { nx:=λσ' H'=>σ'=(σ.set j (aa (.ref a))).set i (aa (.ref a))/\H'=upd H4 T (xm T UY),rt:=λ_ _=>False } (I6.FP a) ⟨.ref a,by rw[ab0 DJ],rfl,rfl⟩) (λff s7 w=>?_) λ_ _ w=>(PF _ _ w).elim
    match ff,w with
    |.next,w=>
     obtain⟨xa,H7,I7,rfl,rfl⟩:=w;refine ag1 ?_;dsimp only
     refine name_goes (I7.UX I4.ok) hN hj hn λs8 I8=>?_
     have ga5:upd H4 T (xm T UY) a=aa (xm a (xo C d kA FQ)):=by rw[aY neT.symm];exact ga
     have I9:=I8.freeze ga5;have w2:=nO (upd (upd H4 T (xm T UY)) a (xh a (xo C d kA FQ))) kA FQ bH λb o z1 z2 hb=>by rw[aY z1,aY z2];exact hb
     obtain⟨xj,m3,n3,um3,UZ⟩:=w2;have UZ:a=xj m3:=by cases UZ;rfl
     rw[um]at um3;cases um3;have nn:=n1.trans n3;refine⟨_,_,I9,kk xj _ nn _ ?_⟩;refine(re.up nn.up).Hy ?_ w_;rw[UZ];exact .ref (aan.mp oz).1
    |.brk,w=>obtain⟨_,_,_,w⟩:=w;exact w.elim
    |.cont,w=>obtain⟨_,_,_,w⟩:=w;exact w.elim
    |.ret u,w=>obtain⟨_,_,_,_,_,w⟩:=w;exact w.elim
   .cases eb
  .cases eb
end
end L2
namespace My
end My
namespace Qm
open PySem
section
variable{σ:Env}{c c':Cells}{d:D}{i j:Int}{b:Bool}{xs ys:List D}
@[simp] theorem eC_:eC d σ c=aa (d,c):=rfl
@[simp] theorem eV_{k:Nat}:eV k σ c=(σ[k]?.join).bind λd=>aa (d,c):=rfl
@[simp] theorem e1_{g:G1}{a:XE}:e1 g a σ c=(a σ c).bind λp=>g p.1 p.2:=rfl
@[simp] theorem e2_{g:G2}{a b:XE}:e2 g a b σ c=(a σ c).bind λp=>(b σ p.2).bind λq=>g p.1 q.1 q.2:=rfl
@[simp] theorem aaO:qd (.bl b)=aa b:=rfl
@[simp] theorem aaP:qt (.int i)=aa i:=rfl
@[simp] theorem U0{a b:XE}:yp a b σ c=(a σ c).bind λp=>(qd p.1).bind λk=>if k=true then b σ p.2 else aa (.bl false,p.2):=rfl
@[simp] theorem aaQ{a b:XE}:eOr a b σ c=(a σ c).bind λp=>(qd p.1).bind λk=>if k=true then aa (.bl true,p.2)else b σ p.2:=rfl
@[simp] theorem U1{a:XE}:Ln a σ c=(a σ c).bind λp=>(qd p.1).bind λk=>aa (.bl (!k),p.2):=rfl
@[simp] theorem aaR{t:XT}{a b:XE}:lY t a b σ c=(t σ c).bind λp=>if p.1=true then a σ p.2 else b σ p.2:=rfl
@[simp] theorem U2:aj σ c=aa ([],c):=rfl
@[simp] theorem Hz{a:XE}{r:XA}:af a r σ c=(a σ c).bind λp=>(r σ p.2).bind λq=>aa (p.1::q.1,q.2):=rfl
@[simp] theorem U3{a:XA}:dc a σ c=(a σ c).bind λp=>if p.1.length<=dJ then aa (.tup p.1,p.2)else ae:=rfl
@[simp] theorem U4{a:XA}:aL a σ c=(a σ c).bind λp=>if p.1.length<=dJ then aa (.ref p.2.length,p.2++[.lst p.1])else ae:=rfl
@[simp] theorem HA{F:FN}{ds:List D}{a:XA}:av F ds a σ c=(a σ c).bind λp=>F (p.1++ds) p.2:=rfl
@[simp] theorem eB_{F:FN}{a:XA}:eB F a σ c=(a σ c).bind λp=>F p.1 p.2:=rfl
@[simp] theorem eM_{g:D->FN}{o:XE}{a:XA}:eM g o a σ c=(o σ c).bind λp=>(cj p.1 p.2).bind λ_=>(a σ p.2).bind λq=>g p.1 q.1 q.2:=rfl
@[simp] theorem PH:bU σ c=aa (ae,c):=rfl
@[simp] theorem aaS{g}{a:XE}{lo hi:XO}:eH g a lo hi σ c=(a σ c).bind λp=>(lo σ p.2).bind λl=>(hi σ l.2).bind λh=>g p.1 l.1 h.1 h.2:=rfl
@[simp] theorem tV_{a:XE}:tV a σ c=(a σ c).bind λp=>(qd p.1).bind λk=>aa (k,p.2):=rfl
@[simp] theorem U5{a b:XT}:dI a b σ c=(a σ c).bind λp=>if p.1=true then b σ p.2 else aa (false,p.2):=rfl
@[simp] theorem aaT{a b:XT}:oB a b σ c=(a σ c).bind λp=>if p.1=true then aa (true,p.2)else b σ p.2:=rfl
@[simp] theorem U6{a:XT}:sy a σ c=(a σ c).bind λp=>aa (!p.1,p.2):=rfl
@[simp] theorem U7:jB σ c=aa (true,c):=rfl
@[simp] theorem Mq{g h:G2}{a b e:XE}:mj g h a b e σ c=(a σ c).bind λp=>(b σ p.2).bind λq=>(g p.1 q.1 q.2).bind λz=>(qd z.1).bind λk=>if k=true then(e σ z.2).bind λu=>h q.1 u.1 u.2 else aa (.bl false,z.2):=rfl
@[simp] theorem U8:bz σ c=aa (.nx,σ,c):=rfl
@[simp] theorem jI{k:Nat}{e:XE}:aE k e σ c=(e σ c).bind λp=>aa (.nx,σ.set k (aa p.1),p.2):=rfl
@[simp] theorem U9{e:XE}{g:XG}:j5 e g σ c=(e σ c).bind λp=>(g p.1 σ p.2).bind λq=>aa (.nx,q.1,q.2):=rfl
@[simp] theorem U_{is:List Nat}{a:XA}:Hb is a σ c=(a σ c).bind λp=>if p.1.length=is.length then aa (.nx,(is.zip p.1).foldl (λσ q=>σ.set q.1 (aa q.2)) σ,p.2)else ae:=rfl
@[simp] theorem oa{t:XT}{a b:XS}:cu t a b σ c=(t σ c).bind λp=>if p.1=true then a σ p.2 else b σ p.2:=rfl
@[simp] theorem oQ{e:XE}:bj e σ c=(e σ c).bind λp=>aa (.rt p.1,σ,p.2):=rfl
@[simp] theorem PJ{e:XE}:de e σ c=(e σ c).bind λp=>aa (.nx,σ,p.2):=rfl
@[simp] theorem oR{k:Nat}:aM k d σ c=aa (σ.set k (aa d),c):=rfl
@[simp] theorem Va:kS [] σ c=aa (σ,c):=rfl
@[simp] theorem PK{g:XG}{r:zZ}:dY g r (d::xs) σ c=(g d σ c).bind λp=>r xs p.1 p.2:=rfl
@[simp] theorem Vb{n:Nat}{g:zZ}:kT n g (.tup xs) σ c=if xs.length=n then g xs σ c else ae:=rfl
def sq(b:XS)(p:Fl×Env×Cells):Option (Fl×Env×Cells):=match p.1 with
 |.nx=>b p.2.1 p.2.2
 |_=>aa p
@[simp] theorem lz{a b:XS}:ax a b σ c=(a σ c).bind (sq b):=rfl
@[simp] theorem Vc{b:XS}:sq b (.nx,σ,c)=b σ c:=rfl
@[simp] theorem Vd{b:XS}:sq b (.rt d,σ,c)=aa (.rt d,σ,c):=rfl
def fin(p:Fl×Env×Cells):Option (D×Cells):=match p.1 with
 |.rt d=>aa (d,p.2.2)
 |.nx=>aa (.aA,p.2.2)
 |_=>ae
variable{n:Nat}
theorem dB{N:Nat}{b:XS}{ds:List D}:eP n N b ds c=if ds.length=n then(b (ds.map aa++aaL (N - n) ae) c).bind fin else ae:=rfl
@[simp] theorem rQ:fin (.rt d,σ,c)=aa (d,c):=rfl
@[simp] theorem PL:fin (.nx,σ,c)=aa (.aA,c):=rfl
theorem BK{f:Int->Int->Option D}:ii f (.int i) (.int j) c=(f i j).bind λd=>aa (d,c):=rfl
@[simp] theorem Ve:iC (.int i) (.int j) c=aa (.int (i - j),c):=rfl
@[simp] theorem Vf:bc (.int i) (.int j) c=aa (.int (i+j),c):=rfl
@[simp] theorem aaU:nV (.int i) (.int j) c=aa (.bl (decide (i<j)),c):=rfl
@[simp] theorem aaV:OT (.int i) (.int j) c=aa (.bl (decide (i<=j)),c):=rfl
@[simp] theorem aaW:xi (.int i) (.int j) c=aa (.bl (decide (j<i)),c):=rfl
@[simp] theorem aaX:OU (.int i) (.int j) c=aa (.bl (decide (j<=i)),c):=rfl
@[simp] theorem Vg:ez (.int i) c=aa (.int (-i),c):=rfl
theorem mulL(h:i.natAbs<2 ^ 64):MulOk i j:=ana (abf ⟨h⟩)
theorem mulR(h:j.natAbs<2 ^ 64):MulOk i j:=ana (ana ⟨h⟩)
theorem aaY(h:My.Bd 90000 i)(g:My.Bd 90000 j):MulOk i j:=abf ⟨h,g⟩
theorem wK(h:i.natAbs<2 ^ 64):My.Bd 64 i:=⟨h⟩
theorem Mr(h:MulOk i j):Av (.int i) (.int j) c=aa (.int (i*j),c):=by unfold Av;rw[BK,if_pos h];rfl
theorem mB(h: 0<j)(hb:My.Bd 8900 j):eK (.int i) (.int j) c=aa (.int (i / j),c):=by
 unfold eK;rw[BK,if_pos ⟨by omega,hb⟩,ahW i (Int.le_of_lt h)];rfl
theorem yV(h: 0<j):cG (.int i) (.int j) c=aa (.int (i % j),c):=by
 unfold cG;rw[BK,if_pos (by omega),Int.fmod_eq_emod_of_nonneg i (Int.le_of_lt h)];rfl
@[simp] theorem AJ{k:Nat}:data c (k+1) (.int i)=aa (.int i):=by simp[data]
theorem DK:vH (.int i) (.int j) c=aa (decide (i=j)):=by
 have:vH (.int i) (.int j) c=(data c 6 (.int i)).bind λd=>(data c 6 (.int j)).bind λe=>aa (@decide (d=e) (adp _)):=rfl
 rw[this,AJ,AJ];simp
@[simp] theorem Ms:cO (.int i) (.int j) c=aa (.bl (decide (i=j)),c):=by unfold cO;rw[DK];rfl
@[simp] theorem Mt:gG (.int i) (.int j) c=aa (.bl (!decide (i=j)),c):=by unfold gG;rw[DK];rfl
@[simp] theorem PM{k:Bool}:cO (.bl b) (.bl k) c=aa (.bl (b==k),c):=rfl
@[simp] theorem PN{k:Bool}:gG (.bl b) (.bl k) c=aa (.bl (!(b==k)),c):=rfl
@[simp] theorem tG:dq (.tup xs) c=aa xs:=rfl
theorem aB(h:c[n]? =aa (.lst xs)):dq (.ref n) c=aa xs:=by simp[dq,h]
theorem AK(h:c[n]? =aa (.ro xs)):dq (.ref n) c=aa xs:=by simp[dq,h]
theorem bp(h:c[n]? =aa (.lst xs)):cj (.ref n) c=aa (n,xs):=by simp[cj,h]
theorem cJ{x:D}:aK x (.int i) c=(dq x c).bind λxs=>(eI xs i).bind λd=>aa (d,c):=rfl
@[simp] theorem Mu:aK (.tup xs) (.int i) c=(eI xs i).bind λd=>aa (d,c):=rfl
@[simp] theorem Mv{α:Type}{x:α}{xs:List α}:eI (x::xs) 0=aa x:=by simp[eI,qw]
@[simp] theorem Vh{α:Type}{x y:α}{xs:List α}:eI (x::y::xs) 1=aa y:=by
 have h:(1:Int)<((x::y::xs).length:Int):=by simp only[aac];omega
 unfold eI qw;rw[if_pos (by decide),if_pos h];rfl
@[simp] theorem Vi{α:Type}{x y z:α}{xs:List α}:eI (x::y::z::xs) 2=aa z:=by
 have h:(2:Int)<((x::y::z::xs).length:Int):=by simp only[aac];omega
 unfold eI qw;rw[if_pos (by decide),if_pos h];rfl
theorem gP{α:Type}{xs:List α}{x:α}(h:xs[n]? =aa x):eI xs (n:Int)=aa x:=by
 have hl:n<xs.length:=(aan.mp h).1;unfold eI qw;rw[if_pos (by omega),if_pos (by omega)];simpa using h
theorem iY{α:Type}{xs:List α}{x:α}:eI (xs++[x]) (-1)=aa x:=by
 unfold eI qw;rw[if_neg (by decide),if_pos (by simp only[aaf,aac,aam];omega)];have:((-1:Int)+((xs++[x]).length:Int)).toNat=xs.length:=by simp only[aaf,aac,aam];omega
 rw[this];simp
@[simp] theorem Mw:wG [.int i] c=aa (.int (if i<0 then -i else i),c):=rfl
@[simp] theorem Mx:yr [.bl b] c=aa (.int (if b then 1 else 0),c):=rfl
theorem eo{x:D}:bA [x] c=(dq x c).bind λxs=>aa (.int xs.length,c):=rfl
@[simp] theorem PQ:Bs [.int i,.int j] c=aa (.int (if j > i then j else i),c):=rfl
@[simp] theorem PR:Bt [.int i,.int j] c=aa (.int (if j<i then j else i),c):=rfl
theorem cW(h:n<=10000):n<=dJ:=ab2 h (by rw[uB];decide)
@[simp] theorem Vj: 1<=dJ:=cW (by decide)
@[simp] theorem Vk: 2<=dJ:=cW (by decide)
@[simp] theorem Vl: 3<=dJ:=cW (by decide)
@[simp] theorem Vm: 4<=dJ:=cW (by decide)
@[simp] theorem Vn: 5<=dJ:=cW (by decide)
@[simp] theorem Vo: 6<=dJ:=cW (by decide)
@[simp] theorem Vp: 7<=dJ:=cW (by decide)
@[simp] theorem Vq: 8<=dJ:=cW (by decide)
theorem PU{a:XA}(h:a σ c=aa ([.int i,.int j],c'))(h1:i.natAbs<2 ^ 61)(h2:j.natAbs<2 ^ 61):sW a σ c=aa (⟨eU i (j - i).toNat,[]⟩,c'):=by
 unfold sW;rw[h,Zu];dsimp only
 rw[if_pos ⟨⟨by omega,by omega⟩,by omega,by omega⟩]
theorem rR{a:XA}(h:a σ c=aa ([.int j],c'))(h2:j.natAbs<2 ^ 61):dZ a σ c=aa (⟨eU 0 j.toNat,[]⟩,c'):=by
 unfold dZ;rw[h,Zu];dsimp only
 rw[if_pos ⟨by omega,by omega⟩]
theorem fw:stays [] c:=λ_ h=>nomatch h
end
theorem iU{ks:List (Nat×Cell)}{g:XG}{body:XS}(P:Nat->Env->Cells->Prop):
  ∀(ds:List D) (k:Nat) (σ:Env) (c:Cells),(∀i σ c,P i σ c->stays ks c)->(∀i d σ c,ds[i]? =aa d->P (k+i) σ c->∃σ1 c1 σ2 c2,g d σ c=aa (σ1,c1)/\body σ1 c1=aa (.nx,σ2,c2)/\P (k+i+1) σ2 c2)->
   P k σ c->∃σ' c',bY ks g body ds σ c=aa (.nx,σ',c')/\P (k+ds.length) σ' c'
 |[],k,σ,c,hs,_,h=>⟨σ,c,by unfold bY;rw[if_pos (hs k σ c h)],h⟩
 |d::ds,k,σ,c,hs,ht,h=>by
  obtain⟨σ1,c1,σ2,c2,h1,h2,h3⟩:=ht 0 d σ c rfl h;obtain⟨σ',c',h4,h5⟩:=iU P ds (k+1) σ2 c2 hs (λi d' σ c hd hp=>by
   have:=ht (i+1) d' σ c (by simpa using hd) (by rw[show k+(i+1)=k+1+i by omega];exact hp);rwa[show k+(i+1)+1=k+1+i+1 by omega]at this) h3
  refine⟨σ',c',?_,by rw[show k+(d::ds).length=k+1+ds.length by simp only[aac];omega];exact h5⟩;unfold bY;rw[if_pos (hs k σ c h),h1];simp only[Zu,h2,h4]
end Qm
namespace qf
open PySem
noncomputable def oS:Qm.XS:=(Qm.ax (Qm.eY (Qm.tV (Qm.e2 Qm.gG (Qm.eV 1) (Qm.eC (.int 0)))) (Qm.ax (Qm.aE 2 (Qm.e2 Qm.cG (Qm.eV 0) (Qm.eV 1)))
   (Qm.ax (Qm.aE 0 (Qm.eV 1))
   (Qm.aE 1 (Qm.eV 2)))))
   (Qm.bj (Qm.eB Qm.wG (Qm.af (Qm.eV 0) Qm.aj))))
noncomputable def iV:Qm.FN:=Qm.eP 2 3 oS
noncomputable def oe:Qm.XS:=(Qm.ax (Qm.aE 2 (Qm.av iV [] (Qm.af (Qm.eV 0) (Qm.af (Qm.eV 1) Qm.aj))))
   (Qm.ax (Qm.cu (Qm.tV (Qm.e2 Qm.nV (Qm.eV 1) (Qm.eC (.int 0))))
   (Qm.aE 2 (Qm.e1 Qm.ez (Qm.eV 2)))
   Qm.bz)
   (Qm.bj (Qm.dc (Qm.af (Qm.e2 Qm.eK (Qm.eV 0) (Qm.eV 2)) (Qm.af (Qm.e2 Qm.eK (Qm.eV 1) (Qm.eV 2)) Qm.aj))))))
noncomputable def hV:Qm.FN:=Qm.eP 2 3 oe
noncomputable def lA:Qm.XS:=(Qm.ax (Qm.aE 1 (Qm.e2 Qm.qv (Qm.eC (.int 10)) (Qm.eC (.int 60))))
   (Qm.ax (Qm.aE 2 (Qm.aL Qm.aj))
   (Qm.ax (Qm.eY (Qm.tV (Qm.e2 Qm.OU (Qm.eV 0) (Qm.eV 1))) (Qm.ax (Qm.de (Qm.eM Qm.bI (Qm.eV 2) (Qm.af Qm.Fy Qm.aj)))
   (Qm.aE 0 (Qm.e2 Qm.eK (Qm.eV 0) (Qm.eV 1)))))
   (Qm.ax (Qm.de (Qm.eM Qm.bI (Qm.eV 2) (Qm.af (Qm.eB Qm.vQ (Qm.af (Qm.eV 0) Qm.aj)) Qm.aj)))
   (Qm.bj (Qm.rP "" (Qm.eV 2)))))))
noncomputable def fy:Qm.FN:=Qm.eP 1 3 lA
noncomputable def eL:Qm.XS:=(Qm.ax (Qm.aE 1 (Qm.av fy [] (Qm.af (Qm.eB Qm.wG (Qm.af (Qm.e2 Qm.aK (Qm.eV 0) (Qm.eC (.int 0))) Qm.aj)) Qm.aj)))
   (Qm.ax (Qm.cu (Qm.tV (Qm.e2 Qm.nV (Qm.e2 Qm.aK (Qm.eV 0) (Qm.eC (.int 0))) (Qm.eC (.int 0))))
   (Qm.aE 1 (Qm.e2 Qm.fM (Qm.eC (.str "-")) (Qm.eV 1)))
   Qm.bz)
   (Qm.ax (Qm.cu (Qm.tV (Qm.e2 Qm.gG (Qm.e2 Qm.aK (Qm.eV 0) (Qm.eC (.int 1))) (Qm.eC (.int 1))))
   (Qm.aE 1 (Qm.e2 Qm.fM (Qm.e2 Qm.fM (Qm.eV 1) (Qm.eC (.str "/"))) (Qm.av fy [] (Qm.af (Qm.e2 Qm.aK (Qm.eV 0) (Qm.eC (.int 1))) Qm.aj))))
   Qm.bz)
   (Qm.bj (Qm.eV 1)))))
noncomputable def dC:Qm.FN:=Qm.eP 1 2 eL
noncomputable def fA:Qm.XS:=(Qm.bj (Qm.yp (Qm.mj Qm.OT Qm.OT (Qm.eC (.int 1)) (Qm.eB Qm.BF (Qm.af (Qm.eV 1) Qm.aj)) (Qm.eV 2)) (Qm.eB Qm.Hd (Qm.af (Qm.eJ (Qm.rO (Qm.eV 1)) [ae,aa 0] (Qm.aM 0) Qm.jB (Qm.e2 Qm.wI (Qm.eV 0) (Qm.eV 1))) Qm.aj))))
noncomputable def bM:Qm.FN:=Qm.eP 3 3 fA
noncomputable def lC:Qm.XS:=(Qm.bj (Qm.av bM [] (Qm.af (Qm.eC (.str "abcdefghijklmnopqrstuvwxyz")) (Qm.af (Qm.eV 0) (Qm.af (Qm.eC (.int 8)) Qm.aj)))))
noncomputable def fX:Qm.FN:=Qm.eP 1 1 lC
noncomputable def dD:Qm.XS:=(Qm.ax (Qm.aE 1 (Qm.ki Qm.vP (Qm.eV 0) (Qm.af (Qm.eC (.str "/")) Qm.aj)))
   (Qm.ax (Qm.aE 2 (Qm.lY (Qm.tV (Qm.ki Qm.e_ (Qm.eV 0) (Qm.af (Qm.eC (.str "-")) Qm.aj))) (Qm.kC (Qm.e2 Qm.aK (Qm.eV 1) (Qm.eC (.int 0)))) (Qm.e2 Qm.aK (Qm.eV 1) (Qm.eC (.int 0)))))
   (Qm.ax (Qm.aE 3 (Qm.lY (Qm.mV (Qm.e2 Qm.aK (Qm.eV 1) (Qm.eC (.int 1)))) (Qm.e2 Qm.aK (Qm.eV 1) (Qm.eC (.int 2))) (Qm.eC (.str "1"))))
   (Qm.ax (Qm.cu (Qm.oB (Qm.sy (Qm.tV (Qm.av bM [] (Qm.af (Qm.eC (.str "0123456789")) (Qm.af (Qm.eV 2) (Qm.af (Qm.eC (.int 6)) Qm.aj)))))) (Qm.oB (Qm.sy (Qm.tV (Qm.av bM [] (Qm.af (Qm.eC (.str "0123456789")) (Qm.af (Qm.eV 3) (Qm.af (Qm.eC (.int 6)) Qm.aj)))))) (Qm.tV (Qm.e2 Qm.cO (Qm.eB Qm.jf (Qm.af (Qm.eV 3) Qm.aj)) (Qm.eC (.int 0))))))
   (Qm.bj (Qm.eC .aA))
   Qm.bz)
   (Qm.ax (Qm.aE 4 (Qm.av hV [] (Qm.af (Qm.lY (Qm.tV (Qm.ki Qm.e_ (Qm.eV 0) (Qm.af (Qm.eC (.str "-")) Qm.aj))) (Qm.e1 Qm.ez (Qm.eB Qm.jf (Qm.af (Qm.eV 2) Qm.aj))) (Qm.eB Qm.jf (Qm.af (Qm.eV 2) Qm.aj))) (Qm.af (Qm.eB Qm.jf (Qm.af (Qm.eV 3) Qm.aj)) Qm.aj))))
   (Qm.bj (Qm.lY (Qm.tV (Qm.e2 Qm.cO (Qm.av dC [] (Qm.af (Qm.eV 4) Qm.aj)) (Qm.eV 0))) (Qm.eV 4) (Qm.eC .aA))))))))
noncomputable def cB:Qm.FN:=Qm.eP 1 5 dD
noncomputable def mC:Qm.XS:=(Qm.ax (Qm.uR 0 1 "():")
   (Qm.bj (Qm.eJ (Qm.fJ (Qm.ki Qm.mz (Qm.eV 0) (Qm.af (Qm.eC (.str " ")) Qm.aj))) [ae] (Qm.aM 0) (Qm.mV (Qm.eV 0)) (Qm.eV 0))))
noncomputable def dM:Qm.FN:=Qm.eP 1 2 mC
noncomputable def kE:Qm.XS:=(Qm.ax (Qm.aE 2 (Qm.aL (Qm.af (Qm.aL Qm.aj) Qm.aj)))
   (Qm.ax (Qm.jc (Qm.fJ (Qm.eV 1)) (Qm.aM 3)
   (Qm.cu (Qm.tV (Qm.e2 Qm.qE (Qm.eV 3) (Qm.eV 0)))
   (Qm.de (Qm.eM Qm.bI (Qm.eV 2) (Qm.af (Qm.aL Qm.aj) Qm.aj)))
   (Qm.de (Qm.eM Qm.bI (Qm.e2 Qm.aK (Qm.eV 2) (Qm.e1 Qm.ez (Qm.eC (.int 1)))) (Qm.af (Qm.eV 3) Qm.aj)))))
   (Qm.bj (Qm.eV 2))))
noncomputable def bL:Qm.FN:=Qm.eP 2 4 kE
noncomputable def gv:Qm.XS:=(Qm.ax (Qm.cu (Qm.tV (Qm.e2 Qm.yL (Qm.eC .aA) (Qm.eV 1)))
   (Qm.bj (Qm.eC .aA))
   Qm.bz)
   (Qm.ax (Qm.aE 2 (Qm.e2 Qm.aK (Qm.eV 1) (Qm.eC (.int 0))))
   (Qm.ax (Qm.jc (Qm.fJ (Qm.eH Qm.cN (Qm.eV 1) (Qm.bF (Qm.eC (.int 1))) Qm.bU)) (Qm.aM 3)
   (Qm.aE 2 (Qm.dc (Qm.af (Qm.eV 0) (Qm.af (Qm.eV 2) (Qm.af (Qm.eV 3) Qm.aj))))))
   (Qm.bj (Qm.eV 2)))))
noncomputable def bt:Qm.FN:=Qm.eP 2 4 gv
noncomputable def eT:Qm.XS:=(Qm.bj (Qm.yp (Qm.eB Qm.lh (Qm.af (Qm.eV 0) (Qm.af (Qm.eC (.ty "str")) Qm.aj))) (Qm.yp (Qm.av fX [] (Qm.af (Qm.eV 0) Qm.aj)) (Qm.ly ["and","or","not","any"] (Qm.eV 0)))))
noncomputable def bQ:Qm.FN:=Qm.eP 1 1 eT
noncomputable def bx:Qm.XS:=(Qm.ax (Qm.cu (Qm.tV (Qm.e2 Qm.qE (Qm.eV 0) (Qm.aL (Qm.af (Qm.eC (.str "any")) Qm.aj))))
   (Qm.bj (Qm.dc (Qm.af (Qm.eC (.str "any")) Qm.aj)))
   Qm.bz)
   (Qm.ax (Qm.cu (Qm.dI (Qm.tV (Qm.e2 Qm.cO (Qm.eB Qm.bA (Qm.af (Qm.eV 0) Qm.aj)) (Qm.eC (.int 1)))) (Qm.tV (Qm.eB Qm.lh (Qm.af (Qm.e2 Qm.aK (Qm.eV 0) (Qm.eC (.int 0))) (Qm.af (Qm.eC (.ty "tuple")) Qm.aj)))))
   (Qm.bj (Qm.e2 Qm.aK (Qm.eV 0) (Qm.eC (.int 0))))
   Qm.bz)
   (Qm.ax (Qm.cu (Qm.dI (Qm.tV (Qm.e2 Qm.cO (Qm.eB Qm.bA (Qm.af (Qm.eV 0) Qm.aj)) (Qm.eC (.int 2)))) (Qm.dI (Qm.tV (Qm.av bQ [] (Qm.af (Qm.e2 Qm.aK (Qm.eV 0) (Qm.eC (.int 0))) Qm.aj))) (Qm.tV (Qm.av bQ [] (Qm.af (Qm.e2 Qm.aK (Qm.eV 0) (Qm.eC (.int 1))) Qm.aj)))))
   (Qm.bj (Qm.dc (Qm.af (Qm.eC (.str "is")) (Qm.af (Qm.e2 Qm.aK (Qm.eV 0) (Qm.eC (.int 0))) (Qm.af (Qm.e2 Qm.aK (Qm.eV 0) (Qm.eC (.int 1))) Qm.aj)))))
   Qm.bz)
   (Qm.bj (Qm.eC .aA)))))
noncomputable def aU:Qm.FN:=Qm.eP 1 1 bx
noncomputable def fB:Qm.XS:=(Qm.ax (Qm.aE 1 (Qm.eC (.int 0)))
   (Qm.ax (Qm.eY (Qm.dI (Qm.tV (Qm.e2 Qm.nV (Qm.eV 1) (Qm.eB Qm.bA (Qm.af (Qm.eV 0) Qm.aj)))) (Qm.tV (Qm.e2 Qm.qE (Qm.e2 Qm.aK (Qm.eV 0) (Qm.eV 1)) (Qm.eC (.str "not"))))) (Qm.aE 1 (Qm.e2 Qm.bc (Qm.eV 1) (Qm.eC (.int 1)))))
   (Qm.ax (Qm.aE 2 (Qm.av aU [] (Qm.af (Qm.eH Qm.cN (Qm.eV 0) (Qm.bF (Qm.eV 1)) Qm.bU) Qm.aj)))
   (Qm.ax (Qm.jc (Qm.dZ (Qm.af (Qm.eV 1) Qm.aj)) (Qm.aM 3)
   (Qm.aE 2 (Qm.lY (Qm.tV (Qm.e2 Qm.ik (Qm.eV 2) (Qm.eC .aA))) (Qm.eC .aA) (Qm.dc (Qm.af (Qm.eC (.str "not")) (Qm.af (Qm.eV 2) Qm.aj))))))
   (Qm.bj (Qm.eV 2))))))
noncomputable def cK:Qm.FN:=Qm.eP 1 4 fB
noncomputable def jg:Qm.XS:=(Qm.bj (Qm.av bt [] (Qm.af (Qm.eC (.str "and")) (Qm.af (Qm.eJ (Qm.fJ (Qm.av bL [] (Qm.af (Qm.eC (.str "and")) (Qm.af (Qm.eV 0) Qm.aj)))) [ae] (Qm.aM 0) Qm.jB (Qm.av cK [] (Qm.af (Qm.eV 0) Qm.aj))) Qm.aj))))
noncomputable def dE:Qm.FN:=Qm.eP 1 1 jg
noncomputable def iG:Qm.XS:=(Qm.bj (Qm.av bt [] (Qm.af (Qm.eC (.str "or")) (Qm.af (Qm.eJ (Qm.fJ (Qm.av bL [] (Qm.af (Qm.eC (.str "or")) (Qm.af (Qm.eV 0) Qm.aj)))) [ae] (Qm.aM 0) Qm.jB (Qm.av dE [] (Qm.af (Qm.eV 0) Qm.aj))) Qm.aj))))
noncomputable def cL:Qm.FN:=Qm.eP 1 1 iG
noncomputable def dF:Qm.XS:=(Qm.ax (Qm.aE 1 (Qm.aL (Qm.af (Qm.aL Qm.aj) Qm.aj)))
   (Qm.ax (Qm.jc (Qm.fJ (Qm.eV 0)) (Qm.aM 2)
   (Qm.cu (Qm.tV (Qm.e2 Qm.cO (Qm.eV 2) (Qm.eC (.str "("))))
   (Qm.de (Qm.eM Qm.bI (Qm.eV 1) (Qm.af (Qm.aL Qm.aj) Qm.aj)))
   (Qm.cu (Qm.tV (Qm.e2 Qm.cO (Qm.eV 2) (Qm.eC (.str ")"))))
   (Qm.ax (Qm.aE 3 (Qm.av cL [] (Qm.af (Qm.eM Qm.AA (Qm.eV 1) Qm.aj) Qm.aj)))
   (Qm.ax (Qm.cu (Qm.oB (Qm.tV (Qm.e2 Qm.ik (Qm.eV 3) (Qm.eC .aA))) (Qm.sy (Qm.mV (Qm.eV 1))))
   (Qm.bj (Qm.eC .aA))
   Qm.bz)
   (Qm.de (Qm.eM Qm.bI (Qm.e2 Qm.aK (Qm.eV 1) (Qm.e1 Qm.ez (Qm.eC (.int 1)))) (Qm.af (Qm.eV 3) Qm.aj)))))
   (Qm.de (Qm.eM Qm.bI (Qm.e2 Qm.aK (Qm.eV 1) (Qm.e1 Qm.ez (Qm.eC (.int 1)))) (Qm.af (Qm.eV 2) Qm.aj))))))
   (Qm.bj (Qm.lY (Qm.tV (Qm.e2 Qm.cO (Qm.eB Qm.bA (Qm.af (Qm.eV 1) Qm.aj)) (Qm.eC (.int 1)))) (Qm.av cL [] (Qm.af (Qm.e2 Qm.aK (Qm.eV 1) (Qm.eC (.int 0))) Qm.aj)) (Qm.eC .aA)))))
noncomputable def b_:Qm.FN:=Qm.eP 1 4 dF
noncomputable def et:Qm.XS:=(Qm.ax (Qm.aE 1 (Qm.av dM [] (Qm.af (Qm.eV 0) Qm.aj)))
   (Qm.ax (Qm.cu (Qm.oB (Qm.tV (Qm.e2 Qm.nV (Qm.eB Qm.bA (Qm.af (Qm.eV 1) Qm.aj)) (Qm.eC (.int 2)))) (Qm.tV (Qm.e2 Qm.gG (Qm.e2 Qm.aK (Qm.eV 1) (Qm.e1 Qm.ez (Qm.eC (.int 2)))) (Qm.eC (.str ":")))))
   (Qm.bj (Qm.eC .aA))
   Qm.bz)
   (Qm.ax (Qm.aE 2 (Qm.av b_ [] (Qm.af (Qm.eH Qm.cN (Qm.eV 1) Qm.bU (Qm.bF (Qm.e1 Qm.ez (Qm.eC (.int 2))))) Qm.aj)))
   (Qm.ax (Qm.aE 3 (Qm.av cB [] (Qm.af (Qm.e2 Qm.aK (Qm.eV 1) (Qm.e1 Qm.ez (Qm.eC (.int 1)))) Qm.aj)))
   (Qm.bj (Qm.lY (Qm.oB (Qm.tV (Qm.e2 Qm.ik (Qm.eV 2) (Qm.eC .aA))) (Qm.tV (Qm.e2 Qm.ik (Qm.eV 3) (Qm.eC .aA)))) (Qm.eC .aA) (Qm.dc (Qm.af (Qm.eV 2) (Qm.af (Qm.eV 3) Qm.aj)))))))))
noncomputable def cy:Qm.FN:=Qm.eP 1 4 et
noncomputable def jh(κ:Nat->Nat):Qm.XS:=(Qm.ax (Qm.mX (Qm.aE 1 (Qm.aL Qm.aj)))
   (Qm.ax (Qm.mX (Qm.aE 2 (Qm.ki Qm.mz (Qm.eV 0) (Qm.af (Qm.eC (.str "\n")) Qm.aj))))
   (Qm.ax (Qm.jc (Qm.dZ (Qm.af (Qm.eB Qm.bA (Qm.af (Qm.eV 2) Qm.aj)) Qm.aj)) (Qm.aM 3)
   (Qm.cu (Qm.mV (Qm.av dM [] (Qm.af (Qm.e2 Qm.aK (Qm.eV 2) (Qm.eV 3)) Qm.aj)))
   (Qm.ax (Qm.mX (Qm.aE 4 (Qm.av cy [] (Qm.af (Qm.e2 Qm.aK (Qm.eV 2) (Qm.eV 3)) Qm.aj))))
   (Qm.ax (Qm.cu (Qm.tV (Qm.e2 Qm.ik (Qm.eV 4) (Qm.eC .aA)))
   (Qm.uS (Qm.Dl (κ 6) (κ 0) ["row"] (Qm.af (Qm.e2 Qm.bc (Qm.eV 3) (Qm.eC (.int 1))) Qm.aj)))
   Qm.bz)
   (Qm.mX (Qm.de (Qm.eM Qm.bI (Qm.eV 1) (Qm.af (Qm.eV 4) Qm.aj))))))
   Qm.bz))
   (Qm.yS (Qm.eV 1)))))
noncomputable def bJ(κ:Nat->Nat):Qm.FN:=Qm.eP 1 5 (jh κ)
noncomputable def gQ:Qm.XS:=(Qm.ax (Qm.cu (Qm.tV (Qm.e2 Qm.nV (Qm.eV 1) (Qm.eB Qm.bA (Qm.af (Qm.eV 0) Qm.aj))))
   (Qm.bj (Qm.e2 Qm.aK (Qm.eV 0) (Qm.eV 1)))
   Qm.bz)
   (Qm.bj (Qm.eC (.int 0))))
noncomputable def c_:Qm.FN:=Qm.eP 2 2 gQ
noncomputable def j8:Qm.XS:=(Qm.ax (Qm.aE 2 (Qm.eB Qm.yr (Qm.af (Qm.e2 Qm.cO (Qm.e2 Qm.aK (Qm.eV 0) (Qm.eC (.int 0))) (Qm.eC (.int 0))) Qm.aj)))
   (Qm.ax (Qm.aE 3 (Qm.e2 Qm.cG (Qm.e2 Qm.aK (Qm.eV 0) (Qm.eV 2)) (Qm.eV 1)))
   (Qm.ax (Qm.j5 (Qm.e2 Qm.eK (Qm.e2 Qm.aK (Qm.eV 0) (Qm.eV 2)) (Qm.eV 1)) (Qm.pW (Qm.eV 0) (Qm.eV 2)))
   (Qm.bj (Qm.eV 3)))))
noncomputable def au:Qm.FN:=Qm.eP 2 4 j8
noncomputable def mD:Qm.XS:=(Qm.ax (Qm.aE 2 (Qm.eB Qm.wG (Qm.af (Qm.av c_ [] (Qm.af (Qm.eV 0) (Qm.af (Qm.eV 1) Qm.aj))) Qm.aj)))
   (Qm.ax (Qm.aE 3 (Qm.e2 Qm.eK (Qm.e2 Qm.BC (Qm.e2 Qm.bc (Qm.eC (.int 2147483647)) (Qm.e2 Qm.cG (Qm.e2 Qm.bc (Qm.e2 Qm.bc (Qm.e2 Qm.Av (Qm.e2 Qm.cG (Qm.eV 2) (Qm.eC (.int 2147483647))) (Qm.eC (.int 48271))) (Qm.e2 Qm.Av (Qm.eC (.int 7919)) (Qm.eV 1))) (Qm.eC (.int 11))) (Qm.eC (.int 2147483647)))) (Qm.eC (.int 18))) (Qm.e2 Qm.qv (Qm.eC (.int 10)) (Qm.eC (.int 20)))))
   (Qm.bj (Qm.aL (Qm.af (Qm.e2 Qm.Av (Qm.eV 2) (Qm.eB Qm.yr (Qm.af (Qm.e2 Qm.cO (Qm.e2 Qm.cG (Qm.av c_ [] (Qm.af (Qm.eV 0) (Qm.af (Qm.eC (.int 0)) Qm.aj))) (Qm.eC (.int 2))) (Qm.eC (.int 0))) Qm.aj))) (Qm.af (Qm.eV 3) (Qm.af (Qm.eC (.int 0)) Qm.aj)))))))
noncomputable def eE:Qm.FN:=Qm.eP 2 4 mD
noncomputable def iZ:Qm.XS:=(Qm.ax (Qm.aE 1 (Qm.eC (.str "abcdefghijklmnopqrstuvwxyz")))
   (Qm.ax (Qm.aE 2 (Qm.eC (.str "")))
   (Qm.ax (Qm.jc (Qm.dZ (Qm.af (Qm.e2 Qm.bc (Qm.eC (.int 1)) (Qm.av au [] (Qm.af (Qm.eV 0) (Qm.af (Qm.eC (.int 8)) Qm.aj)))) Qm.aj)) (Qm.aM 3)
   (Qm.aE 2 (Qm.e2 Qm.fM (Qm.eV 2) (Qm.e2 Qm.yE (Qm.eV 1) (Qm.av au [] (Qm.af (Qm.eV 0) (Qm.af (Qm.eC (.int 26)) Qm.aj)))))))
   (Qm.ax (Qm.cu (Qm.tV (Qm.e2 Qm.cO (Qm.av au [] (Qm.af (Qm.eV 0) (Qm.af (Qm.eC (.int 12)) Qm.aj))) (Qm.eC (.int 0))))
   (Qm.aE 2 (Qm.e2 Qm.aK (Qm.aL (Qm.af (Qm.eC (.str "an")) (Qm.af (Qm.eC (.str "nd")) (Qm.af (Qm.eC (.str "o")) (Qm.af (Qm.eC (.str "r")) (Qm.af (Qm.eC (.str "no")) (Qm.af (Qm.eC (.str "ot")) (Qm.af (Qm.eC (.str "t")) (Qm.af (Qm.eC (.str "ny")) (Qm.af (Qm.eC (.str "y")) (Qm.af (Qm.eC (.str "andor")) (Qm.af (Qm.eC (.str "nota")) (Qm.af (Qm.eC (.str "anyone")) Qm.aj))))))))))))) (Qm.av au [] (Qm.af (Qm.eV 0) (Qm.af (Qm.eC (.int 12)) Qm.aj)))))
   Qm.bz)
   (Qm.ax (Qm.cu (Qm.tV (Qm.e2 Qm.OV (Qm.eV 2) (Qm.dc (Qm.af (Qm.eC (.str "and")) (Qm.af (Qm.eC (.str "or")) (Qm.af (Qm.eC (.str "not")) (Qm.af (Qm.eC (.str "any")) Qm.aj)))))))
   (Qm.aE 2 (Qm.e2 Qm.fM (Qm.eV 2) (Qm.eC (.str "x"))))
   Qm.bz)
   (Qm.bj (Qm.eV 2)))))))
noncomputable def di:Qm.FN:=Qm.eP 1 4 iZ
noncomputable def hZ(oU:Qm.FN)(kF:Qm.FN):Qm.XS:=(Qm.ax (Qm.aE 3 (Qm.av au [] (Qm.af (Qm.eV 0) (Qm.af (Qm.eC (.int 8)) Qm.aj))))
   (Qm.ax (Qm.j5 (Qm.e2 Qm.bc (Qm.e2 Qm.aK (Qm.eV 0) (Qm.eC (.int 2))) (Qm.eC (.int 2))) (Qm.pW (Qm.eV 0) (Qm.eC (.int 2))))
   (Qm.ax (Qm.cu (Qm.oB (Qm.tV (Qm.e2 Qm.nV (Qm.eV 3) (Qm.eC (.int 4)))) (Qm.oB (Qm.tV (Qm.e2 Qm.nV (Qm.eV 2) (Qm.eC (.int 1)))) (Qm.tV (Qm.e2 Qm.xi (Qm.e2 Qm.aK (Qm.eV 0) (Qm.eC (.int 2))) (Qm.eC (.int 24))))))
   (Qm.ax (Qm.aE 4 (Qm.aL (Qm.af (Qm.av di [] (Qm.af (Qm.eV 0) Qm.aj)) (Qm.af (Qm.av di [] (Qm.af (Qm.eV 0) Qm.aj)) Qm.aj))))
   (Qm.ax (Qm.cu (Qm.dI (Qm.tV (Qm.e2 Qm.cO (Qm.e2 Qm.cG (Qm.eV 3) (Qm.eC (.int 2))) (Qm.eC (.int 1)))) (Qm.tV (Qm.e2 Qm.gG (Qm.eV 1) (Qm.aL Qm.aj))))
   (Qm.aE 4 (Qm.eB Qm.vI (Qm.af (Qm.e2 Qm.aK (Qm.eV 1) (Qm.av au [] (Qm.af (Qm.eV 0) (Qm.af (Qm.eB Qm.bA (Qm.af (Qm.eV 1) Qm.aj)) Qm.aj)))) Qm.aj)))
   Qm.bz)
   (Qm.ax (Qm.de (Qm.eM Qm.bI (Qm.eV 1) (Qm.af (Qm.dc (Qm.af (Qm.e2 Qm.aK (Qm.eV 4) (Qm.eC (.int 0))) (Qm.af (Qm.e2 Qm.aK (Qm.eV 4) (Qm.eC (.int 1))) Qm.aj))) Qm.aj)))
   (Qm.bj (Qm.dc (Qm.af (Qm.eV 4) (Qm.af (Qm.dc (Qm.af (Qm.eC (.str "is")) (Qm.af (Qm.e2 Qm.aK (Qm.eV 4) (Qm.eC (.int 0))) (Qm.af (Qm.e2 Qm.aK (Qm.eV 4) (Qm.eC (.int 1))) Qm.aj)))) Qm.aj)))))))
   Qm.bz)
   (Qm.ax (Qm.cu (Qm.tV (Qm.e2 Qm.cO (Qm.eV 3) (Qm.eC (.int 4))))
   (Qm.bj (Qm.dc (Qm.af (Qm.aL (Qm.af (Qm.eC (.str "any")) Qm.aj)) (Qm.af (Qm.dc (Qm.af (Qm.eC (.str "any")) Qm.aj)) Qm.aj))))
   Qm.bz)
   (Qm.ax (Qm.cu (Qm.tV (Qm.e2 Qm.cO (Qm.eV 3) (Qm.eC (.int 5))))
   (Qm.ax (Qm.j5 (Qm.av oU [] (Qm.af (Qm.eV 0) (Qm.af (Qm.eV 1) (Qm.af (Qm.e2 Qm.iC (Qm.eV 2) (Qm.eC (.int 1))) Qm.aj)))) (Qm.kT 2 (Qm.dY (Qm.aM 5) (Qm.dY (Qm.aM 6) Qm.kS))))
   (Qm.bj (Qm.dc (Qm.af (Qm.e2 Qm.bc (Qm.aL (Qm.af (Qm.eC (.str "not")) Qm.aj)) (Qm.eV 5)) (Qm.af (Qm.dc (Qm.af (Qm.eC (.str "not")) (Qm.af (Qm.eV 6) Qm.aj))) Qm.aj)))))
   Qm.bz)
   (Qm.ax (Qm.j5 (Qm.av kF [] (Qm.af (Qm.eV 0) (Qm.af (Qm.eV 1) (Qm.af (Qm.e2 Qm.iC (Qm.eV 2) (Qm.eC (.int 1))) (Qm.af (Qm.eC (.str "or")) Qm.aj))))) (Qm.kT 2 (Qm.dY (Qm.aM 5) (Qm.dY (Qm.aM 6) Qm.kS))))
   (Qm.bj (Qm.dc (Qm.af (Qm.e2 Qm.bc (Qm.e2 Qm.bc (Qm.aL (Qm.af (Qm.eC (.str "(")) Qm.aj)) (Qm.eV 5)) (Qm.aL (Qm.af (Qm.eC (.str ")")) Qm.aj))) (Qm.af (Qm.eV 6) Qm.aj))))))))))
noncomputable def fj(oU:Qm.FN)(kF:Qm.FN):Qm.XS:=(Qm.ax (Qm.cu (Qm.tV (Qm.e2 Qm.cO (Qm.eV 3) (Qm.eC (.str ""))))
   (Qm.bj (Qm.av oU [] (Qm.af (Qm.eV 0) (Qm.af (Qm.eV 1) (Qm.af (Qm.eV 2) Qm.aj)))))
   Qm.bz)
   (Qm.ax (Qm.aE 4 (Qm.yG (Qm.mw "or" "and" "and" "") (Qm.eV 3)))
   (Qm.ax (Qm.j5 (Qm.av kF [] (Qm.af (Qm.eV 0) (Qm.af (Qm.eV 1) (Qm.af (Qm.eV 2) (Qm.af (Qm.eV 4) Qm.aj))))) (Qm.kT 2 (Qm.dY (Qm.aM 5) (Qm.dY (Qm.aM 6) Qm.kS))))
   (Qm.ax (Qm.jc (Qm.dZ (Qm.af (Qm.e2 Qm.aK (Qm.aL (Qm.af (Qm.eC (.int 0)) (Qm.af (Qm.eC (.int 0)) (Qm.af (Qm.eC (.int 0)) (Qm.af (Qm.eC (.int 1)) (Qm.af (Qm.eC (.int 1)) (Qm.af (Qm.eC (.int 2)) (Qm.af (Qm.eC (.int 0)) (Qm.af (Qm.eC (.int 5)) Qm.aj))))))))) (Qm.av au [] (Qm.af (Qm.eV 0) (Qm.af (Qm.eC (.int 8)) Qm.aj)))) Qm.aj)) (Qm.aM 7)
   (Qm.cu (Qm.tV (Qm.e2 Qm.nV (Qm.e2 Qm.aK (Qm.eV 0) (Qm.eC (.int 2))) (Qm.eC (.int 24))))
   (Qm.ax (Qm.j5 (Qm.av kF [] (Qm.af (Qm.eV 0) (Qm.af (Qm.eV 1) (Qm.af (Qm.eV 2) (Qm.af (Qm.eV 4) Qm.aj))))) (Qm.kT 2 (Qm.dY (Qm.aM 8) (Qm.dY (Qm.aM 9) Qm.kS))))
   (Qm.ax (Qm.aE 5 (Qm.e2 Qm.bc (Qm.e2 Qm.bc (Qm.eV 5) (Qm.aL (Qm.af (Qm.eV 3) Qm.aj))) (Qm.eV 8)))
   (Qm.aE 6 (Qm.dc (Qm.af (Qm.eV 3) (Qm.af (Qm.eV 6) (Qm.af (Qm.eV 9) Qm.aj)))))))
   Qm.bz))
   (Qm.bj (Qm.dc (Qm.af (Qm.eV 5) (Qm.af (Qm.eV 6) Qm.aj))))))))
noncomputable def az:Nat->Qm.FN×Qm.FN
 |0=>(λ_ _=>ae,λ_ _=>ae)
 |n+1=>(Qm.eP 3 7 (hZ (az n).1 (az n).2),Qm.eP 4 10 (fj (az n).1 (az n).2))
noncomputable def kG:Qm.FN:=(az 60).1
noncomputable def dG:Qm.FN:=(az 60).2
noncomputable def iH:Qm.XS:=(Qm.ax (Qm.aE 2 (Qm.eB Qm.wG (Qm.af (Qm.eV 0) Qm.aj)))
   (Qm.ax (Qm.aE 3 (Qm.eV 1))
   (Qm.ax (Qm.eY (Qm.tV (Qm.e2 Qm.gG (Qm.eV 2) (Qm.eC (.int 0)))) (Qm.Hb [2,3] (Qm.af (Qm.e2 Qm.cG (Qm.eV 3) (Qm.eV 2)) (Qm.af (Qm.eV 2) Qm.aj))))
   (Qm.bj (Qm.dc (Qm.af (Qm.e2 Qm.eK (Qm.eV 0) (Qm.eV 3)) (Qm.af (Qm.e2 Qm.eK (Qm.eV 1) (Qm.eV 3)) Qm.aj)))))))
noncomputable def fC:Qm.FN:=Qm.eP 2 4 iH
noncomputable def ji:Qm.XS:=(Qm.ax (Qm.aE 1 (Qm.e2 Qm.iC (Qm.av au [] (Qm.af (Qm.eV 0) (Qm.af (Qm.eC (.int 1999999)) Qm.aj))) (Qm.eC (.int 999999))))
   (Qm.ax (Qm.aE 2 (Qm.eC (.int 1)))
   (Qm.ax (Qm.cu (Qm.tV (Qm.e2 Qm.cO (Qm.av au [] (Qm.af (Qm.eV 0) (Qm.af (Qm.eC (.int 2)) Qm.aj))) (Qm.eC (.int 1))))
   (Qm.aE 2 (Qm.e2 Qm.bc (Qm.eC (.int 1)) (Qm.av au [] (Qm.af (Qm.eV 0) (Qm.af (Qm.eC (.int 999999)) Qm.aj)))))
   Qm.bz)
   (Qm.ax (Qm.cu (Qm.tV (Qm.e2 Qm.cO (Qm.av au [] (Qm.af (Qm.eV 0) (Qm.af (Qm.eC (.int 3)) Qm.aj))) (Qm.eC (.int 0))))
   (Qm.ax (Qm.aE 1 (Qm.e2 Qm.iC (Qm.e2 Qm.cG (Qm.eV 1) (Qm.eC (.int 9))) (Qm.eC (.int 4))))
   (Qm.aE 2 (Qm.e2 Qm.bc (Qm.eC (.int 1)) (Qm.e2 Qm.cG (Qm.eV 2) (Qm.eC (.int 4))))))
   Qm.bz)
   (Qm.bj (Qm.av fC [] (Qm.af (Qm.eV 1) (Qm.af (Qm.eV 2) Qm.aj))))))))
noncomputable def fq:Qm.FN:=Qm.eP 1 3 ji
noncomputable def fv:Qm.XS:=(Qm.ax (Qm.cu (Qm.tV (Qm.e2 Qm.cO (Qm.e2 Qm.aK (Qm.eV 0) (Qm.eC (.int 1))) (Qm.eC (.int 1))))
   (Qm.bj (Qm.eB Qm.vQ (Qm.af (Qm.e2 Qm.aK (Qm.eV 0) (Qm.eC (.int 0))) Qm.aj)))
   Qm.bz)
   (Qm.bj (Qm.e2 Qm.fM (Qm.e2 Qm.fM (Qm.eB Qm.vQ (Qm.af (Qm.e2 Qm.aK (Qm.eV 0) (Qm.eC (.int 0))) Qm.aj)) (Qm.eC (.str "/"))) (Qm.eB Qm.vQ (Qm.af (Qm.e2 Qm.aK (Qm.eV 0) (Qm.eC (.int 1))) Qm.aj)))))
noncomputable def cQ:Qm.FN:=Qm.eP 1 1 fv
noncomputable def iI:Qm.XS:=(Qm.ax (Qm.aE 2 (Qm.e2 Qm.gM (Qm.eC (.str " ")) (Qm.e2 Qm.eK (Qm.av au [] (Qm.af (Qm.eV 0) (Qm.af (Qm.eC (.int 4)) Qm.aj))) (Qm.eC (.int 3)))))
   (Qm.ax (Qm.jc (Qm.BD (Qm.af (Qm.eV 1) Qm.aj)) (Qm.kT 2 (Qm.dY (Qm.aM 3) (Qm.dY (Qm.aM 4) Qm.kS)))
   (Qm.ax (Qm.aE 5 (Qm.e2 Qm.aK (Qm.aL (Qm.af (Qm.eC (.int 0)) (Qm.af (Qm.eC (.int 1)) (Qm.af (Qm.eC (.int 1)) (Qm.af (Qm.eC (.int 2)) Qm.aj))))) (Qm.av au [] (Qm.af (Qm.eV 0) (Qm.af (Qm.eC (.int 4)) Qm.aj)))))
   (Qm.ax (Qm.cu (Qm.dI (Qm.tV (Qm.e2 Qm.xi (Qm.eV 3) (Qm.eC (.int 0)))) (Qm.dI (Qm.tV (Qm.e2 Qm.cO (Qm.eV 5) (Qm.eC (.int 0)))) (Qm.dI (Qm.tV (Qm.e2 Qm.iF (Qm.e2 Qm.aK (Qm.eV 1) (Qm.e2 Qm.iC (Qm.eV 3) (Qm.eC (.int 1)))) (Qm.eC (.str "():")))) (Qm.tV (Qm.e2 Qm.iF (Qm.eV 4) (Qm.eC (.str "():")))))))
   (Qm.aE 5 (Qm.eC (.int 1)))
   Qm.bz)
   (Qm.aE 2 (Qm.e2 Qm.fM (Qm.e2 Qm.fM (Qm.eV 2) (Qm.e2 Qm.gM (Qm.e2 Qm.gM (Qm.eC (.str " ")) (Qm.eV 5)) (Qm.eB Qm.yr (Qm.af (Qm.e2 Qm.xi (Qm.eV 3) (Qm.eC (.int 0))) Qm.aj)))) (Qm.eV 4))))))
   (Qm.bj (Qm.e2 Qm.fM (Qm.eV 2) (Qm.e2 Qm.gM (Qm.eC (.str " ")) (Qm.e2 Qm.eK (Qm.av au [] (Qm.af (Qm.eV 0) (Qm.af (Qm.eC (.int 4)) Qm.aj))) (Qm.eC (.int 3))))))))
noncomputable def cm:Qm.FN:=Qm.eP 2 6 iI
noncomputable def j9(κ:Nat->Nat):Qm.XS:=(Qm.ax (Qm.aE 1 (Qm.aL (Qm.af (Qm.eB (Qm.j7 (κ 1)) (Qm.af (Qm.eV 0) (Qm.af (Qm.eC (.adr (κ 1))) Qm.aj))) (Qm.af (Qm.eB (Qm.j7 (κ 8)) (Qm.af (Qm.eV 0) (Qm.af (Qm.eC (.adr (κ 8))) Qm.aj))) (Qm.af (Qm.eB (Qm.j7 (κ 3)) (Qm.af (Qm.eV 0) (Qm.af (Qm.eC (.adr (κ 3))) Qm.aj))) (Qm.af (Qm.eB (Qm.j7 (κ 10)) (Qm.af (Qm.eV 0) (Qm.af (Qm.eC (.adr (κ 10))) Qm.aj))) Qm.aj))))))
   (Qm.ax (Qm.aE 1 (Qm.e2 Qm.bc (Qm.eV 1) (Qm.aL (Qm.af (Qm.eB (Qm.j7 (κ 7)) (Qm.af (Qm.eV 0) (Qm.af (Qm.eC (.adr (κ 7))) Qm.aj))) (Qm.af (Qm.eB (Qm.j7 (κ 5)) (Qm.af (Qm.eV 0) (Qm.af (Qm.eC (.adr (κ 5))) Qm.aj))) (Qm.af (Qm.eB (Qm.j7 (κ 9)) (Qm.af (Qm.eV 0) (Qm.af (Qm.eC (.adr (κ 9))) Qm.aj))) (Qm.af (Qm.eB (Qm.j7 (κ 4)) (Qm.af (Qm.eV 0) (Qm.af (Qm.eC (.adr (κ 4))) Qm.aj))) Qm.aj)))))))
   (Qm.bj (Qm.yp (Qm.eB (Qm.j7 (κ 6)) (Qm.af (Qm.eV 0) (Qm.af (Qm.eC (.adr (κ 6))) Qm.aj))) (Qm.yp (Qm.eB Qm.Dm (Qm.af (Qm.eV 0) (Qm.af (Qm.eC (.ty "ValueError")) Qm.aj))) (Qm.Ln (Qm.eB Qm.Lp (Qm.af (Qm.e2 Qm.bc (Qm.eV 1) (Qm.aL (Qm.af (Qm.eB (Qm.j7 (κ 2)) (Qm.af (Qm.eV 0) (Qm.af (Qm.eC (.adr (κ 2))) Qm.aj))) Qm.aj))) Qm.aj))))))))
noncomputable def gR(κ:Nat->Nat):Qm.FN:=Qm.eP 1 2 (j9 κ)
noncomputable def lD:Qm.XS:=(Qm.bj (Qm.e2 Qm.bc (Qm.e2 Qm.bc (Qm.eH Qm.cN (Qm.eV 0) Qm.bU (Qm.bF (Qm.eV 1))) (Qm.aL (Qm.af (Qm.eV 2) Qm.aj))) (Qm.eH Qm.cN (Qm.eV 0) (Qm.bF (Qm.eV 1)) Qm.bU)))
noncomputable def dH:Qm.FN:=Qm.eP 3 3 lD
noncomputable def gC:Qm.XS:=(Qm.ax (Qm.aE 2 (Qm.av au [] (Qm.af (Qm.eV 0) (Qm.af (Qm.eC (.int 12)) Qm.aj))))
   (Qm.ax (Qm.aE 3 (Qm.av au [] (Qm.af (Qm.eV 0) (Qm.af (Qm.e2 Qm.qv (Qm.eC (.int 10)) (Qm.eC (.int 6))) Qm.aj))))
   (Qm.ax (Qm.aE 4 (Qm.e2 Qm.cG (Qm.eV 3) (Qm.e2 Qm.bc (Qm.eB Qm.bA (Qm.af (Qm.eV 1) Qm.aj)) (Qm.eC (.int 1)))))
   (Qm.ax (Qm.aE 5 (Qm.e2 Qm.iC (Qm.eB Qm.bA (Qm.af (Qm.eV 1) Qm.aj)) (Qm.eC (.int 2))))
   (Qm.ax (Qm.aE 6 (Qm.eJ (Qm.dZ (Qm.af (Qm.eV 5) Qm.aj)) [ae,aa 1] (Qm.aM 0) (Qm.tV (Qm.e2 Qm.rK (Qm.e2 Qm.aK (Qm.eV 1) (Qm.eV 0)) (Qm.dc (Qm.af (Qm.eC (.str "(")) (Qm.af (Qm.eC (.str ")")) (Qm.af (Qm.eC (.str "and")) (Qm.af (Qm.eC (.str "or")) (Qm.af (Qm.eC (.str "not")) (Qm.af (Qm.eC (.str "any")) Qm.aj))))))))) (Qm.eV 0)))
   (Qm.ax (Qm.aE 7 (Qm.eJ (Qm.dZ (Qm.af (Qm.eV 5) Qm.aj)) [ae,aa 1] (Qm.aM 0) (Qm.tV (Qm.e2 Qm.wI (Qm.e2 Qm.aK (Qm.eV 1) (Qm.eV 0)) (Qm.eC (.str "()")))) (Qm.eV 0)))
   (Qm.ax (Qm.cu (Qm.tV (Qm.e2 Qm.cO (Qm.eV 2) (Qm.eC (.int 0))))
   (Qm.bj (Qm.e2 Qm.bc (Qm.e2 Qm.bc (Qm.eH Qm.cN (Qm.eV 1) Qm.bU (Qm.bF (Qm.e1 Qm.ez (Qm.eC (.int 2))))) (Qm.e2 Qm.aK (Qm.aL (Qm.af (Qm.aL Qm.aj) (Qm.af (Qm.aL (Qm.af (Qm.eC (.str "=")) Qm.aj)) (Qm.af (Qm.aL (Qm.af (Qm.eC (.str ";")) Qm.aj)) (Qm.af (Qm.aL (Qm.af (Qm.eC (.str "::")) Qm.aj)) (Qm.af (Qm.aL (Qm.af (Qm.eC (.str "is")) Qm.aj)) (Qm.af (Qm.aL Qm.aj) Qm.aj))))))) (Qm.e2 Qm.cG (Qm.eV 3) (Qm.eC (.int 6))))) (Qm.eH Qm.cN (Qm.eV 1) (Qm.bF (Qm.e1 Qm.ez (Qm.eC (.int 1)))) Qm.bU)))
   Qm.bz)
   (Qm.ax (Qm.cu (Qm.tV (Qm.e2 Qm.cO (Qm.eV 2) (Qm.eC (.int 1))))
   (Qm.bj (Qm.av dH [] (Qm.af (Qm.eV 1) (Qm.af (Qm.eV 4) (Qm.af (Qm.eC (.str ":")) Qm.aj)))))
   Qm.bz)
   (Qm.ax (Qm.cu (Qm.tV (Qm.e2 Qm.cO (Qm.eV 2) (Qm.eC (.int 2))))
   (Qm.bj (Qm.e2 Qm.aK (Qm.aL (Qm.af (Qm.eH Qm.cN (Qm.eV 1) Qm.bU (Qm.bF (Qm.e1 Qm.ez (Qm.eC (.int 1))))) (Qm.af (Qm.eH Qm.cN (Qm.eV 1) (Qm.bF (Qm.e1 Qm.ez (Qm.eC (.int 2)))) Qm.bU) Qm.aj))) (Qm.e2 Qm.cG (Qm.eV 3) (Qm.eC (.int 2)))))
   Qm.bz)
   (Qm.ax (Qm.cu (Qm.tV (Qm.e2 Qm.cO (Qm.eV 2) (Qm.eC (.int 3))))
   (Qm.ax (Qm.aE 8 (Qm.aL (Qm.af (Qm.eC (.str "-0")) (Qm.af (Qm.eC (.str "00")) (Qm.af (Qm.eC (.str "07")) (Qm.af (Qm.eC (.str "3/1")) (Qm.af (Qm.eC (.str "4/2")) (Qm.af (Qm.eC (.str "1/0")) (Qm.af (Qm.eC (.str "+3")) (Qm.af (Qm.eC (.str "1/-2")) (Qm.af (Qm.eC (.str "1.5")) (Qm.af (Qm.eC (.str "--3")) (Qm.af (Qm.eC (.str "1/2/3")) (Qm.af (Qm.eC (.str "/3")) (Qm.af (Qm.eC (.str "3/")) (Qm.af (Qm.eC (.str "-")) (Qm.af (Qm.eC (.str "0/5")) Qm.aj)))))))))))))))))
   (Qm.bj (Qm.e2 Qm.bc (Qm.eH Qm.cN (Qm.eV 1) Qm.bU (Qm.bF (Qm.e1 Qm.ez (Qm.eC (.int 1))))) (Qm.aL (Qm.af (Qm.e2 Qm.aK (Qm.e2 Qm.bc (Qm.eV 8) (Qm.aL (Qm.af (Qm.eC (.str "03/7")) (Qm.af (Qm.eC (.str "3/07")) (Qm.af (Qm.eC (.str "-03")) (Qm.af (Qm.eC (.str "any")) (Qm.af (Qm.eC (.str "1_0")) (Qm.af (Qm.eC (.str "1/+2")) (Qm.af (Qm.eC (.str "1 /2")) (Qm.af (Qm.eC (.str "+1")) Qm.aj)))))))))) (Qm.e2 Qm.cG (Qm.eV 3) (Qm.eC (.int 23)))) Qm.aj)))))
   Qm.bz)
   (Qm.ax (Qm.cu (Qm.dI (Qm.tV (Qm.e2 Qm.cO (Qm.eV 2) (Qm.eC (.int 4)))) (Qm.tV (Qm.e2 Qm.gG (Qm.eV 7) (Qm.aL Qm.aj))))
   (Qm.ax (Qm.aE 9 (Qm.e2 Qm.aK (Qm.eV 7) (Qm.e2 Qm.cG (Qm.eV 3) (Qm.eB Qm.bA (Qm.af (Qm.eV 7) Qm.aj)))))
   (Qm.bj (Qm.e2 Qm.bc (Qm.eH Qm.cN (Qm.eV 1) Qm.bU (Qm.bF (Qm.eV 9))) (Qm.eH Qm.cN (Qm.eV 1) (Qm.bF (Qm.e2 Qm.bc (Qm.eV 9) (Qm.eC (.int 1)))) Qm.bU))))
   Qm.bz)
   (Qm.ax (Qm.cu (Qm.dI (Qm.tV (Qm.e2 Qm.cO (Qm.eV 2) (Qm.eC (.int 5)))) (Qm.tV (Qm.e2 Qm.gG (Qm.eV 6) (Qm.aL Qm.aj))))
   (Qm.ax (Qm.aE 10 (Qm.e2 Qm.aK (Qm.eV 6) (Qm.e2 Qm.cG (Qm.eV 3) (Qm.eB Qm.bA (Qm.af (Qm.eV 6) Qm.aj)))))
   (Qm.bj (Qm.e2 Qm.bc (Qm.e2 Qm.bc (Qm.eH Qm.cN (Qm.eV 1) Qm.bU (Qm.bF (Qm.eV 10))) (Qm.aL (Qm.af (Qm.e2 Qm.aK (Qm.aL (Qm.af (Qm.eC (.str "and")) (Qm.af (Qm.eC (.str "or")) (Qm.af (Qm.eC (.str "not")) (Qm.af (Qm.eC (.str "any")) Qm.aj))))) (Qm.e2 Qm.cG (Qm.e2 Qm.eK (Qm.eV 3) (Qm.eC (.int 64))) (Qm.eC (.int 4)))) Qm.aj))) (Qm.eH Qm.cN (Qm.eV 1) (Qm.bF (Qm.e2 Qm.bc (Qm.eV 10) (Qm.eC (.int 1)))) Qm.bU))))
   Qm.bz)
   (Qm.ax (Qm.cu (Qm.dI (Qm.tV (Qm.e2 Qm.cO (Qm.eV 2) (Qm.eC (.int 6)))) (Qm.tV (Qm.e2 Qm.gG (Qm.eV 6) (Qm.aL Qm.aj))))
   (Qm.ax (Qm.aE 10 (Qm.e2 Qm.aK (Qm.eV 6) (Qm.e2 Qm.cG (Qm.eV 3) (Qm.eB Qm.bA (Qm.af (Qm.eV 6) Qm.aj)))))
   (Qm.ax (Qm.aE 11 (Qm.e2 Qm.aK (Qm.aL (Qm.af (Qm.eC (.str "Ab")) (Qm.af (Qm.eC (.str "a1")) (Qm.af (Qm.eC (.str "abcdefghi")) (Qm.af (Qm.e2 Qm.gM (Qm.e2 Qm.aK (Qm.eV 1) (Qm.eV 10)) (Qm.eC (.int 9))) (Qm.af (Qm.eC (.str "a-b")) (Qm.af (Qm.eC (.str "a.b")) (Qm.af (Qm.eC (.str "a~b")) (Qm.af (Qm.eC (.str "a_b")) Qm.aj))))))))) (Qm.e2 Qm.cG (Qm.e2 Qm.eK (Qm.eV 3) (Qm.eC (.int 64))) (Qm.eC (.int 8)))))
   (Qm.bj (Qm.e2 Qm.bc (Qm.e2 Qm.bc (Qm.eH Qm.cN (Qm.eV 1) Qm.bU (Qm.bF (Qm.eV 10))) (Qm.aL (Qm.af (Qm.eV 11) Qm.aj))) (Qm.eH Qm.cN (Qm.eV 1) (Qm.bF (Qm.e2 Qm.bc (Qm.eV 10) (Qm.eC (.int 1)))) Qm.bU)))))
   Qm.bz)
   (Qm.ax (Qm.cu (Qm.tV (Qm.e2 Qm.cO (Qm.eV 2) (Qm.eC (.int 7))))
   (Qm.bj (Qm.av dH [] (Qm.af (Qm.eV 1) (Qm.af (Qm.eV 5) (Qm.af (Qm.e2 Qm.aK (Qm.aL (Qm.af (Qm.eC (.str "any")) (Qm.af (Qm.eC (.str "and")) (Qm.af (Qm.eC (.str "or")) (Qm.af (Qm.eC (.str "not")) (Qm.af (Qm.eC (.str "(")) (Qm.af (Qm.eC (.str ")")) (Qm.af (Qm.eC (.str "abc")) (Qm.af (Qm.eC (.str "3")) Qm.aj))))))))) (Qm.e2 Qm.cG (Qm.eV 3) (Qm.eC (.int 8)))) Qm.aj)))))
   Qm.bz)
   (Qm.ax (Qm.cu (Qm.tV (Qm.e2 Qm.cO (Qm.eV 2) (Qm.eC (.int 8))))
   (Qm.bj (Qm.e2 Qm.bc (Qm.eV 1) (Qm.aL (Qm.af (Qm.e2 Qm.aK (Qm.aL (Qm.af (Qm.eC (.str "any")) (Qm.af (Qm.eC (.str ")")) (Qm.af (Qm.eC (.str ":")) (Qm.af (Qm.eC (.str "3")) (Qm.af (Qm.eC (.str "x")) (Qm.af (Qm.eC (.str "and")) (Qm.af (Qm.eC (.str "(")) Qm.aj)))))))) (Qm.e2 Qm.cG (Qm.eV 3) (Qm.eC (.int 7)))) Qm.aj))))
   Qm.bz)
   (Qm.ax (Qm.cu (Qm.tV (Qm.e2 Qm.cO (Qm.eV 2) (Qm.eC (.int 9))))
   (Qm.bj (Qm.av dH [] (Qm.af (Qm.eV 1) (Qm.af (Qm.eV 4) (Qm.af (Qm.e2 Qm.aK (Qm.aL (Qm.af (Qm.eC (.str "#")) (Qm.af (Qm.eC (.str ";")) (Qm.af (Qm.eC (.str "[")) (Qm.af (Qm.eC (.str "=")) (Qm.af (Qm.eC (.str "A")) (Qm.af (Qm.eC (.str "_")) (Qm.af (Qm.eC (.str "~")) (Qm.af (Qm.eC (.str "	")) Qm.aj))))))))) (Qm.e2 Qm.cG (Qm.eV 3) (Qm.eC (.int 8)))) Qm.aj)))))
   Qm.bz)
   (Qm.ax (Qm.cu (Qm.dI (Qm.tV (Qm.e2 Qm.cO (Qm.eV 2) (Qm.eC (.int 10)))) (Qm.tV (Qm.e2 Qm.gG (Qm.eV 6) (Qm.aL Qm.aj))))
   (Qm.ax (Qm.aE 10 (Qm.e2 Qm.aK (Qm.eV 6) (Qm.e2 Qm.cG (Qm.eV 3) (Qm.eB Qm.bA (Qm.af (Qm.eV 6) Qm.aj)))))
   (Qm.bj (Qm.e2 Qm.bc (Qm.eH Qm.cN (Qm.eV 1) Qm.bU (Qm.bF (Qm.eV 10))) (Qm.eH Qm.cN (Qm.eV 1) (Qm.bF (Qm.e2 Qm.bc (Qm.eV 10) (Qm.eC (.int 1)))) Qm.bU))))
   Qm.bz)
   (Qm.bj (Qm.e2 Qm.bc (Qm.e2 Qm.bc (Qm.eH Qm.cN (Qm.eV 1) Qm.bU (Qm.bF (Qm.eV 4))) (Qm.e2 Qm.aK (Qm.aL (Qm.af (Qm.aL (Qm.af (Qm.eC (.str "(")) (Qm.af (Qm.eC (.str ")")) Qm.aj))) (Qm.af (Qm.aL (Qm.af (Qm.eC (.str "(")) Qm.aj)) (Qm.af (Qm.aL (Qm.af (Qm.eC (.str ")")) Qm.aj)) Qm.aj)))) (Qm.e2 Qm.cG (Qm.e2 Qm.eK (Qm.eV 3) (Qm.eC (.int 64))) (Qm.eC (.int 3))))) (Qm.eH Qm.cN (Qm.eV 1) (Qm.bF (Qm.eV 4)) Qm.bU))))))))))))))))))))
noncomputable def cE:Qm.FN:=Qm.eP 2 12 gC
noncomputable def iJ(κ:Nat->Nat):Qm.XS:=(Qm.ax (Qm.aE 1 (Qm.eC .aA))
   (Qm.ax (Qm.Hx (bJ κ) (κ 0) 1 2 (Qm.af (Qm.eV 0) Qm.aj))
   (Qm.ax (Qm.cu (Qm.oB (Qm.tV (Qm.e2 Qm.ik (Qm.eV 1) (Qm.eC .aA))) (Qm.sy (Qm.tV (Qm.av (gR κ) [] (Qm.af (Qm.eV 1) Qm.aj)))))
   (Qm.bj (Qm.eC (.int 0)))
   Qm.bz)
   (Qm.ax (Qm.cu (Qm.oB (Qm.sy (Qm.tV (Qm.eB Qm.qx (Qm.af (Qm.IS "row" (Qm.eV 1)) (Qm.af (Qm.eC (.ty "int")) Qm.aj))))) (Qm.tV (Qm.eB Qm.qx (Qm.af (Qm.IS "row" (Qm.eV 1)) (Qm.af (Qm.eC (.ty "bool")) Qm.aj)))))
   (Qm.bj (Qm.eC (.int 0)))
   Qm.bz)
   (Qm.bj (Qm.IS "row" (Qm.eV 1)))))))
noncomputable def du(κ:Nat->Nat):Qm.FN:=Qm.eP 1 3 (iJ κ)
noncomputable def yW(κ:Nat->Nat):Qm.XS:=(Qm.ax (Qm.aE 1 (Qm.aL Qm.aj))
   (Qm.ax (Qm.aE 2 (Qm.aL Qm.aj))
   (Qm.ax (Qm.aE 3 (Qm.aL Qm.aj))
   (Qm.ax (Qm.jc (Qm.sW (Qm.af (Qm.eC (.int 2)) (Qm.af (Qm.eB Qm.Bs (Qm.af (Qm.eC (.int 3)) (Qm.af (Qm.eB Qm.Bt (Qm.af (Qm.eC (.int 14)) (Qm.af (Qm.eB Qm.bA (Qm.af (Qm.eV 0) Qm.aj)) Qm.aj))) Qm.aj))) Qm.aj))) (Qm.aM 4)
   (Qm.ax (Qm.aE 5 (Qm.av eE [] (Qm.af (Qm.eV 0) (Qm.af (Qm.eV 4) Qm.aj))))
   (Qm.ax (Qm.aE 6 (Qm.av fq [] (Qm.af (Qm.eV 5) Qm.aj)))
   (Qm.ax (Qm.cu (Qm.tV (Qm.e2 Qm.cO (Qm.av au [] (Qm.af (Qm.eV 5) (Qm.af (Qm.eC (.int 5)) Qm.aj))) (Qm.eC (.int 0))))
   (Qm.de (Qm.eM Qm.bI (Qm.eV 1) (Qm.af (Qm.e2 Qm.gM (Qm.eC (.str " ")) (Qm.av au [] (Qm.af (Qm.eV 5) (Qm.af (Qm.eC (.int 3)) Qm.aj)))) Qm.aj)))
   Qm.bz)
   (Qm.ax (Qm.de (Qm.eM Qm.bI (Qm.eV 2) (Qm.af (Qm.eB Qm.bA (Qm.af (Qm.eV 1) Qm.aj)) Qm.aj)))
   (Qm.ax (Qm.de (Qm.eM Qm.bI (Qm.eV 3) (Qm.af (Qm.e2 Qm.bc (Qm.e2 Qm.aK (Qm.av dG [] (Qm.af (Qm.eV 5) (Qm.af (Qm.aL Qm.aj) (Qm.af (Qm.eC (.int 6)) (Qm.af (Qm.eC (.str "or")) Qm.aj))))) (Qm.eC (.int 0))) (Qm.aL (Qm.af (Qm.eC (.str ":")) (Qm.af (Qm.av cQ [] (Qm.af (Qm.eV 6) Qm.aj)) Qm.aj)))) Qm.aj)))
   (Qm.de (Qm.eM Qm.bI (Qm.eV 1) (Qm.af (Qm.av cm [] (Qm.af (Qm.eV 5) (Qm.af (Qm.e2 Qm.aK (Qm.eV 3) (Qm.e1 Qm.ez (Qm.eC (.int 1)))) Qm.aj))) Qm.aj)))))))))
   (Qm.ax (Qm.aE 7 (Qm.tE "\n" (Qm.eV 1)))
   (Qm.ax (Qm.cu (Qm.tV (Qm.e2 Qm.gG (Qm.eB Qm.bA (Qm.af (Qm.kD (bJ κ) (Qm.af (Qm.eV 7) Qm.aj)) Qm.aj)) (Qm.eB Qm.bA (Qm.af (Qm.eV 3) Qm.aj))))
   (Qm.bj (Qm.eC (.bl false)))
   Qm.bz)
   (Qm.ax (Qm.aE 5 (Qm.av eE [] (Qm.af (Qm.eV 0) (Qm.af (Qm.eC (.int 1)) Qm.aj))))
   (Qm.ax (Qm.aE 8 (Qm.av au [] (Qm.af (Qm.eV 5) (Qm.af (Qm.eB Qm.bA (Qm.af (Qm.eV 3) Qm.aj)) Qm.aj))))
   (Qm.ax (Qm.j5 (Qm.av cm [] (Qm.af (Qm.eV 5) (Qm.af (Qm.av cE [] (Qm.af (Qm.eV 5) (Qm.af (Qm.e2 Qm.aK (Qm.eV 3) (Qm.eV 8)) Qm.aj))) Qm.aj))) (Qm.pW (Qm.eV 1) (Qm.e2 Qm.aK (Qm.eV 2) (Qm.eV 8))))
   (Qm.ax (Qm.cu (Qm.dI (Qm.tV (Qm.e2 Qm.nV (Qm.e2 Qm.bc (Qm.eV 8) (Qm.eC (.int 1))) (Qm.eB Qm.bA (Qm.af (Qm.eV 3) Qm.aj)))) (Qm.tV (Qm.e2 Qm.cO (Qm.av au [] (Qm.af (Qm.eV 5) (Qm.af (Qm.eC (.int 2)) Qm.aj))) (Qm.eC (.int 0)))))
   (Qm.ax (Qm.aE 9 (Qm.e2 Qm.bc (Qm.e2 Qm.bc (Qm.eV 8) (Qm.eC (.int 1))) (Qm.av au [] (Qm.af (Qm.eV 5) (Qm.af (Qm.e2 Qm.iC (Qm.e2 Qm.iC (Qm.eB Qm.bA (Qm.af (Qm.eV 3) Qm.aj)) (Qm.eV 8)) (Qm.eC (.int 1))) Qm.aj)))))
   (Qm.j5 (Qm.av cm [] (Qm.af (Qm.eV 5) (Qm.af (Qm.av cE [] (Qm.af (Qm.eV 5) (Qm.af (Qm.e2 Qm.aK (Qm.eV 3) (Qm.eV 9)) Qm.aj))) Qm.aj))) (Qm.pW (Qm.eV 1) (Qm.e2 Qm.aK (Qm.eV 2) (Qm.eV 9)))))
   Qm.bz)
   (Qm.ax (Qm.aE 10 (Qm.tE "\n" (Qm.eV 1)))
   (Qm.ax (Qm.cu (Qm.oB (Qm.tV (Qm.e2 Qm.gG (Qm.av (du κ) [] (Qm.af (Qm.eV 10) Qm.aj)) (Qm.e2 Qm.bc (Qm.e2 Qm.aK (Qm.eV 2) (Qm.eV 8)) (Qm.eC (.int 1))))) (Qm.tV (Qm.e2 Qm.gG (Qm.av (du κ) [] (Qm.af (Qm.eV 10) Qm.aj)) (Qm.e2 Qm.bc (Qm.e2 Qm.aK (Qm.eV 2) (Qm.eV 8)) (Qm.eC (.int 1))))))
   (Qm.bj (Qm.eC (.bl false)))
   Qm.bz)
   (Qm.bj (Qm.e2 Qm.cO (Qm.eB Qm.bA (Qm.af (Qm.kD (bJ κ) (Qm.af (Qm.eV 7) Qm.aj)) Qm.aj)) (Qm.eB Qm.bA (Qm.af (Qm.eV 3) Qm.aj))))))))))))))))
noncomputable def qI(κ:Nat->Nat):Qm.FN:=Qm.eP 1 11 (yW κ)
end qf
namespace qf
open PySem Qm PyProof.Rows
local macro_rules|`(tactic|walk_at "bd")=>`(tactic|first|assumption|((with_reducible show My.Bd _ (_*_));refine' My.Bd.mul ?_ ?_<;>walk_at "bd")|((with_reducible show My.Bd _ (_+_));refine' My.Bd.add ?_ ?_<;>walk_at "bd")|((with_reducible show My.Bd _ (_ - _));refine' My.Bd.sub ?_ ?_<;>walk_at "bd")|((with_reducible show My.Bd _ (- _));refine' My.Bd.neg ?_<;>walk_at "bd")|(refine' wK ?_;omega))
local macro_rules|`(tactic|walk_at "bdm")=>`(tactic|first|assumption|(refine' My.Bd.mono ?b1 ?b2;(case b1=>walk_at "bd");(case b2=>decide)))
local macro_rules|`(tactic|walk_at "mo")=>`(tactic|first|(refine mulL ?_;omega)|(refine mulR ?_;omega)|(refine aaY ?_ ?_<;>walk_at "bdm"))
local macro_rules|`(tactic|walk_at "dis")=>`(tactic|first|assumption|omega|walk_at "mo"|walk_at "bdm")
local macro_rules|`(tactic|erw[$[$t:term],*])=>`(tactic|simp (disch:=walk_at "dis") only[dB,lz,jI,U9,U_,oa,oQ,PJ,U8,eC_,eV_,e1_,e2_,aaO,aaP,U0,aaQ,U1,aaR,U2,Hz,U3,U4,HA,eB_,eM_,PH,aaS,tV_,U5,aaT,U6,U7,Mq,oR,Va,PK,Vb,Vc,Vd,rQ,PL,Ve,Vf,aaU,aaV,aaW,aaX,Vg,Mr,mB,yV,Ms,Mt,PM,PN,tG,Mu,Mv,Vh,Vi,Mw,Mx,PQ,PR,Vj,Vk,Vl,Vm,Vn,Vo,Vp,Vq,akd,aj9,Option.join_some,Option.join_none,Zu,Option.bind_none,ahG,ag5,abk,agy,aac,aam,aa5,ahO,abP,ab8,ahf,Nat.reduceAdd,aim,Nat.reduceEqDiff,if_true,if_false,abX,decide_true,decide_false,aha,akU,eq_self_iff_true,reduceIte,alk,List.zip_nil_right,List.zip_nil_left,aje,List.foldl_nil,Int.reduceLT,Int.reduceEq,Int.reduceLE,$[$t:term],*])
structure Kq(S:List Nat)(c c':Cells):Prop where
 len:c.length<=c'.length
 at_:∀i,i<c.length->i∉S->c'[i]? =c[i]?
theorem Kq.refl(S:List Nat)(c:Cells):Kq S c c:=⟨aat _,λ_ _ _=>rfl⟩
variable{S:List Nat}{c c1 c2:Cells}
theorem Kq.less{S':List Nat}(a:Kq S c c1)(b:Kq S' c1 c2)(h:∀x∈S',x∈S\/c.length<=x):Kq S c c2:=⟨ab2 a.len b.len,λi hi hs=>(b.at_ i (aa1 hi a.len) (λhx=>(h i hx).elim hs (λhh=>by omega))).trans (a.at_ i hi hs)⟩
theorem Kq.trans(a:Kq S c c1)(b:Kq S c1 c2):Kq S c c2:=a.less b λ_ h=>abf h
variable{n:Nat}{z:Cell}
theorem Kq.set(h:n∈S):Kq S c (c.set n z):=⟨by rw[abB];exact aat _,λi _ hi=>by rw[aal,if_neg (λ(e:n=i)=>hi (by rw[<-e];exact h))]⟩
theorem Kq.more{zs:List Cell}:Kq S c (c++zs):=⟨by rw[aaf];omega,λi h _=>abi h⟩
variable{i:Nat}
theorem cU(h:c[i]? =aa z):i<c.length:=(aan.mp h).1
variable{c':Cells}
theorem Kq.get(k:Kq S c c')(h:c[i]? =aa z)(hi:i∉S):c'[i]? =aa z:=by
 rw[k.at_ i (cU h) hi];exact h
theorem Kq.mono{S':List Nat}(k:Kq S c c')(h:∀x∈S,x∈S'):Kq S' c c':=⟨k.len,λi hi hs=>k.at_ i hi λhx=>hs (h i hx)⟩
variable{zs:Cells}
theorem bu(h:c[i]? =aa z):(c++zs)[i]? =aa z:=by rw[abi (cU h)];exact h
variable{x:Str}
theorem fD(h:x.cps.toList.all (λk=>decide (k<1114112))=true):x.cps.all (λk=>decide (k<1114112))=true:=by rw[<-aki];exact h
structure W0(x:Str):Prop where
 lt:x.cps.toList.all (λk=>decide (97<=k/\k<=122))=true
 pos: 0<x.length
 FR:x.length<=8
structure Wd(x:Str):Prop extends W0 x where
 free:x∉(["and","or","not","any"]:List Str)
theorem W0.ok(h:W0 x):x.cps.all (λk=>decide (k<1114112))=true:=by
 refine fD (abD.mpr λk hk=>?_);have:=abD.mp h.lt k hk;simp only[decide_eq_true_eq]at this |-
 omega
theorem Wd.ok(h:Wd x):x.cps.all (λk=>decide (k<1114112))=true:=h.toW0.ok
theorem cq{k:Nat}(h:x.cps.all (λk=>decide (k<1114112))=true):data c (k+1) (.str x)=aa (.str x):=by
 have:data c (k+1) (.str x)=if x.cps.all (λk=>decide (k<1114112))=true then aa (.str x)else ae:=rfl
 rw[this,if_pos h]
variable{y:Str}
theorem gU(hx:x.cps.all (λk=>decide (k<1114112))=true)(hy:y.cps.all (λk=>decide (k<1114112))=true):cO (.str x) (.str y) c=aa (.bl (decide (x=y)),c):=by
 have:vH (.str x) (.str y) c=(data c 6 (.str x)).bind λd=>(data c 6 (.str y)).bind λe=>aa (@decide (d=e) (adp _)):=rfl
 unfold cO;rw[this,cq hx,cq hy];simp
theorem tH{k:Nat}:∀(ws:List Str),(∀w∈ws,w.cps.all (λk=>decide (k<1114112))=true)->omap (data c (k+1)) (ws.map D.str)=aa (ws.map ahs)
 |[],_=>rfl
 |w::ws,h=>by
  rw[abk,abk];unfold omap;rw[cq (h w (aa7 ..)),Zu,tH ws λv hv=>h v (aay _ hv)];rfl
theorem Ji{ws:List Str}(hx:x.cps.all (λk=>decide (k<1114112))=true)(h:∀w∈ws,w.cps.all (λk=>decide (k<1114112))=true):OV (.str x) (.tup (ws.map D.str)) c=aa (.bl (decide (x∈ws)),c):=by
 unfold OV Lo;rw[tG,Zu,cq hx,Zu,tH ws h];simp
theorem len_app:(x++y).length=x.length+y.length:=by
 show(x.cps++y.cps).size=_;rw[ajS];rfl
theorem jU(h:x.length+y.length<=10000):fM (.str x) (.str y) c=aa (.str (x++y),c):=by
 have:fM (.str x) (.str y) c=if x.length+y.length<=dJ then aa (.str (x++y),c)else ae:=rfl
 rw[this,if_pos (cW h)]
theorem oN{α:Type}{xs:List α}{g:Int}(h0: 0<=g)(h1:g<xs.length):∃x,eI xs g=aa x/\x∈xs:=by
 have hg:g.toNat<xs.length:=by omega
 refine⟨xs[g.toNat],?_,ahk hg⟩;have:=gP (xs:=xs) (n:=g.toNat) (x:=xs[g.toNat]) (aav hg);rwa[show((g.toNat:Nat):Int)=g by omega]at this
theorem Mz{g:Int}(h0: 0<=g)(h1:g<26):∃k,yE (.str "abcdefghijklmnopqrstuvwxyz") (.int g) c=aa (.str ⟨#[k]⟩,c)/\(97<=k/\k<=122):=by
 have hl:("abcdefghijklmnopqrstuvwxyz":Str).cps.toList.length=26:=by decide
 obtain⟨k,e,hm⟩:=oN (xs:=("abcdefghijklmnopqrstuvwxyz":Str).cps.toList) h0 (by rw[hl];exact h1);have ha:∀k∈("abcdefghijklmnopqrstuvwxyz":Str).cps.toList,97<=k/\k<=122:=by decide
 refine⟨k,?_,ha k hm⟩;have C0:("abcdefghijklmnopqrstuvwxyz":Str).length<=dJ:=cW (by decide);have:yE (.str "abcdefghijklmnopqrstuvwxyz") (.int g) c=if ("abcdefghijklmnopqrstuvwxyz":Str).length<=dJ then(eI ("abcdefghijklmnopqrstuvwxyz":Str).cps.toList g).bind λk=>aa (.str ⟨#[k]⟩,c)else ae:=rfl
 rw[this,if_pos C0,e];rfl
def Lf(l:Nat)(m:Int)(c:Cells):Prop:=∃a b:Int,c[l]? =aa (.lst [.int a,.int b,.int m])
variable{l:Nat}{m:Int}
theorem Lf.lt(h:Lf l m c):l<c.length:=by obtain⟨a,b,h⟩:=h;exact cU h
theorem Lf.keep(h:Lf l m c)(k:Kq S c c')(hs:l∉S):Lf l m c':=by obtain⟨a,b,h⟩:=h;exact⟨a,b,k.get h hs⟩
theorem Lf.more(h:Lf l m c):Lf l m (c++zs):=by obtain⟨a,b,h⟩:=h;exact⟨a,b,bu h⟩
theorem fE{k:Int}(h:Lf l m c)(h0: 0<k)(hk:k<1000000000):∃g c',au [.ref l,.int k] c=aa (.int g,c')/\0<=g/\g<k/\Lf l m c'/\Kq [l] c c':=by
 have fW:=h.lt;obtain⟨a,b,hc⟩:=h;have s1:=aB hc;have l1:=bp hc;have hm:My.Bd 8900 k:=My.Bd.mono (wK (i:=k) (by omega)) (by decide)
 by_cases ha:a=0
 .refine⟨b % k,c.set l (.lst [.int a,.int (b / k),.int m]),?_,agE _ (by omega),adm _ h0,⟨a,b / k,?_⟩,Kq.set (by simp)⟩
  .subst ha
   simp[au,dB,j8,cJ,s1,yV h0,mB h0 hm,pW,l1,qw]
  .simp[fW]
 .refine⟨a % k,c.set l (.lst [.int (a / k),.int b,.int m]),?_,agE _ (by omega),adm _ h0,⟨a / k,b,?_⟩,Kq.set (by simp)⟩
  .simp[au,dB,j8,cJ,s1,yV h0,mB h0 hm,pW,l1,qw,ha]
  .simp[fW]
variable{d:D}
theorem rS{lo:Int}(h:(eU lo n)[i]? =aa d):i<n/\d= .int (lo+(i:Int)):=by
 unfold eU at h;rw[aa6]at h
 by_cases hi:i<n
 .rw[ak6 hi]at h;cases h;exact⟨hi,rfl⟩
 .rw[ajB.mpr (by simpa using ake hi)]at h;cases h
theorem qJ{lo:Int}:(eU lo n).length=n:=by simp[eU]
variable{σ:Qm.Env}
theorem lE{it:XI}{g:XG}{b:XS}{I:Itm}(h:it σ c=aa (I,c1)):jc it g b σ c=bY I.ks g b I.ds σ c1:=by
 unfold jc;rw[h,Zu]
variable{r:Option (Fl×Qm.Env×Cells)}
theorem aw{a b:XS}{σ1:Qm.Env}(h1:a σ c=aa (.nx,σ1,c1))(h2:b σ1 c1=r):ax a b σ c=r:=by
 rw[lz,h1,Zu];exact h2
theorem PV(hx:x.cps.toList.all (λk=>decide (97<=k/\k<=122))=true)(hy:y.cps.toList.all (λk=>decide (97<=k/\k<=122))=true):(x++y).cps.toList.all (λk=>decide (97<=k/\k<=122))=true:=by
 show(x.cps++y.cps).toList.all _=true;rw[ajf,List.all_append,hx,hy];rfl
theorem MA:∀x∈(["an","nd","o","r","no","ot","t","ny","y","andor","nota","anyone"]:List Str),W0 x:=by
 intro x hx;have h:∀x∈(["an","nd","o","r","no","ot","t","ny","y","andor","nota","anyone"]:List Str),x.cps.toList.all (λk=>decide (97<=k/\k<=122))=true/\0<x.length/\x.length<=8:=by decide
 exact⟨(h x hx).1,(h x hx).2.1,(h x hx).2.2⟩
theorem aaZ:∀x∈(["and","or","not","any"]:List Str),Wd (x++"x"):=by
 intro x hx;have h:∀x∈(["and","or","not","any"]:List Str),(x++"x").cps.toList.all (λk=>decide (97<=k/\k<=122))=true/\0<(x++"x").length/\(x++"x").length<=8/\(x++"x")∉(["and","or","not","any"]:List Str):=by decide
 exact⟨⟨(h x hx).1,(h x hx).2.1,(h x hx).2.2.1⟩,(h x hx).2.2.2⟩
theorem MB:∀w∈(["and","or","not","any"]:List Str),w.cps.all (λk=>decide (k<1114112))=true:=by
 intro x hx;have h:∀x∈(["and","or","not","any"]:List Str),x.cps.toList.all (λk=>decide (k<1114112))=true:=by decide
 exact fD (h x hx)
theorem PX: 12<=dJ:=cW (by decide)
theorem MC(h:Lf l m c):∃x c',di [.ref l] c=aa (.str x,c')/\Wd x/\Lf l m c'/\Kq [l] c c':=by
 obtain⟨g,c1,e1,g0,g1,p1,k1⟩:=fE h (k:=8) (by decide) (by decide)
 -- oF aa0
 have hr:dZ (af (e2 bc (eC (.int 1)) (av au [] (af (eV 0) (af (eC (.int 8)) aj)))) aj) [aa (.ref l),aa (.str "abcdefghijklmnopqrstuvwxyz"),aa (.str ""),ae] c=aa (⟨eU 0 (1+g).toNat,[]⟩,c1):=rR (j:=1+g) (by erw[e1]) (by omega);have key:=iU (ks:=[]) (g:=aM 3) (body:=(aE 2 (e2 fM (eV 2) (e2 yE (eV 1) (av au [] (af (eV 0) (af (eC (.int 26)) aj)))))))
  (λi σ c'=>∃x j,σ=[aa (.ref l),aa (.str "abcdefghijklmnopqrstuvwxyz"),aa (.str x),j]/\x.length=i/\x.cps.toList.all (λk=>decide (97<=k/\k<=122))=true/\Lf l m c'/\Kq [l] c c') (eU 0 (1+g).toNat) 0 [aa (.ref l),aa (.str "abcdefghijklmnopqrstuvwxyz"),aa (.str ""),ae] c1 (λ_ _ _ _=>fw) (by
   rintro i d σ c' hd ⟨x,j,rfl,hx,ho,hp,hk⟩;obtain⟨hi,rfl⟩:=rS hd;obtain⟨g2,c2,yX,Vr,g21,p2,k2⟩:=fE hp (k:=26) (by decide) (by decide);obtain⟨k,e3,hk3⟩:=Mz (c:=c2) Vr g21;refine⟨_,c',[aa (.ref l),aa (.str "abcdefghijklmnopqrstuvwxyz"),aa (.str (x++⟨#[k]⟩)),aa (.int (0+(i:Int)))],c2,rfl,?_,⟨_,_,rfl,?_,PV ho (by simpa using hk3),p2,hk.trans k2⟩⟩
   .have e4:=jU (x:=x) (y:=⟨#[k]⟩) (c:=c2) (by
     have:(⟨#[k]⟩:Str).length=1:=rfl;omega)
    erw[yX,e3,e4]
   .rw[len_app,hx];rfl) ⟨"",ae,rfl,rfl,by decide,p1,k1⟩
 obtain⟨σ',c2,yX,x,j,rfl,hx,ho,p2,k2⟩:=key;rw[qJ]at hx;have wx:W0 x:=⟨ho,by omega,by omega⟩;have f1:jc (dZ (af (e2 bc (eC (.int 1)) (av au [] (af (eV 0) (af (eC (.int 8)) aj)))) aj)) (aM 3) (aE 2 (e2 fM (eV 2) (e2 yE (eV 1) (av au [] (af (eV 0) (af (eC (.int 26)) aj)))))) [aa (.ref l),aa (.str "abcdefghijklmnopqrstuvwxyz"),aa (.str ""),ae] c=aa (.nx,[aa (.ref l),aa (.str "abcdefghijklmnopqrstuvwxyz"),aa (.str x),j],c2):=by rw[lE hr];exact yX
 obtain⟨g3,c3,e3,g30,g31,p3,k3⟩:=fE p2 (k:=12) (by decide) (by decide)
 -- a word of oF list
 have step:∃y c4,cu (tV (e2 cO (av au [] (af (eV 0) (af (eC (.int 12)) aj))) (eC (.int 0)))) (aE 2 (e2 aK (aL (af (eC (.str "an")) (af (eC (.str "nd")) (af (eC (.str "o")) (af (eC (.str "r")) (af (eC (.str "no")) (af (eC (.str "ot")) (af (eC (.str "t")) (af (eC (.str "ny")) (af (eC (.str "y")) (af (eC (.str "andor")) (af (eC (.str "nota")) (af (eC (.str "anyone")) aj))))))))))))) (av au [] (af (eV 0) (af (eC (.int 12)) aj))))) bz [aa (.ref l),aa (.str "abcdefghijklmnopqrstuvwxyz"),aa (.str x),j] c2=aa (.nx,[aa (.ref l),aa (.str "abcdefghijklmnopqrstuvwxyz"),aa (.str y),j],c4)/\W0 y/\Lf l m c4/\Kq [l] c2 c4:=by
  by_cases h3:g3=0
  .obtain⟨g4,c4,e4,g40,g41,p4,k4⟩:=fE (p3.more (zs:=[.lst ((["an","nd","o","r","no","ot","t","ny","y","andor","nota","anyone"]:List Str).map D.str)])) (k:=12) (by decide) (by decide)
   obtain⟨d,e5,hm⟩:=oN (xs:=(["an","nd","o","r","no","ot","t","ny","y","andor","nota","anyone"]:List Str).map D.str) g40 (by simpa using g41);obtain⟨y,hy,rfl⟩:=adn.mp hm;have ql:c4[c3.length]? =aa (.lst ((["an","nd","o","r","no","ot","t","ny","y","andor","nota","anyone"]:List Str).map D.str)):=k4.get (by simp) (by have:=p3.lt;simp;omega);have s4:=aB ql;refine⟨y,c4,?_,MA y hy,p4,k3.trans (Kq.more.trans k4)⟩;subst h3;simp only[abk,agy]at e4 s4 e5;erw[e3,PX,e4,cJ,s4,e5]
  .exact⟨x,c3,by erw[e3,h3],wx,p3,k3⟩
 obtain⟨y,c4,f2,wy,p4,k4⟩:=step;have e6:=Ji (c:=c4) wy.ok MB;simp only[abk,agy]at e6;have e7:=jU (x:=y) (y:="x") (c:=c4) (by
  have:("x":Str).length=1:=by decide
  have:=wy.FR;omega)
 have run:∃z,iZ [aa (.ref l),ae,ae,ae] c=aa (.rt (.str z),[aa (.ref l),aa (.str "abcdefghijklmnopqrstuvwxyz"),aa (.str z),j],c4)/\Wd z:=by
  by_cases hb:y∈(["and","or","not","any"]:List Str)
  rotate_left
  .rw[decide_eq_false hb]at e6
   refine⟨y,?_,wy,hb⟩;unfold iZ;refine aw (σ1:=[aa (.ref l),aa (.str "abcdefghijklmnopqrstuvwxyz"),ae,ae]) (c1:=c) rfl ?_;refine aw (σ1:=[aa (.ref l),aa (.str "abcdefghijklmnopqrstuvwxyz"),aa (.str ""),ae]) (c1:=c) rfl ?_;refine aw f1 ?_;refine aw f2 ?_;erw[e6]
  .rw[decide_eq_true hb]at e6
   refine⟨y++"x",?_,aaZ y hb⟩
   .unfold iZ
    refine aw (σ1:=[aa (.ref l),aa (.str "abcdefghijklmnopqrstuvwxyz"),ae,ae]) (c1:=c) rfl ?_;refine aw (σ1:=[aa (.ref l),aa (.str "abcdefghijklmnopqrstuvwxyz"),aa (.str ""),ae]) (c1:=c) rfl ?_;refine aw f1 ?_;refine aw f2 ?_;erw[e6,e7]
 obtain⟨z,e8,wz⟩:=run;refine⟨z,c4,?_,wz,p4,k2.trans k4⟩;erw[di,e8]
theorem Vs:qv (.int 10) (.int 20) c=aa (.int 100000000000000000000,c):=by
 unfold qv;rw[BK,if_pos (by decide)];rfl
theorem PY{i:Int}(h:My.Bd 64 i):BC (.int i) (.int 18) c=aa (.int (i ^ 18),c):=by
 unfold BC;rw[BK,if_pos ⟨by decide,by decide,h.mono (by decide)⟩];rfl
variable{s:Nat}
theorem MD{ns:List Int}{k:Int}(hs:c[s]? =aa (.ro (ns.map D.int)))(k0: 0<=k):∃z,c_ [.ref s,.int k] c=aa (.int z,c):=by
 have s1:=AK hs;have hl:((ns.map D.int).length:Int)=ns.length:=by simp
 by_cases hk:k<ns.length
 .obtain⟨d,hd,hm⟩:=oN (xs:=ns.map D.int) k0 (by rw[hl];exact hk)
  obtain⟨z,_,rfl⟩:=adn.mp hm;refine⟨z,?_⟩;have Vt:decide (k<((ns.map D.int).length:Int))=true:=by rw[hl];exact decide_eq_true hk
  erw[c_,gQ,eo,s1,cJ,Vt,hd]
 .refine⟨0,?_⟩
  have Vt:decide (k<((ns.map D.int).length:Int))=false:=by rw[hl];exact decide_eq_false (by omega)
  erw[c_,gQ,eo,s1,cJ,Vt]
theorem ME{ns:List Int}{k:Int}(hs:c[s]? =aa (.ro (ns.map D.int)))(k0: 0<=k)(k1:k<1000):∃a b,eE [.ref s,.int k] c=aa (.ref c.length,c++[.lst [.int a,.int b,.int 0]]):=by
 obtain⟨z,e1⟩:=MD hs k0;obtain⟨z0,e2⟩:=MD hs (k:=0) (by decide);have a0:=agE (if z<0 then -z else z) (show(2147483647:Int)≠0 by decide);have a1:=adm (if z<0 then -z else z) (show(0:Int)<2147483647 by decide);have b0:=agE ((if z<0 then -z else z) % 2147483647*48271+7919*k+11) (show(2147483647:Int)≠0 by decide);have b1:=adm ((if z<0 then -z else z) % 2147483647*48271+7919*k+11) (show(0:Int)<2147483647 by decide);have hb:My.Bd 64 (2147483647+((if z<0 then -z else z) % 2147483647*48271+7919*k+11) % 2147483647):=wK (by omega);have p1:=PY hb (c:=c);have p2:=Vs (c:=c);have hm:(if decide (z0 % 2=0)=true then(1:Int)else 0).natAbs<2 ^ 64:=by split<;>decide
 have hd:My.Bd 8900 (100000000000000000000:Int):=My.Bd.mono (j:=70) ⟨by decide⟩ (by decide);have h9:(0:Int)<100000000000000000000:=by decide
 refine⟨(if z<0 then -z else z)*(if decide (z0 % 2=0)=true then 1 else 0),(2147483647+((if z<0 then -z else z) % 2147483647*48271+7919*k+11) % 2147483647) ^ 18 / 100000000000000000000,?_⟩;rw[eE,dB,mD];erw[e1,e2,p1,p2,mB h9 hd,Mr (mulR hm)]
inductive Tr:Nat->D->Prop
 |is {n:Nat}{x y:Str}:Wd x->Wd y->Tr (n+1) (.tup [.str "is",.str x,.str y])
 |any {n:Nat}:Tr (n+1) (.tup [.str "any"])
 |not {n:Nat}{t:D}:Tr n t->Tr (n+1) (.tup [.str "not",t])
 |and {n:Nat}{t u:D}:Tr n t->Tr n u->Tr (n+1) (.tup [.str "and",t,u])
 |or {n:Nat}{t u:D}:Tr n t->Tr n u->Tr (n+1) (.tup [.str "or",t,u])
theorem Tr.mono:∀{n m:Nat}{t:D},Tr n t->n<=m->Tr m t
 |n+1,m+1,_,.is h1 h2,_=>.is h1 h2
 |n+1,m+1,_,.any,_=>.any
 |n+1,m+1,_,.not h,hl=>.not (h.mono (by omega))
 |n+1,m+1,_,.and h g,hl=>.and (h.mono (by omega)) (g.mono (by omega))
 |n+1,m+1,_,.or h g,hl=>.or (h.mono (by omega)) (g.mono (by omega))
def kw:Nat->Str
 |0=>"and"
 |_=>"or"
inductive Ex:Nat->Nat->List Str->List D->D->Prop
 |is {n:Nat}{x y:Str}:Wd x->Wd y->Ex 0 (n+1) [x,y] [.str x,.str y] (.tup [.str "is",.str x,.str y])
 |any {n:Nat}:Ex 0 (n+1) ["any"] [.str "any"] (.tup [.str "any"])
 |not {n:Nat}{ts:List Str}{is:List D}{t:D}:Ex 0 n ts is t->Ex 0 (n+1) ("not"::ts) (.str "not"::is) (.tup [.str "not",t])
 |par {n:Nat}{ts:List Str}{is:List D}{t:D}:Ex 2 n ts is t->Ex 0 n (("(":Str)::(ts++[(")":Str)])) [t] t
 |up {k n:Nat}{ts:List Str}{is:List D}{t:D}:k<2->Ex k n ts is t->Ex (k+1) n ts is t
 |bin {k n:Nat}{ts us:List Str}{is js:List D}{t u:D}:k<2->Ex (k+1) n ts is t->Ex k n us js u->Ex (k+1) (n+1) (ts++[kw k]++us) (is++[.str (kw k)]++js) (.tup [.str (kw k),t,u])
variable{ts:List Str}{is:List D}
theorem Ex.mono{k:Nat}{t:D}(h:Ex k n ts is t):∀m,n<=m->Ex k m ts is t:=by
 induction h with
 |is h1 h2=>intro m hm;obtain⟨m,rfl⟩:∃q,m=q+1:=⟨m - 1,by omega⟩;exact .is h1 h2
 |any=>intro m hm;obtain⟨m,rfl⟩:∃q,m=q+1:=⟨m - 1,by omega⟩;exact .any
 |not _ ih=>intro m hm;obtain⟨m,rfl⟩:∃q,m=q+1:=⟨m - 1,by omega⟩;exact .not (ih m (by omega))
 |par _ ih=>intro m hm;exact .par (ih m hm)
 |up hk _ ih=>intro m hm;exact .up hk (ih m hm)
 |bin hk _ _ oV oW=>intro m hm;obtain⟨m,rfl⟩:∃q,m=q+1:=⟨m - 1,by omega⟩;exact .bin hk (oV m (by omega)) (oW m (by omega))
theorem Ex.tr{k:Nat}{t:D}(h:Ex k n ts is t):Tr n t:=by
 induction h with
 |is h1 h2=>exact .is h1 h2
 |any=>exact .any
 |not _ ih=>exact .not ih
 |par _ ih=>exact ih
 |up _ _ ih=>exact ih
 |@bin k _ _ _ _ _ _ _ hk _ _ oV oW=>
  match k,hk with
  |0,_=>exact .and oV oW
  |1,_=>exact .or oV oW
def pr(p:Str×Str):D:=.tup [.str p.1,.str p.2]
structure St(N:Int)(l w:Nat)(m:Int)(ws:List (Str×Str))(c:Cells):Prop where
 lf:Lf l m c
 at_:c[w]? =aa (.lst (ws.map pr))
 wd:∀p∈ws,Wd p.1/\Wd p.2
 ne:l≠w
 len:(ws.length:Int)<=N+m
 big:N<=9000
 m0: 0<=m
theorem St.keep{N:Int}{w:Nat}{ws:List (Str×Str)}(h:St N l w m ws c)(k:Kq [l] c c')(hl:Lf l m c'):St N l w m ws c':=⟨hl,k.get h.at_ (by simpa using λe=>h.ne e.symm),h.wd,h.ne,h.len,h.big,h.m0⟩
theorem St.more{N:Int}{w:Nat}{ws:List (Str×Str)}(h:St N l w m ws c):St N l w m ws (c++zs):=⟨h.lf.more,bu h.at_,h.wd,h.ne,h.len,h.big,h.m0⟩
theorem Kq.two{w:Nat}(k:Kq [l] c c'):Kq [l,w] c c':=k.mono λx hx=>by simp at hx |-;exact abf hx
theorem MF{k:Nat}{p:Str×Str}(h:Wd p.1/\Wd p.2):data c (k+2) (pr p)=aa (.tuple [.str p.1,.str p.2]):=by
 have:data c (k+2) (pr p)=(omap (data c (k+1)) [.str p.1,.str p.2]).bind λds=>aa (.tuple ds):=rfl
 rw[this];unfold omap omap omap;rw[cq h.1.ok,cq h.2.ok];rfl
theorem AL{k:Nat}:∀(ws:List (Str×Str)),(∀p∈ws,Wd p.1/\Wd p.2)->omap (data c (k+2)) (ws.map pr)=aa (ws.map λp=>.tuple [.str p.1,.str p.2])
 |[],_=>rfl
 |w::ws,h=>by
  rw[abk,abk];unfold omap;rw[MF (h w (aa7 ..)),Zu,AL ws λv hv=>h v (aay _ hv)];rfl
variable{xs:List D}
theorem kN{k:Nat}{ds:List agI}(h:c[n]? =aa (.lst xs))(e:omap (data c k) xs=aa ds):data c (k+1) (.ref n)=aa (.list ds):=by
 have:data c (k+1) (.ref n)=(match c[n]? with
   |some (.lst xs)=>(omap (data c k) xs).bind λds=>aa (.list ds)
   |some (.ro xs)=>(omap (data c k) xs).bind λds=>aa (.list ds)
   |_=>ae):=rfl
 rw[this,h];dsimp only
 rw[e];rfl
theorem MG{w:Nat}{ws:List (Str×Str)}(h:c[w]? =aa (.lst (ws.map pr)))(hw:∀p∈ws,Wd p.1/\Wd p.2)(hn:c[n]? =aa (.lst [])):gG (.ref w) (.ref n) c=aa (.bl (decide (ws≠[])),c):=by
 have:vH (.ref w) (.ref n) c=(data c 6 (.ref w)).bind λd=>(data c 6 (.ref n)).bind λe=>aa (@decide (d=e) (adp _)):=rfl
 unfold gG;rw[this,kN h (AL (k:=3) ws hw),kN hn (show omap (data c 5) []=aa [] from rfl)];simp
variable{a:Nat}{ys:List D}
theorem h_{b:Nat}(h:c[a]? =aa (.lst xs))(g:c[b]? =aa (.lst ys))(hl:xs.length+ys.length<=10000):bc (.ref a) (.ref b) c=aa (.ref c.length,c++[.lst (xs++ys)]):=by
 have:bc (.ref a) (.ref b) c=(cj (.ref a) c).bind λp=>(cj (.ref b) c).bind λq=>if p.2.length+q.2.length<=dJ then aa (.ref c.length,c++[.lst (p.2++q.2)])else ae:=rfl
 rw[this,bp h,bp g];dsimp only[Zu];rw[if_pos (cW hl)]
theorem dR{y:D}(h:c[a]? =aa (.lst xs))(hl:xs.length<10000):bI (.ref a) [y] c=aa (.aA,c.set a (.lst (xs++[y]))):=by
 have:bI (.ref a) [y] c=(cj (.ref a) c).bind λl=>if l.2.length<dJ then aa (.aA,c.set l.1 (.lst (l.2++[y])))else ae:=rfl
 rw[this,bp h];dsimp only[Zu];rw[if_pos (aa1 hl (cW (aat _)))]
theorem iz: 0<=dJ:=ab7 _
theorem aG:(c++[z])[c.length]? =aa z:=by simp
theorem Lf.store(h:Lf l m c)(tI:σ[0]? =aa (aa (.ref l))):∃c',j5 (e2 bc (e2 aK (eV 0) (eC (.int 2))) (eC (.int 2))) (pW (eV 0) (eC (.int 2))) σ c=aa (.nx,σ,c')/\Lf l (m+2) c'/\Kq [l] c c':=by
 have fW:=h.lt;obtain⟨a,b,hc⟩:=h;have s1:=aB hc;have l1:=bp hc;refine⟨c.set l (.lst [.int a,.int b,.int (m+2)]),?_,⟨a,b,by simp[fW]⟩,Kq.set (by simp)⟩;simp[tI,cJ,s1,pW,l1,qw]
theorem Lf.ix(h:Lf l m c):aK (.ref l) (.int 2) c=aa (.int m,c):=by
 obtain⟨a,b,hc⟩:=h;rw[cJ,aB hc];simp
def jC(x:Str):Bool:=x=="("||x==")"
def nb(ts:List Str):Nat:=ts.countP λx=>!jC x
theorem ib(a b:List Str):nb (a++b)=nb a+nb b:=by simp[nb]
theorem yY(x:Str)(b:List Str):nb (x::b)=nb [x] +nb b:=by rw[show x::b=[x]++b from rfl,ib]
theorem FT(ts:List Str):nb ts<=ts.length:=List.countP_le_length
theorem PZ(h:jC x=false):nb [x]=1:=by simp[nb,h]
theorem MH(h:jC x=true):nb [x]=0:=by simp[nb,h]
theorem j_(x:Str):nb [x]<=1:=FT [x]
theorem Vu:nb ["("]=0:=MH (by decide)
theorem Vv:nb [")"]=0:=MH (by decide)
def Out(k:Nat)(N:Int)(l w:Nat)(m:Int)(c:Cells)(o:Option (D×Cells)):Prop:=∃s t m' k_ c' ss is,o=aa (.tup [.ref s,t],c')/\Ex k (m' - m).toNat ss is t/\m+2<=m'/\m'<=26/\St N l w m' k_ c'/\c'[s]? =aa (.lst (ss.map D.str))/\c.length<=s/\((ss.length:Int)+1<=4*(m' - m)/\2*(nb ss:Int)+2<=3*(m' - m))/\Kq [l,w] c c'
def AM(F:FN)(r:Nat):Prop:=∀N l w m ws c,St N l w m ws c->m<=24->Out 0 N l w m c (F [.ref l,.ref w,.int r] c)
def mE(F:FN)(r:Nat)(x:Str)(k:Nat):Prop:=∀N l w m ws c,St N l w m ws c->m<=24->Out k N l w m c (F [.ref l,.ref w,.int r,.str x] c)
theorem St.P0{N:Int}{w:Nat}{ws:List (Str×Str)}(h:St N l w m ws c):w<c.length:=cU h.at_
theorem Vw{N:Int}{w:Nat}{ws:List (Str×Str)}{r g:D}{gi:Int}(hg:g= .int gi)(h:St N l w m ws c)(hm:m<=26):∃P x y c',
  (ax (aE 4 (aL (af (av di [] (af (eV 0) aj)) (af (av di [] (af (eV 0) aj)) aj))))
   (ax (cu (dI (tV (e2 cO (e2 cG (eV 3) (eC (.int 2))) (eC (.int 1)))) (tV (e2 gG (eV 1) (aL aj))))
   (aE 4 (eB vI (af (e2 aK (eV 1) (av au [] (af (eV 0) (af (eB bA (af (eV 1) aj)) aj)))) aj)))
   bz)
   (ax (de (eM bI (eV 1) (af (dc (af (e2 aK (eV 4) (eC (.int 0))) (af (e2 aK (eV 4) (eC (.int 1))) aj))) aj)))
   (bj (dc (af (eV 4) (af (dc (af (eC (.str "is")) (af (e2 aK (eV 4) (eC (.int 0))) (af (e2 aK (eV 4) (eC (.int 1))) aj)))) aj))))))) [aa (.ref l),aa (.ref w),aa r,aa g,ae,ae,ae] c=aa (.rt (.tup [.ref P,.tup [.str "is",.str x,.str y]]),[aa (.ref l),aa (.ref w),aa r,aa g,aa (.ref P),ae,ae],c')
   /\Wd x/\Wd y/\Lf l m c'/\c'[w]? =aa (.lst ((ws++[(x,y)]).map pr))/\c'[P]? =aa (.lst [.str x,.str y])/\c.length<=P/\Kq [l,w] c c':=by
 subst hg;obtain⟨x1,c1,e1,w1,p1,k1⟩:=MC h.lf;obtain⟨x2,c2,e2,w2,p2,k2⟩:=MC p1;have h2:St N l w m ws c2:=h.keep (k1.trans k2) p2;have OD:=h2.P0;have hll:=h2.lf.lt;have Bg:=(k1.trans k2).len;have step:∃P x y c6,cu (dI (tV (Qm.e2 cO (Qm.e2 cG (eV 3) (eC (.int 2))) (eC (.int 1)))) (tV (Qm.e2 gG (eV 1) (aL aj))))
   (aE 4 (eB vI (af (Qm.e2 aK (eV 1) (av au [] (af (eV 0) (af (eB bA (af (eV 1) aj)) aj)))) aj)))
   bz [aa (.ref l),aa (.ref w),aa r,aa (.int gi),aa (.ref c2.length),ae,ae] (c2++[.lst [.str x1,.str x2]])=aa (.nx,[aa (.ref l),aa (.ref w),aa r,aa (.int gi),aa (.ref P),ae,ae],c6)
   /\c6[P]? =aa (.lst [.str x,.str y])/\Wd x/\Wd y/\St N l w m ws c6/\c2.length<=P/\Kq [l] c2 c6:=by
  have h3:St N l w m ws (c2++[.lst [.str x1,.str x2]]):=h2.more
  by_cases g1:gi % 2=1
  .have h4:St N l w m ws (c2++[.lst [.str x1,.str x2]]++[.lst []]):=h3.more
   have n1:=MG (n:=(c2++[Cell.lst [.str x1,.str x2]]).length) h4.at_ h4.wd aG
   by_cases hw:ws=[]
   .have Vx:decide (ws≠[])=false:=decide_eq_false (λe=>e hw)
    rw[Vx]at n1;refine⟨c2.length,x1,x2,c2++[.lst [.str x1,.str x2]]++[.lst []],?_,bu aG,w1,w2,h4,aat _,Kq.more.trans Kq.more⟩;erw[g1,iz,n1]
   .have Vx:decide (ws≠[])=true:=decide_eq_true hw
    rw[Vx]at n1;have AI: 0<ws.length:=by cases ws with
     |nil=>exact absurd rfl hw
     |cons a b=>simp
    have hlen:=h4.len;have aa4:=h4.big;have hm0:=h4.m0;obtain⟨i,c5,e5,i0,i1,p5,k5⟩:=fE h4.lf (k:=(ws.length:Int)) (by omega) (by omega);have h5:=h4.keep k5 p5;have s4:=aB h4.at_;have s5:=aB h5.at_;obtain⟨d,ed,hd⟩:=oN (xs:=ws.map pr) i0 (by simpa using i1);obtain⟨p,hp,rfl⟩:=adn.mp hd;have e5':au [.ref l,.int ((ws.map pr).length:Int)] (c2++[.lst [.str x1,.str x2]]++[.lst []])=aa (.int i,c5):=by rw[aaE];exact e5
    have kk:Kq [l] c2 c5:=Kq.more.trans (Kq.more.trans k5);refine⟨c5.length,p.1,p.2,c5++[.lst [.str p.1,.str p.2]],?_,aG,(h5.wd p hp).1,(h5.wd p hp).2,h5.more,kk.len,kk.trans Kq.more⟩;have bl:vI [pr p] c5=aa (.ref c5.length,c5++[.lst [.str p.1,.str p.2]]):=rfl;erw[g1,iz,n1,eo,s4,e5',cJ,s5,ed,bl]
  .exact⟨c2.length,x1,x2,c2++[.lst [.str x1,.str x2]],by erw[g1],aG,w1,w2,h3,aat _,Kq.more⟩
 obtain⟨P,x,y,c6,f1,q1,wx,wy,h6,hP,k6⟩:=step;have sP:=aB q1;have hPw:P≠w:=by omega
 have hPl:P≠l:=by omega
 have aiv:=h6.len;have aiw:=h6.big;have ap:=dR (y:=.tup [.str x,.str y]) h6.at_ (by rw[aaE];omega);have l6:=bp h6.at_;have hw6:=h6.P0;refine⟨P,x,y,c6.set w (.lst (ws.map pr++[.tup [.str x,.str y]])),?_,wx,wy,?_,?_,?_,by omega,(((k1.trans k2).trans k6).two).trans (Kq.set (by simp))⟩
 .refine aw (σ1:=[aa (.ref l),aa (.ref w),aa r,aa (.int gi),aa (.ref c2.length),ae,ae]) (c1:=c2++[.lst [.str x1,.str x2]]) (by erw[e1,e2]) ?_
  refine aw f1 ?_;have sP':dq (.ref P) (c6.set w (.lst (ws.map pr++[.tup [.str x,.str y]])))=aa [.str x,.str y]:=aB (by rw[aal,if_neg (λe=>hPw e.symm)];exact q1);refine aw (σ1:=[aa (.ref l),aa (.ref w),aa r,aa (.int gi),aa (.ref P),ae,ae]) (c1:=c6.set w (.lst (ws.map pr++[.tup [.str x,.str y]]))) (by erw[cJ,sP,l6,ap]) ?_;erw[cJ,sP']
 .exact h6.lf.keep (Kq.set (S:=[w]) (by simp)) (by simpa using h6.ne)
 .rw[aal,if_pos rfl,if_pos hw6]
  simp[pr]
 .rw[aal,if_neg (λe=>hPw e.symm)];exact q1
theorem HB{T B:FN}{r:Nat}(hT:∀q,r=q+1->AM T q)(hB:∀q,r=q+1->mE B q "or" 2):AM (eP 3 7 (hZ T B)) r:=by
 intro N l w m ws c h hm;obtain⟨g,c1,e1,g0,g1,p1,k1⟩:=fE h.lf (k:=8) (by decide) (by decide);obtain⟨c2,e2,p2,k2⟩:=p1.store (σ:=[aa (.ref l),aa (.ref w),aa (.int r),aa (.int g),ae,ae,ae]) rfl;have hlen:=h.len;have aa4:=h.big;have hm0:=h.m0;have kk:=k1.trans k2;have h2:St N l w (m+2) ws c2:=⟨p2,(kk.get h.at_ (by simpa using λe=>h.ne e.symm)),h.wd,h.ne,by omega,h.big,by have:=h.m0;omega⟩;have C0:=h2.lf.lt;have DF:=h2.P0;have ht:oB (tV (Qm.e2 nV (eV 3) (eC (.int 4)))) (oB (tV (Qm.e2 nV (eV 2) (eC (.int 1)))) (tV (Qm.e2 xi (Qm.e2 aK (eV 0) (eC (.int 2))) (eC (.int 24))))) [aa (.ref l),aa (.ref w),aa (.int r),aa (.int g),ae,ae,ae] c2=aa (decide (g<4\/(r:Int)<1\/24<m+2),c2):=by
  have ix:=p2.ix
  by_cases a1:g<4<;>by_cases a2:(r:Int)<1<;>by_cases a3: 24<m+2<;>erw[a1,a2,a3,ix,true_or,or_true,or_false,false_or]
 have start:∀{R:Option (Fl×Qm.Env×Cells)},(ax (cu (oB (tV (Qm.e2 nV (eV 3) (eC (.int 4)))) (oB (tV (Qm.e2 nV (eV 2) (eC (.int 1)))) (tV (Qm.e2 xi (Qm.e2 aK (eV 0) (eC (.int 2))) (eC (.int 24)))))) (ax (aE 4 (aL (af (av di [] (af (eV 0) aj)) (af (av di [] (af (eV 0) aj)) aj))))
   (ax (cu (dI (tV (Qm.e2 cO (Qm.e2 cG (eV 3) (eC (.int 2))) (eC (.int 1)))) (tV (Qm.e2 gG (eV 1) (aL aj))))
   (aE 4 (eB vI (af (Qm.e2 aK (eV 1) (av au [] (af (eV 0) (af (eB bA (af (eV 1) aj)) aj)))) aj)))
   bz)
   (ax (de (eM bI (eV 1) (af (dc (af (Qm.e2 aK (eV 4) (eC (.int 0))) (af (Qm.e2 aK (eV 4) (eC (.int 1))) aj))) aj)))
   (bj (dc (af (eV 4) (af (dc (af (eC (.str "is")) (af (Qm.e2 aK (eV 4) (eC (.int 0))) (af (Qm.e2 aK (eV 4) (eC (.int 1))) aj)))) aj))))))) bz)
   (ax (cu (tV (Qm.e2 cO (eV 3) (eC (.int 4))))
   (bj (dc (af (aL (af (eC (.str "any")) aj)) (af (dc (af (eC (.str "any")) aj)) aj))))
   bz)
   (ax (cu (tV (Qm.e2 cO (eV 3) (eC (.int 5))))
   (ax (j5 (av T [] (af (eV 0) (af (eV 1) (af (Qm.e2 iC (eV 2) (eC (.int 1))) aj)))) (kT 2 (dY (aM 5) (dY (aM 6) kS))))
   (bj (dc (af (Qm.e2 bc (aL (af (eC (.str "not")) aj)) (eV 5)) (af (dc (af (eC (.str "not")) (af (eV 6) aj))) aj)))))
   bz)
   (ax (j5 (av B [] (af (eV 0) (af (eV 1) (af (Qm.e2 iC (eV 2) (eC (.int 1))) (af (eC (.str "or")) aj))))) (kT 2 (dY (aM 5) (dY (aM 6) kS))))
   (bj (dc (af (Qm.e2 bc (Qm.e2 bc (aL (af (eC (.str "(")) aj)) (eV 5)) (aL (af (eC (.str ")")) aj))) (af (eV 6) aj)))))))) [aa (.ref l),aa (.ref w),aa (.int r),aa (.int g),ae,ae,ae] c2=R->eP 3 7 (hZ T B) [.ref l,.ref w,.int r] c=R.bind fin:=by
  intro R hR;rw[dB,if_pos (show [D.ref l,D.ref w,D.int r].length=3 from rfl)]
  congr 1
  unfold hZ;show ax _ _ [aa (.ref l),aa (.ref w),aa (.int r),ae,ae,ae,ae] c=R;refine aw (σ1:=[aa (.ref l),aa (.ref w),aa (.int r),aa (.int g),ae,ae,ae]) (c1:=c1) (by erw[e1]) ?_;refine aw e2 ?_;exact hR
 by_cases lf:g<4\/(r:Int)<1\/24<m+2
 .obtain⟨P,x,y,c',f1,wx,wy,q1,q2,q3,q4,q5⟩:=Vw (r:=.int r) (g:=.int g) rfl h2 (by omega)
  rw[decide_eq_true lf]at ht;have run:=start (by
   refine Eq.trans (b:=aa (.rt (.tup [.ref P,.tup [.str "is",.str x,.str y]]),[aa (.ref l),aa (.ref w),aa (.int r),aa (.int g),aa (.ref P),ae,ae],c')) ?_ rfl;rw[lz,oa,ht,Zu,if_pos rfl,f1];rfl)
  refine⟨P,.tup [.str "is",.str x,.str y],m+2,ws++[(x,y)],c',[x,y],[.str x,.str y],run,?_,by omega,by omega,⟨q1,q2,?_,h.ne,?_,h.big,by have:=h.m0;omega⟩,q3,by have:=kk.len;omega,?_,kk.two.trans q5⟩
  .rw[show(m+2 - m).toNat=1+1 by omega];exact .is wx wy
  .intro p hp
   rcases abc.mp hp with hp|hp
   .exact h.wd p hp
   .rw[aaq.mp hp];exact⟨wx,wy⟩
  .rw[aaf];simp only[aac,aam];omega
  .have:=FT [x,y]
   simp only[aac,aam]at this |-;omega
 .rw[decide_eq_false lf]at ht
  obtain⟨q,rfl⟩:∃q,r=q+1:=⟨r - 1,by omega⟩;have er:((q+1:Nat):Int) - 1=(q:Int):=by omega
  by_cases g4:g=4
  .subst g4
   have run:=start (R:=aa (.rt (.tup [.ref c2.length,.tup [.str "any"]]),[aa (.ref l),aa (.ref w),aa (.int (q+1:Nat)),aa (.int 4),ae,ae,ae],c2++[.lst [.str "any"]])) (by
    rw[lz,oa,ht,Zu,if_neg abh];erw[])
   refine⟨c2.length,.tup [.str "any"],m+2,ws,c2++[Cell.lst [D.str "any"]],["any"],[.str "any"],run,?_,by omega,by omega,h2.more,aG,kk.len,?_,kk.two.trans Kq.more⟩
   .rw[show(m+2 - m).toNat=1+1 by omega];exact .any
   .have:=FT [("any":Str)]
    simp only[aac,aam]at this |-;omega
  by_cases g5:g=5
  .subst g5
   obtain⟨s,t,m',k_,c',ss,is,f1,ft,fm,Vy,fS,fs,fl,fn,fk⟩:=hT q rfl N l w (m+2) ws c2 h2 (by omega);have ha:=h_ (c:=c'++[.lst [.str "not"]]) (a:=c'.length) (b:=s) (xs:=[.str "not"]) (ys:=ss.map D.str) aG (bu fs) (by simp only[aac,aam,aaE];omega);simp only[abP,ahO]at ha;have run:=start (R:=aa (.rt (.tup [.ref (c'++[Cell.lst [.str "not"]]).length,.tup [.str "not",t]]),[aa (.ref l),aa (.ref w),aa (.int (q+1:Nat)),aa (.int 5),ae,aa (.ref s),aa t],c'++[.lst [.str "not"]]++[.lst (.str "not"::ss.map D.str)])) (by
    rw[lz,oa,ht,Zu,if_neg abh];erw[er,f1,ha])
   refine⟨_,.tup [.str "not",t],m',k_,_,"not"::ss,.str "not"::is,run,?_,by omega,by omega,fS.more.more,aG,?_,?_,(kk.two.trans fk).trans (Kq.more.trans Kq.more)⟩
   .rw[show(m' - m).toNat=((m' - m).toNat - 1)+1 by omega];exact .not (ft.mono _ (by omega))
   .have:=kk.len;have:=fk.len;rw[aaf];omega
   .have:=j_ "not"
    simp only[aac,aam,yY "not" ss];omega
  .obtain⟨s,t,m',k_,c',ss,is,f1,ft,fm,Vy,fS,fs,fl,fn,fk⟩:=hB q rfl N l w (m+2) ws c2 h2 (by omega)
   have ha:=h_ (c:=c'++[.lst [.str "("]]) (a:=c'.length) (b:=s) (xs:=[.str "("]) (ys:=ss.map D.str) aG (bu fs) (by simp only[aac,aam,aaE];omega);have hb:=h_ (c:=c'++[.lst [.str "("]]++[.lst (.str "("::ss.map D.str)]++[.lst [.str ")"]]) (a:=(c'++[Cell.lst [.str "("]]).length) (b:=(c'++[Cell.lst [.str "("]]++[Cell.lst (.str "("::ss.map D.str)]).length) (xs:=.str "("::ss.map D.str) (ys:=[.str ")"]) (bu aG) aG (by simp only[aac,aam,aaE];omega);simp only[abP,ahO]at ha hb;have run:=start (R:=aa (.rt (.tup [.ref (c'++[Cell.lst [.str "("]]++[Cell.lst (.str "("::ss.map D.str)]++[Cell.lst [.str ")"]]).length,t]),[aa (.ref l),aa (.ref w),aa (.int (q+1:Nat)),aa (.int g),ae,aa (.ref s),aa t],c'++[.lst [.str "("]]++[.lst (.str "("::ss.map D.str)]++[.lst [.str ")"]]++[.lst (.str "("::(ss.map D.str++[.str ")"]))])) (by
    rw[lz,oa,ht,Zu,if_neg abh];erw[er,f1,g4,g5,ha,hb])
   refine⟨_,t,m',k_,_,("(":Str)::(ss++[(")":Str)]),[t],run,(ft.mono (m' - m).toNat (by omega)).par,by omega,by omega,fS.more.more.more.more,by rw[abk,agF];exact aG,?_,?_,(kk.two.trans fk).trans (Kq.more.trans (Kq.more.trans (Kq.more.trans Kq.more)))⟩
   .have:=kk.len;have:=fk.len;rw[aaf,aaf,aaf];omega
   .simp only[aaf,aac,aam,yY "(" (ss++[(")":Str)]),ib,Vu,Vv];omega
theorem DL{T B:FN}{r:Nat}(hT:AM T r):mE (eP 4 10 (fj T B)) r "" 0:=by
 intro N l w m ws c h hm;obtain⟨s,t,m',k_,c',ss,is,f1,rest⟩:=hT N l w m ws c h hm;refine⟨s,t,m',k_,c',ss,is,?_,rest⟩;have e0:=gU (x:="") (y:="") (c:=c) (fD (by decide)) (fD (by decide));have e1:decide (("":Str)= "")=true:=by decide
 rw[e1]at e0;rw[dB,fj];erw[e0,f1]
noncomputable def BL(x:Str)(B:FN):XS:=(cu (tV (e2 nV (e2 aK (eV 0) (eC (.int 2))) (eC (.int 24))))
   (ax (j5 (av B [] (af (eV 0) (af (eV 1) (af (eV 2) (af (eV 4) aj))))) (kT 2 (dY (aM 8) (dY (aM 9) kS))))
   (ax (aE 5 (e2 bc (e2 bc (eV 5) (aL (af (eV 3) aj))) (eV 8)))
   (aE 6 (dc (af (eV 3) (af (eV 6) (af (eV 9) aj)))))))
   bz)
theorem xG{T B:FN}{r:Nat}(PF:decide (x= "")=false)(bB:x.cps.all (λk=>decide (k<1114112))=true)
  (hd:∀(σ:Qm.Env) (c:Cells),σ[3]? =aa (aa (.str x))->yG (mw "or" "and" "and" "") (eV 3) σ c=aa (.str y,c++[.lX [("or",.str "and"),("and",.str "")]]))
  {k:Nat}(hk:k<2)(hx:x=kw k)(hB:mE B r y k):mE (eP 4 10 (fj T B)) r x (k+1):=by
 intro N l w m ws c h hm;have h1:St N l w m ws (c++[.lX [("or",.str "and"),("and",.str "")]]):=h.more;obtain⟨s,t,m1,ws1,c2,ss,is,f1,ft,fm,Vy,fS,fs,fl,fn,fk⟩:=hB N l w m ws _ h1 hm;have k2:Kq [l,w] c c2:=Kq.more.trans fk;have fS3:St N l w m1 ws1 (c2++[.lst ([0,0,0,1,1,2,0,5].map D.int)]):=fS.more;obtain⟨g,c4,e4,g0,g1,p4,k4⟩:=fE fS3.lf (k:=8) (by decide) (by decide);have S4:=fS3.keep k4 p4;have C0:=fS.lf.lt;have q4:c4[c2.length]? =aa (.lst ([0,0,0,1,1,2,0,5].map D.int)):=k4.get aG (by simp;omega);obtain⟨d,ed,Jj⟩:=oN (xs:=[0,0,0,1,1,2,0,5].map D.int) g0 (by simpa using g1);obtain⟨n,hn,rfl⟩:=adn.mp Jj;have Iy:∀n∈([0,0,0,1,1,2,0,5]:List Int),0<=n/\n<=5:=by decide
 have hn3:=Iy n hn;have s4:=aB q4;have kk4:Kq [l,w] c c4:=k2.trans (Kq.more.trans k4.two);have hll:=h.lf.lt;have hww:=h.P0;have hlen:=h.len;have hm0:=h.m0;have UT:c.length<=s:=by rw[aaf]at fl;omega
 have hs4:c4[s]? =aa (.lst (ss.map D.str)):=k4.get (bu fs) (by simp;omega);simp only[abk,agy]at e4 s4 ed;have hr:dZ (af (e2 aK (aL (af (eC (.int 0)) (af (eC (.int 0)) (af (eC (.int 0)) (af (eC (.int 1)) (af (eC (.int 1)) (af (eC (.int 2)) (af (eC (.int 0)) (af (eC (.int 5)) aj))))))))) (av au [] (af (eV 0) (af (eC (.int 8)) aj)))) aj) [aa (.ref l),aa (.ref w),aa (.int r),aa (.str x),aa (.str y),aa (.ref s),aa t,ae,ae,ae] c2=aa (⟨eU 0 n.toNat,[]⟩,c4):=rR (j:=n) (by erw[e4,cJ,s4,ed]) (by omega);have key:=iU (ks:=[]) (g:=aM 7) (body:=BL x B)
  (λ_ σ c'=>∃s t m' k_ ss is j mo ot,σ=[aa (.ref l),aa (.ref w),aa (.int r),aa (.str x),aa (.str y),aa (.ref s),aa t,j,mo,ot]/\Ex (k+1) (m' - m).toNat ss is t/\m+2<=m'/\m'<=26/\St N l w m' k_ c'/\c'[s]? =aa (.lst (ss.map D.str))/\c.length<=s/\((ss.length:Int)+1<=4*(m' - m)/\2*(nb ss:Int)+2<=3*(m' - m))/\Kq [l,w] c c') (eU 0 n.toNat) 0 [aa (.ref l),aa (.ref w),aa (.int r),aa (.str x),aa (.str y),aa (.ref s),aa t,ae,ae,ae] c4 (λ_ _ _ _=>fw) (by
   rintro i d σ c' sT ⟨s,t,m',k_,ss,is,j,mo,ot,rfl,gt,gm,Vz,gS,gs,gl,gn,gk⟩;obtain⟨hi,rfl⟩:=rS sT;have ix:=gS.lf.ix
   by_cases hb:m'<24
   .obtain⟨s2,t2,m2,ws2,c5,VA,is2,j1,jt,jm,jm',jS,js,jl,jn,jk⟩:=hB N l w m' k_ c' gS (by omega)
    have hs5:c5[s]? =aa (.lst (ss.map D.str)):=jk.get gs (by simp;omega);have a1:=h_ (c:=c5++[.lst [.str x]]) (a:=s) (b:=c5.length) (xs:=ss.map D.str) (ys:=[.str x]) (bu hs5) aG (by simp only[aac,aam,aaE];omega);have a2:=h_ (c:=c5++[.lst [.str x]]++[.lst (ss.map D.str++[.str x])]) (a:=(c5++[Cell.lst [.str x]]).length) (b:=s2) (xs:=ss.map D.str++[.str x]) (ys:=VA.map D.str) aG (bu (bu js)) (by simp only[aaf,aac,aam,aaE];omega);refine⟨_,c',[aa (.ref l),aa (.ref w),aa (.int r),aa (.str x),aa (.str y),aa (.ref (c5++[Cell.lst [.str x]]++[Cell.lst (ss.map D.str++[.str x])]).length),aa (.tup [.str x,t,t2]),aa (.int (0+(i:Int))),aa (.ref s2),aa t2],c5++[.lst [.str x]]++[.lst (ss.map D.str++[.str x])]++[.lst (ss.map D.str++[.str x]++VA.map D.str)],rfl,?_,⟨_,_,m2,ws2,ss++[x]++VA,is++[.str x]++is2,_,_,_,rfl,?_,by omega,by omega,jS.more.more.more,by rw[agF,agF];exact aG,?_,?_,(gk.trans jk).trans (Kq.more.trans (Kq.more.trans Kq.more))⟩⟩
    .unfold BL
     erw[ix,hb,j1,a1,a2]
    .rw[show(m2 - m).toNat=((m2 - m).toNat - 1)+1 by omega]
     subst hx;exact .bin hk (gt.mono _ (by omega)) (jt.mono _ (by omega))
    .have:=(gk.trans jk).len
     simp only[aaf,aac,aam];omega
    .have:=j_ x
     simp only[aaf,aac,aam,ib];omega
   .refine⟨_,c',[aa (.ref l),aa (.ref w),aa (.int r),aa (.str x),aa (.str y),aa (.ref s),aa t,aa (.int (0+(i:Int))),mo,ot],c',rfl,?_,⟨s,t,m',k_,ss,is,_,_,_,rfl,gt,gm,Vz,gS,gs,gl,gn,gk⟩⟩
    unfold BL;erw[ix,hb]) ⟨s,t,m1,ws1,ss,is,ae,ae,ae,rfl,.up hk ft,fm,Vy,S4,hs4,UT,fn,kk4⟩
 obtain⟨σ',c',e',s',t',m',k_,ss',is',j,mo,ot,rfl,gt,gm,Vz,gS,gs,gl,gn,gk⟩:=key;refine⟨s',t',m',k_,c',ss',is',?_,gt,gm,Vz,gS,gs,gl,gn,gk⟩;have f2:jc (dZ (af (e2 aK (aL (af (eC (.int 0)) (af (eC (.int 0)) (af (eC (.int 0)) (af (eC (.int 1)) (af (eC (.int 1)) (af (eC (.int 2)) (af (eC (.int 0)) (af (eC (.int 5)) aj))))))))) (av au [] (af (eV 0) (af (eC (.int 8)) aj)))) aj)) (aM 7) (BL x B) [aa (.ref l),aa (.ref w),aa (.int r),aa (.str x),aa (.str y),aa (.ref s),aa t,ae,ae,ae] c2=aa (.nx,[aa (.ref l),aa (.ref w),aa (.int r),aa (.str x),aa (.str y),aa (.ref s'),aa t',j,mo,ot],c'):=by rw[lE hr];exact e'
 have e0:=gU (x:=x) (y:="") (c:=c) bB (fD (by decide));rw[PF]at e0;have run:fj T B [aa (.ref l),aa (.ref w),aa (.int r),aa (.str x),ae,ae,ae,ae,ae,ae] c=aa (.rt (.tup [.ref s',t']),[aa (.ref l),aa (.ref w),aa (.int r),aa (.str x),aa (.str y),aa (.ref s'),aa t',j,mo,ot],c'):=by
  unfold fj;refine aw (σ1:=[aa (.ref l),aa (.ref w),aa (.int r),aa (.str x),ae,ae,ae,ae,ae,ae]) (c1:=c) (by erw[e0]) ?_;refine aw (σ1:=[aa (.ref l),aa (.ref w),aa (.int r),aa (.str x),aa (.str y),ae,ae,ae,ae,ae]) (c1:=c++[.lX [("or",.str "and"),("and",.str "")]]) (by rw[jI,hd _ _ rfl];rfl) ?_;refine aw (σ1:=[aa (.ref l),aa (.ref w),aa (.int r),aa (.str x),aa (.str y),aa (.ref s),aa t,ae,ae,ae]) (c1:=c2) (by erw[f1]) ?_;refine aw f2 ?_;erw[]
 erw[run]
theorem DM(σ:Qm.Env)(c:Cells)(h:σ[3]? =aa (aa (.str "or"))):yG (mw "or" "and" "and" "") (eV 3) σ c=aa (.str "and",c++[.lX [("or",.str "and"),("and",.str "")]]):=by
 have h2:Dh [(("or":Str),D.str "and"),(("and":Str),D.str "")] "or" =aa (.str "and"):=rfl;simp[yG,mw,h,yF,iu,h2]
theorem AN(σ:Qm.Env)(c:Cells)(h:σ[3]? =aa (aa (.str "and"))):yG (mw "or" "and" "and" "") (eV 3) σ c=aa (.str "",c++[.lX [("or",.str "and"),("and",.str "")]]):=by
 have h2:Dh [(("or":Str),D.str "and"),(("and":Str),D.str "")] "and" =aa (.str ""):=rfl;simp[yG,mw,h,yF,iu,h2]
theorem aa_:∀(r f:Nat),(4*r+1<=f->AM (az f).1 r)/\(4*r+2<=f->mE (az f).2 r "" 0)/\(4*r+3<=f->mE (az f).2 r "and" 1)/\(4*r+4<=f->mE (az f).2 r "or" 2):=by
 intro r
 induction r with
 |zero=>
  have a1:∀f,1<=f->AM (az f).1 0:=λf hf=>by
   obtain⟨g,rfl⟩:∃g,f=g+1:=⟨f - 1,by omega⟩;exact HB (λq h=>by omega) (λq h=>by omega)
  have a2:∀f,2<=f->mE (az f).2 0 "" 0:=λf hf=>by
   obtain⟨g,rfl⟩:∃g,f=g+1:=⟨f - 1,by omega⟩;exact DL (a1 g (by omega))
  have a3:∀f,3<=f->mE (az f).2 0 "and" 1:=λf hf=>by
   obtain⟨g,rfl⟩:∃g,f=g+1:=⟨f - 1,by omega⟩;exact xG (by decide) (fD (by decide)) AN (k:=0) (by decide) rfl (a2 g (by omega))
  have a4:∀f,4<=f->mE (az f).2 0 "or" 2:=λf hf=>by
   obtain⟨g,rfl⟩:∃g,f=g+1:=⟨f - 1,by omega⟩;exact xG (by decide) (fD (by decide)) DM (k:=1) (by decide) rfl (a3 g (by omega))
  exact λf=>⟨a1 f,a2 f,a3 f,a4 f⟩
 |succ r ih=>
  have a1:∀f,4*(r+1)+1<=f->AM (az f).1 (r+1):=λf hf=>by
   obtain⟨g,rfl⟩:∃g,f=g+1:=⟨f - 1,by omega⟩;exact HB (λq h=>by cases h;exact(ih g).1 (by omega)) (λq h=>by cases h;exact(ih g).2.2.2 (by omega))
  have a2:∀f,4*(r+1)+2<=f->mE (az f).2 (r+1) "" 0:=λf hf=>by
   obtain⟨g,rfl⟩:∃g,f=g+1:=⟨f - 1,by omega⟩;exact DL (a1 g (by omega))
  have a3:∀f,4*(r+1)+3<=f->mE (az f).2 (r+1) "and" 1:=λf hf=>by
   obtain⟨g,rfl⟩:∃g,f=g+1:=⟨f - 1,by omega⟩;exact xG (by decide) (fD (by decide)) AN (k:=0) (by decide) rfl (a2 g (by omega))
  have a4:∀f,4*(r+1)+4<=f->mE (az f).2 (r+1) "or" 2:=λf hf=>by
   obtain⟨g,rfl⟩:∃g,f=g+1:=⟨f - 1,by omega⟩;exact xG (by decide) (fD (by decide)) DM (k:=1) (by decide) rfl (a3 g (by omega))
  exact λf=>⟨a1 f,a2 f,a3 f,a4 f⟩
theorem DN:mE dG 6 "or" 2:=(aa_ 6 60).2.2.2 (by decide)
def sg(x:Str):List Nat:=x.cps.toList
theorem oX(h:sg x=sg y):x=y:=Str.ext' (Array.toList_inj.mp h)
theorem dO(x y:Str):sg (x++y)=sg x++sg y:=by show(x.cps++y.cps).toList=_;rw[ajf];rfl
theorem lF(l:List Nat):sg ⟨l.toArray⟩=l:=by simp[sg]
def jn(s:List Nat):List (List Nat)->List Nat
 |[]=>[]
 |[p]=>p
 |p::q::r=>p++s++jn s (q::r)
theorem MI{s p:List Nat}{r:List (List Nat)}(h:r≠[]):jn s (p::r)=p++s++jn s r:=by
 cases r with
 |nil=>exact absurd rfl h
 |cons q r=>rfl
theorem uU(s:Str):∀ps:List Str,sg (ab3 s ps)=jn (sg s) (ps.map sg)
 |[]=>rfl
 |[p]=>rfl
 |p::q::r=>by
  show sg (p++s++ab3 s (q::r))=_;rw[dO,dO,uU s (q::r)];rfl
def fN(c:Nat):List Nat->List (List Nat)
 |[]=>[[]]
 |k::l=>if k=c then []::fN c l else match fN c l with
  |[]=>[[k]]
  |p::r=>(k::p)::r
theorem MJ(c:Nat):∀l,fN c l≠[]
 |[]=>by simp[fN]
 |k::l=>by
  unfold fN;split
  .simp
  .split<;>simp
theorem tJ{c:Nat}:∀{p l:List Nat},c∉p->fN c (p++c::l)=p::fN c l
 |[],l,_=>by simp[fN]
 |k::p,l,h=>by
  have hk:k≠c:=λe=>h (by simp[e])
  have ih:=tJ (c:=c) (p:=p) (l:=l) λe=>h (aay _ e)
  rw[abP,fN,if_neg hk,ih]
theorem tK{c:Nat}:∀{p:List Nat},c∉p->fN c p=[p]
 |[],_=>rfl
 |k::p,h=>by
  have hk:k≠c:=λe=>h (by simp[e])
  have ih:=tK (c:=c) (p:=p) λe=>h (aay _ e)
  unfold fN;rw[if_neg hk,ih]
theorem yZ{c:Nat}:∀{ps:List (List Nat)},ps≠[]->(∀p∈ps,c∉p)->fN c (jn [c] ps)=ps
 |[],h,_=>absurd rfl h
 |[p],_,h=>tK (h p (by simp))
 |p::q::r,_,h=>by
  have e:jn [c] (p::q::r)=p++c::jn [c] (q::r):=by show p++[c]++_=_;simp
  rw[e,tJ (h p (by simp)),yZ (by simp) λz hz=>h z (aay _ hz)]
theorem Jk(x:Str)(c:Nat):agx x ⟨#[c]⟩≠[]:=by
 intro e;unfold agx at e;split at e
 .cases e
 .split at e
  .cases e
  .rw[StrLaws.partsBetween_eq]at e
   obtain⟨p,r,h⟩:=StrLaws.partsFrom_ne x (⟨#[c]⟩:Str).length 0 (abv x ⟨#[c]⟩ 0 x.length (x.length+1));rw[h]at e;cases e
theorem oh(x:Str)(c:Nat):(agx x ⟨#[c]⟩).map sg=fN c (sg x):=by
 have h1:=congrArg sg (StrLaws.join_split x ⟨#[c]⟩);rw[uU]at h1;rw[<-h1];refine(yZ (by simpa using Jk x c) λp hp=>?_).symm;obtain⟨y,hy,rfl⟩:=adn.mp hp;exact StrLaws.split_free x c y hy
theorem DO{c:Nat}{ps:List Str}(hn:ps≠[])(h:∀p∈ps,c∉sg p):agx (ab3 ⟨#[c]⟩ ps) ⟨#[c]⟩=ps:=by
 have e:(agx (ab3 ⟨#[c]⟩ ps) ⟨#[c]⟩).map sg=ps.map sg:=by
  rw[oh,uU];refine yZ (by simpa using hn) λp hp=>?_
  obtain⟨y,hy,rfl⟩:=adn.mp hp;exact h y hy
 exact(List.map_inj_right λ_ _=>oX).mp e
def apart(c:Nat)(l:List Nat):List Nat:=l.flatMap λk=>if k=c then [32,c,32] else [k]
theorem VB{s:List Nat}{k:Nat}{p:List Nat}:∀{r:List (List Nat)},jn s ((k::p)::r)=k::jn s (p::r)
 |[]=>rfl
 |_::_=>rfl
theorem HC{c:Nat}:∀l:List Nat,jn [32,c,32] (fN c l)=apart c l
 |[]=>rfl
 |k::l=>by
  have ih:=HC (c:=c) l;have hn:=MJ c l;unfold fN
  by_cases hk:k=c
  .rw[if_pos hk,MI hn,ih]
   subst hk;simp[apart]
  .rw[if_neg hk]
   cases hc:fN c l with
   |nil=>exact absurd hc hn
   |cons p r=>
    rw[hc]at ih;show jn _ ((k::p)::r)=_;rw[VB,ih];simp[apart,hk]
theorem xH(x:Str)(c:Nat):sg (pX x c)=apart c (sg x):=by
 unfold pX;rw[StrLaws.replace_one,uU,oh];have:sg (abV " "++⟨#[c]⟩++abV " ")=[32,c,32]:=by
  rw[dO,dO];rfl
 rw[this];exact HC _
def sgn(k:Nat):Bool:=k==40||k==41||k==58
def bK(l:List Nat):List Nat:=l.flatMap λk=>if sgn k=true then [32,k,32] else [k]
theorem BM(l:List Nat):apart 58 (apart 41 (apart 40 l))=bK l:=by
 unfold apart bK;rw[alR,alR]
 congr 1
 funext k
 by_cases h1:k=40
 .subst h1;rfl
 .by_cases h2:k=41
  .subst h2;rfl
  .by_cases h3:k=58
   .subst h3;rfl
   .simp[h1,h2,h3,sgn]
def fQ(l:List Nat):List (List Nat):=(fN 32 l).filter λp=>!p.isEmpty
theorem oY(l:List Nat):fQ (32::l)=fQ l:=by
 unfold fQ;rw[show fN 32 (32::l)=[]::fN 32 l by simp[fN]];rfl
theorem jJ{p l:List Nat}(h: 32∉p)(hp:p≠[]):fQ (p++32::l)=p::fQ l:=by
 unfold fQ;rw[tJ h];cases p with
 |nil=>exact absurd rfl hp
 |cons a b=>rfl
theorem rT{p:List Nat}(h: 32∉p)(hp:p≠[]):fQ p=[p]:=by
 unfold fQ;rw[tK h];cases p with
 |nil=>exact absurd rfl hp
 |cons a b=>rfl
theorem MK:fQ []=[]:=rfl
theorem uV(n:Nat)(l:List Nat):fQ (aaL n 32++l)=fQ l:=by
 induction n with
 |zero=>rfl
 |succ n ih=>rw[ab8,abP,oY,ih]
theorem a_(h:c <+:c')(hz:c[i]? =aa z):c'[i]? =aa z:=by
 obtain⟨t,rfl⟩:=h;exact bu hz
variable{ks:List (Nat×Cell)}{te:XE}
theorem vS{α:Type}{e:α->D}{tt:XT}{ρ:Qm.Env}(hs:stays ks c)(b:α->Bool)(v:α->D):∀(l:List α),
  (∀a∈l,∀c',c <+:c'->tt (aa (e a)::ρ) c'=aa (b a,c'))->
  (∀a∈l,∀c',c <+:c'->te (aa (e a)::ρ) c'=aa (v a,c'))->
  ∀(acc:List D) (x:Option D),acc.length+l.length<=9000000->g7 c.length ks (aM 0) tt te (l.map e) (x::ρ) (c++[.lst acc])=aa (c++[.lst (acc++(l.filter b).map v)])
 |[],_,_,acc,x,_=>by
  have st:stays ks (c++[.lst acc]):=λp hp=>a_ ⟨_,rfl⟩ (hs p hp)
  rw[agy];unfold g7;rw[if_pos st];simp
 |a::l,ht,hv,acc,x,hn=>by
  have st:stays ks (c++[.lst acc]):=λp hp=>a_ ⟨_,rfl⟩ (hs p hp)
  have e1:=ht a aa7 (c++[.lst acc]) ⟨_,rfl⟩;have e2:=hv a aa7 (c++[.lst acc]) ⟨_,rfl⟩;have ht':=λd' hd=>ht d' (aay a hd)
  have Pr:=λd' hd=>hv d' (aay a hd)
  rw[aac]at hn;rw[abk];unfold g7;rw[if_pos st]
  by_cases hb:b a=true
  .have e3:(c++[.lst acc])[c.length]? =aa (.lst acc):=by simp
   have e4:(c++[Cell.lst acc]).set c.length (.lst (acc++[v a]))=c++[.lst (acc++[v a])]:=by simp
   have e5:=vS hs b v l ht' Pr (acc++[v a]) (aa (e a)) (by simp only[aaf,aac,aam];omega);simp only[oR,ag5,Zu,e1,hb,if_true,e2,e3,e4];rw[if_pos (show acc.length<dJ by rw[uB];omega),e5,List.filter_cons_of_pos hb];simp
  .have e5:=vS hs b v l ht' Pr acc (aa (e a)) (by omega)
   have hb':b a=false:=by simpa using hb
   simp only[oR,ag5,Zu,e1,hb',abX,if_false];rw[e5,List.filter_cons_of_neg hb]
variable{cap:List (Option Nat)}{c0:Cells}
theorem y0{α:Type}{e:α->D}{l:List α}{it:XI}{tt:XT}{ρ:Qm.Env}{x:Option D}(b:α->Bool)(v:α->D)(hi:it σ c0=aa (⟨l.map e,ks⟩,c))(hc:uC σ cap=x::ρ)(hs:stays ks c)
  (ht:∀a∈l,∀c',c <+:c'->tt (aa (e a)::ρ) c'=aa (b a,c'))(hv:∀a∈l,∀c',c <+:c'->te (aa (e a)::ρ) c'=aa (v a,c'))(hn:l.length<=9000000):
  eJ it cap (aM 0) tt te σ c0=aa (.ref c.length,c++[.lst ((l.filter b).map v)]):=by
 have e:=vS hs b v l ht hv [] x (by simp;omega);unfold eJ;rw[hi,Zu];dsimp only
 rw[hc,e];rfl
theorem AO{g:XG}{E:Qm.Env->Prop}(hs:stays ks c):∀(ds vs acc:List D) (zs:List Cell) (τ:Qm.Env),ds.length=vs.length->E τ->(∀(i:Nat) d v,ds[i]? =aa d->vs[i]? =aa v->∀τ c',E τ->c <+:c'->∃sr ws,g d τ c'=aa (sr,c')/\te sr c'=aa (v,c'++ws)/\E sr)->acc.length+ds.length<=1000->
  ∃VC,g7 c.length ks g jB te ds τ (c++.lst acc::zs)=aa (c++.lst (acc++vs)::VC)
 |[],vs,acc,zs,τ,hl,_,_,_=>by
  cases vs with
  |nil=>
   have st:stays ks (c++.lst acc::zs):=λp hp=>a_ ⟨_,rfl⟩ (hs p hp)
   refine⟨zs,?_⟩;unfold g7;rw[if_pos st];simp
  |cons v vs=>simp at hl
 |d::ds,vs,acc,zs,τ,hl,hE,hv,hn=>by
  cases vs with
  |nil=>simp at hl
  |cons v vs=>
   have st:stays ks (c++.lst acc::zs):=λp hp=>a_ ⟨_,rfl⟩ (hs p hp)
   rw[aac]at hn;obtain⟨sr,ws,f1,f2,hE'⟩:=hv 0 d v rfl rfl τ (c++.lst acc::zs) hE ⟨_,rfl⟩;have f3:(c++.lst acc::zs++ws)[c.length]? =aa (.lst acc):=by simp
   have f4:(c++.lst acc::zs++ws).set c.length (.lst (acc++[v]))=c++.lst (acc++[v])::(zs++ws):=by simp
   obtain⟨VC,f5⟩:=AO hs ds vs (acc++[v]) (zs++ws) sr (by simpa using hl) hE' (λi d' v' h1 h2=>hv (i+1) d' v' (by simpa using h1) (by simpa using h2)) (by simp only[aaf,aac,aam];omega);refine⟨VC,?_⟩;unfold g7;rw[if_pos st];have f6:jB sr (c++.lst acc::zs)=aa (true,c++.lst acc::zs):=rfl;simp only[f1,Zu,f6,if_true,f2,f3,f4];rw[if_pos (aa1 (show acc.length<10000 by omega) (cW (aat _))),f5];simp
theorem ML{it:XI}{g:XG}{ds:List D}(vs:List D)(E:Qm.Env->Prop)(hi:it σ c0=aa (⟨ds,ks⟩,c))(hs:stays ks c)(hE:E (uC σ cap))(hl:ds.length=vs.length)(hv:∀(i:Nat) d v,ds[i]? =aa d->vs[i]? =aa v->∀τ c',E τ->c <+:c'->∃sr ws,g d τ c'=aa (sr,c')/\te sr c'=aa (v,c'++ws)/\E sr)(hn:ds.length<=1000):
  ∃c',eJ it cap g jB te σ c0=aa (.ref c.length,c')/\c <+:c'/\c'[c.length]? =aa (.lst vs):=by
 obtain⟨zs,e⟩:=AO (te:=te) (g:=g) (E:=E) (ks:=ks) (c:=c) hs ds vs [] [] (uC σ cap) hl hE hv (by simp;omega);refine⟨c++.lst vs::zs,?_,⟨_,rfl⟩,by simp⟩;unfold eJ;rw[hi,Zu];dsimp only
 rw[e];rfl
theorem Kq.pre(h:c <+:c'):Kq S c c':=by
 obtain⟨t,rfl⟩:=h;exact Kq.more
theorem tL{a:XE}(ha:a σ c=aa (.ref n,c1))(h:c1[n]? =aa (.lst xs)):fJ a σ c=aa (⟨xs,[(n,.lst xs)]⟩,c1):=by
 have s:=aB h;unfold fJ;simp[ha,h,s]
theorem y1(c:Nat):∀l:List Nat,(apart c l).length<=3*l.length
 |[]=>aat _
 |k::l=>by
  have ih:=y1 c l;unfold apart at ih |-
  rw[al7,aaf,aac];split<;>simp only[aac,aam]<;>omega
theorem cR(x:Str):(sg x).length=x.length:=by simp[sg,alY]
theorem y3(x:Str)(c:Nat):(pX x c).length<=3*x.length:=by
 rw[<-cR,<-cR,xH];exact y1 _ _
def i_(l:List Nat):Str:=⟨l.toArray⟩
theorem rV(x:Str):i_ (sg x)=x:=by simp[i_,sg]
theorem BN(hl:x.length<=3000):∃z,dM [.str x] c=aa (.ref (c.length+1),c++[z,.lst ((fQ (bK (sg x))).map λp=>.str (i_ p))]):=by
 have l1:=y3 x 40;have l2:=y3 (pX x 40) 41;have l3:=y3 (pX (pX x 40) 41) 58;generalize hy:pX (pX (pX x 40) 41) 58=y at l3;have VD:sg y=bK (sg x):=by rw[<-hy,xH,xH,xH,BM]
 have hw:("():":Str).cps.toList=[40,41,58]:=rfl;have sp:uR 0 1 "():" [aa (.str x),ae] c=aa (.nx,[aa (.str y),aa (.str ⟨#[58]⟩)],c):=by
  have ok:yR [40,41,58] x=true:=by
   simp only[yR,abw,decide_eq_true_eq];exact⟨by omega,by omega,by omega,trivial⟩
  show(if yR ("():":Str).cps.toList x=true then aa (Fl.nx,Hv 0 1 ("():":Str).cps.toList [aa (.str x),ae] x,c)else ae)=_;rw[hw,if_pos ok,<-hy];rfl
 have hs:(" ":Str)=⟨#[32]⟩:=rfl;have ms:mz (.str y) [.str " "] c=aa (.ref c.length,c++[.lst ((agx y ⟨#[32]⟩).map D.str)]):=by
  show(if (" ":Str).length≠0/\y.length<=100000 then aa (D.ref c.length,c++[Cell.lst ((agx y " ").map D.str)])else ae)=_;rw[if_pos ⟨by decide,by omega⟩,hs]
 have hn:(agx y ⟨#[32]⟩).length<=9000000:=by
  have h1:(agx y ⟨#[32]⟩).length=(fN 32 (sg y)).length:=by rw[<-oh,aaE]
  have h2:∀l:List Nat,(fN 32 l).length<=l.length+1:=by
   intro l
   induction l with
   |nil=>simp[fN]
   |cons k l ih=>
    unfold fN;split
    .simp only[aac];omega
    .split
     .simp
     .rename_i p r h;rw[h]at ih;simp only[aac]at ih |-;omega
  have h3:=h2 (sg y);rw[cR]at h3;omega
 have it:fJ (ki mz (eV 0) (af (eC (.str " ")) aj)) [aa (.str y),aa (.str ⟨#[58]⟩)] c=aa (⟨(agx y ⟨#[32]⟩).map D.str,[(c.length,.lst ((agx y ⟨#[32]⟩).map D.str))]⟩,c++[.lst ((agx y ⟨#[32]⟩).map D.str)]):=tL (by erw[ki,iu,ms]) aG;have cf:=y0 (it:=fJ (ki mz (eV 0) (af (eC (.str " ")) aj))) (cap:=[ae]) (tt:=mV (eV 0)) (te:=eV 0) (ρ:=[]) (x:=ae) (λz:Str=>!(sg z).isEmpty) D.str it rfl (λp hp=>by rw[aaq.mp hp];exact aG) (λz hz c' _=>?_) (λz hz c' _=>rfl) hn
 .refine⟨.lst ((agx y ⟨#[32]⟩).map D.str),?_⟩
  rw[dM,dB,mC];have e:(amL (λz:Str=>!(sg z).isEmpty) (agx y ⟨#[32]⟩)).map D.str=(fQ (bK (sg x))).map λp=>.str (i_ p):=by
   unfold fQ;rw[<-VD,<-oh,List.filter_map,ajx];have:(λp=>D.str (i_ p)) ∘ sg=D.str:=by funext z;simp[rV]
   rw[this];rfl
  rw[e]at cf;erw[sp,cf];simp
 .have hlz:z.length<=100000:=by
   have:=ajg (f:=sg) hz;rw[oh]at this;have h2:∀l:List Nat,∀p∈fN 32 l,p.length<=l.length:=by
    intro l
    induction l with
    |nil=>intro p hp;simp[fN]at hp;simp[hp]
    |cons k l ih=>
     intro p hp;unfold fN at hp;split at hp
     .rcases aaI.mp hp with rfl|hp
      .simp
      .have:=ih p hp;simp only[aac];omega
     .split at hp
      .simp at hp;simp[hp]
      .rename_i q r h
       rcases aaI.mp hp with rfl|hp
       .have:=ih q (by rw[h];simp);simp only[aac];omega
       .have:=ih p (by rw[h];simp[hp]);simp only[aac];omega
   have h3:=h2 _ _ this;rw[cR,cR]at h3;omega
  show(if z.length<=100000 then aa (((z.length:Int) != 0),c')else ae)=_;rw[if_pos hlz]
  congr 2
  rw[<-cR];cases sg z<;>simp;omega
theorem MM{bs:List Bool}(h:c[n]? =aa (.lst (bs.map D.bl))):Hd [.ref n] c=aa (.bl (bs.all id),c):=by
 have:Hd [.ref n] c=(cj (.ref n) c).bind λl=>(omap qd l.2).bind λbs=>aa (.bl (bs.all id),c):=rfl
 have ho:∀bs:List Bool,omap qd (bs.map D.bl)=aa bs:=λbs=>by
  induction bs with
  |nil=>rfl
  |cons b bs ih=>rw[abk];unfold omap;rw[ih];rfl
 rw[this,bp h,Zu,ho];rfl
theorem vT(k:Nat)(y:Str):ll ⟨#[k]⟩ y=decide (k∈sg y):=StrLaws.found_one y k
theorem FU{signs:Str}{most:Int}(h:∀k∈sg x,k∈sg signs/\k<128)(h1: 1<=x.length)(h2:(x.length:Int)<=most)(h3:x.length<=9000):∃z,bM [.str signs,.str x,.int most] c=aa (.bl true,c++[z]):=by
 have hl:BF [.str x] c=aa (.int x.length,c):=by
  show(if x.length<=dJ then aa (D.int x.length,c)else ae)=_;rw[if_pos (cW (by omega))]
 have hb:x.cps.all (λk=>decide (k<128))=true:=by
  rw[<-aki];exact abD.mpr λk hk=>decide_eq_true (h k hk).2
 have it:rO (eV 1) [aa (.str signs),aa (.str x),aa (.int most)] c=aa (⟨(sg x).map λk=>.str ⟨#[k]⟩,[]⟩,c):=by
  show(if x.length<=100000/\x.cps.all (λk=>decide (k<128))=true then aa ((⟨x.cps.toList.map λk=>D.str ⟨#[k]⟩,[]⟩:Itm),c)else ae)=_;rw[if_pos ⟨by omega,hb⟩];rfl
 have cf:=y0 (it:=rO (eV 1)) (cap:=[ae,aa 0]) (tt:=jB) (te:=e2 wI (eV 0) (eV 1)) (ρ:=[aa (.str signs)]) (x:=ae) (λ_:Nat=>true) (λ_=>D.bl true) it rfl (λp hp=>nomatch hp) (λz hz c' _=>rfl) (λz hz c' _=>by
  show aa (D.bl (ll ⟨#[z]⟩ signs),c')=_;rw[vT,decide_eq_true (h z hz).1]) (by rw[cR];omega)
 have e1:(amL (λ_:Nat=>true) (sg x)).map (λ_=>D.bl true)=(aaL (sg x).length true).map D.bl:=by
  rw[alf.mpr (λ_ _=>rfl),List.map_replicate];exact List.map_const'
 rw[e1]at cf;have ba:=MM (n:=c.length) (bs:=aaL (sg x).length true) (c:=c++[.lst ((aaL (sg x).length true).map D.bl)]) aG;rw[show(aaL (sg x).length true).all id=true by simp]at ba;have a1:(1:Int)<=(x.length:Int):=by omega
 refine⟨.lst ((aaL (sg x).length true).map D.bl),?_⟩;rw[bM,dB,fA];erw[hl,a1,h2,cf,ba,mj]
theorem DP(h:W0 x):∀k∈sg x,k∈sg "abcdefghijklmnopqrstuvwxyz"/\k<128:=by
 intro k hk;have:=abD.mp h.lt k hk;simp only[decide_eq_true_eq]at this;have e:sg "abcdefghijklmnopqrstuvwxyz" =amM 97 26:=by decide
 exact⟨by rw[e];exact ajU.mpr ⟨by omega,by omega⟩,by omega⟩
theorem MN(h:W0 x):∃z,fX [.str x] c=aa (.bl true,c++[z]):=by
 have:=h.FR;have:=h.pos;obtain⟨z,e⟩:=FU (c:=c) (most:=8) (DP h) (by omega) (by omega) (by omega);refine⟨z,?_⟩;rw[fX,dB,lC];erw[e]
theorem MO(h:Wd x):∃z,bQ [.str x] c=aa (.bl true,c++[z]):=by
 obtain⟨z,e⟩:=MN (c:=c) h.toW0;refine⟨z,?_⟩;have nk:ly ["and","or","not","any"] (eV 0) [aa (.str x)] (c++[z])=aa (.bl true,c++[z]):=by
  have:¬(ahs x∈(["and","or","not","any"]:List Str).map ahs):=by
   intro hm;obtain⟨y,hy,e⟩:=adn.mp hm;cases e;exact h.free hy
  unfold ly;rw[show eV 0 [aa (.str x)] (c++[z])=aa (.str x,c++[z])from rfl,Zu];dsimp only
  rw[cq h.ok,Zu];simp only[this,decide_false,akU]
 have ix:lh [.str x,.ty "str"] c=aa (.bl true,c):=by simp[lh,two,mU,lg]
 rw[bQ,dB,eT];erw[ix,e,nk]
theorem MP:∀{n:Nat}{t:D},Tr n t->∀k,n+1<=k->∃dd,data c k t=aa dd:=by
 intro n t h;have two:∀{k:Nat}{xs:List D}{ds:List agI},omap (data c k) xs=aa ds->∃dd,data c (k+1) (.tup xs)=aa dd:=λ{k xs ds} e=>by
  have:data c (k+1) (.tup xs)=(omap (data c k) xs).bind λds=>aa (.tuple ds):=rfl
  rw[this,e];exact⟨_,rfl⟩
 have cons:∀{k:Nat}{x:D}{xs:List D}{d:agI}{ds:List agI},data c k x=aa d->omap (data c k) xs=aa ds->omap (data c k) (x::xs)=aa (d::ds):=λ{k x xs d ds} h1 h2=>by
  unfold omap;rw[h1,h2];rfl
 have nil:∀{k:Nat},omap (data c k) []=aa []:=rfl;have st:∀{k:Nat} (x:Str),x.cps.toList.all (λk=>decide (k<1114112))=true->data c (k+1) (.str x)=aa (.str x):=λx hx=>cq (fD hx)
 induction h with
 |@is n x y wx wy=>
  intro k hk;obtain⟨j,rfl⟩:∃j,k=j+1+1:=⟨k - 2,by omega⟩;exact two (cons (st "is" (by decide)) (cons (cq wx.ok) (cons (cq wy.ok) nil)))
 |@any n=>
  intro k hk;obtain⟨j,rfl⟩:∃j,k=j+1+1:=⟨k - 2,by omega⟩;exact two (cons (st "any" (by decide)) nil)
 |@not n t _ ih=>
  intro k hk;obtain⟨j,rfl⟩:∃j,k=j+1+1:=⟨k - 2,by omega⟩;obtain⟨d1,h1⟩:=ih (j+1) (by omega);exact two (cons (st "not" (by decide)) (cons h1 nil))
 |@and n t u _ _ oV oW=>
  intro k hk;obtain⟨j,rfl⟩:∃j,k=j+1+1:=⟨k - 2,by omega⟩;obtain⟨d1,h1⟩:=oV (j+1) (by omega);obtain⟨d2,h2⟩:=oW (j+1) (by omega);exact two (cons (st "and" (by decide)) (cons h1 (cons h2 nil)))
 |@or n t u _ _ oV oW=>
  intro k hk;obtain⟨j,rfl⟩:∃j,k=j+1+1:=⟨k - 2,by omega⟩;obtain⟨d1,h1⟩:=oV (j+1) (by omega);obtain⟨d2,h2⟩:=oW (j+1) (by omega);exact two (cons (st "or" (by decide)) (cons h1 (cons h2 nil)))
theorem fH{t:D}(h:Tr n t):∃xs,t= .tup xs:=by cases h<;>exact⟨_,rfl⟩
theorem oi{t:D}(h:Tr n t)(k:Nat)(hk:n+1<=k):∃ds,data c k t=aa (.tuple ds):=by
 obtain⟨dd,e⟩:=MP (c:=c) h k hk;obtain⟨xs,rfl⟩:=fH h;obtain⟨j,rfl⟩:∃j,k=j+1:=⟨k - 1,by omega⟩;have e2:data c (j+1) (.tup xs)=(omap (data c j) xs).bind λds=>aa (.tuple ds):=rfl
 rw[e2]at e |-
 cases h2:omap (data c j) xs with
 |none=>rw[h2]at e;cases e
 |some ds=>exact⟨ds,rfl⟩
inductive It:D->Prop
 |str {y:Str}:y.cps.all (λk=>decide (k<1114112))=true->It (.str y)
 |tr {t:D}:Tr 40 t->It t
def lG(w:Str):D->Bool
 |.str y=>decide (y=w)
 |_=>false
variable{w:Str}
theorem uW(h:It d)(hw:w.cps.all (λk=>decide (k<1114112))=true):qE d (.str w) c=aa (.bl (lG w d),c):=by
 unfold qE Di;rw[cq hw];cases h with
 |@str y hy=>
  rw[cq hy];simp[lG]
 |tr ht=>
  obtain⟨ds,e⟩:=oi (c:=c) ht 60 (by decide);obtain⟨xs,rfl⟩:=fH ht;rw[e];simp[lG]
def bC(w:Str):List D->List D->List (List D)
 |g,[]=>[g]
 |g,d::r=>if lG w d=true then g::bC w [] r else bC w (g++[d]) r
theorem iY{α:Type}{xs:List α}{x:α}:eI (xs++[x]) (-1)=aa x:=by
 have h1:qw (xs++[x]).length (-1)=aa xs.length:=by
  unfold qw;rw[if_neg (by decide),if_pos (by rw[aaf,ahm];omega),aaf,ahm]
  congr 1;omega
 unfold eI;rw[h1];simp
theorem Kq.lH(k:Kq [] c c'):c <+:c':=by
 refine List.prefix_iff_eq_take.mpr (al6 λi=>?_)
 by_cases hi:i<c.length
 .rw[alS,if_pos hi,k.at_ i hi (by simp)]
 .rw[aiL (by omega),alS,if_neg hi]
theorem Kq.oj(k:Kq [] c c')(h:c.length<=n):Kq [] c (c'.set n z):=⟨by rw[abB];exact k.len,λi hi _=>by rw[aal,if_neg (by omega)];exact k.at_ i hi (by simp)⟩
noncomputable def vU:XS:=(cu (tV (e2 qE (eV 3) (eV 0)))
   (de (eM bI (eV 2) (af (aL aj) aj)))
   (de (eM bI (e2 aK (eV 2) (e1 ez (eC (.int 1)))) (af (eV 3) aj))))
theorem y4{P:Nat}(hw:w.cps.all (λk=>decide (k<1114112))=true)(hs:c0[s]? =aa (.lst is))(hP:c0.length<=P):∀(r:List D) (done:List (Nat×List D)) (p:Nat) (g:List D) (c':Cells) (th:Option D),
  (∀d∈r,It d)->Kq [] c0 c'->c'[P]? =aa (.lst ((done.map λq=>D.ref q.1)++[.ref p]))->(∀q∈done,c'[q.1]? =aa (.lst q.2)/\q.1≠p/\q.1≠P)->c'[p]? =aa (.lst g)->p≠P->c0.length<=p->done.length+r.length<=5000->g.length+r.length<=5000->
  ∃(BO:Option D) (yw:Cells) (ps:List (Nat×List D)),bY [(s,.lst is)] (aM 3) vU r [aa (.str w),aa (.ref s),aa (.ref P),th] c'=aa (.nx,[aa (.str w),aa (.ref s),aa (.ref P),BO],yw)/\yw[P]? =aa (.lst (ps.map λq=>D.ref q.1))/\ps.map (·.2)=done.map (·.2)++bC w g r/\(∀q∈ps,yw[q.1]? =aa (.lst q.2))/\Kq [] c0 yw
 |[],done,p,g,c',th,_,hk,h1,h2,h3,_,_,_,_=>by
  have st:stays [(s,Cell.lst is)] c':=λq hq=>by rw[aaq.mp hq];exact hk.get hs (by simp)
  refine⟨th,c',done++[(p,g)],?_,?_,?_,?_,hk⟩
  .unfold bY;rw[if_pos st]
  .rw[h1];simp
  .simp[bC]
  .intro q hq
   rcases abc.mp hq with hq|hq
   .exact(h2 q hq).1
   .rw[aaq.mp hq];exact h3
 |d::r,done,p,g,c',th,hI,hk,h1,h2,h3,VE,hp,n1,n2=>by
  have st:stays [(s,Cell.lst is)] c':=λq hq=>by rw[aaq.mp hq];exact hk.get hs (by simp)
  have eq:=uW (c:=c') (hI d (by simp)) hw;have lP:=bp h1;have hPl:=cU h1;have jZ:=cU h3;rw[aac]at n1 n2
  by_cases hd:lG w d=true
  .have ap:=dR (a:=P) (y:=.ref c'.length) (c:=c'++[.lst []]) (bu h1) (by simp only[aaf,aaE,aac,aam];omega)
   have q1:(((c'++[Cell.lst []]).set P (.lst (((done.map λq=>D.ref q.1)++[.ref p])++[.ref c'.length]))))[P]? =aa (.lst ((((done++[(p,g)]).map λq=>D.ref q.1))++[.ref c'.length])):=by
    rw[aal,if_pos rfl,if_pos (by rw[aaf];omega)];simp
   have kk:Kq [] c0 ((c'++[Cell.lst []]).set P (.lst (((done.map λq=>D.ref q.1)++[.ref p])++[.ref c'.length]))):=(hk.trans Kq.more).oj hP;obtain⟨BO,yw,ps,e,a1,a2,a3,a4⟩:=y4 hw hs hP r (done++[(p,g)]) c'.length [] _ (aa d) (λz hz=>hI z (aay _ hz)) kk q1 (λq hq=>by
     have DI:c'[q.1]? =aa (.lst q.2)/\q.1≠P:=by
      rcases abc.mp hq with hq|hq
      .exact⟨(h2 q hq).1,(h2 q hq).2.2⟩
      .rw[aaq.mp hq];exact⟨h3,VE⟩
     have:=cU DI.1;exact⟨by rw[aal,if_neg (λe=>DI.2 e.symm)];exact bu DI.1,by omega,DI.2⟩)
    (by rw[aal,if_neg (by omega)];exact aG) (by omega) (by have:=hk.len;omega) (by simp only[aaf,aac,aam];omega) (by simp only[aam];omega)
   refine⟨BO,yw,ps,?_,a1,?_,a3,a4⟩
   .unfold bY
    rw[if_pos st];have b:vU [aa (.str w),aa (.ref s),aa (.ref P),aa d] c'=aa (.nx,[aa (.str w),aa (.ref s),aa (.ref P),aa d],(c'++[Cell.lst []]).set P (.lst (((done.map λq=>D.ref q.1)++[.ref p])++[.ref c'.length]))):=by
     unfold vU;erw[eq,hd,lP,iz,ap]
    simp only[oR,ahG,ag5,Zu,b];exact e
   .rw[a2];simp[bC,hd]
  .have sT:lG w d=false:=by simpa using hd
   have sP:=aB h1;have lp:=bp h3;have ap:=dR (a:=p) (y:=d) (c:=c') h3 (by omega);have al:eI ((done.map λq=>D.ref q.1)++[.ref p]) (-1)=aa (.ref p):=iY;have kk:Kq [] c0 (c'.set p (.lst (g++[d]))):=hk.oj hp;obtain⟨BO,yw,ps,e,a1,a2,a3,a4⟩:=y4 hw hs hP r done p (g++[d]) _ (aa d) (λz hz=>hI z (aay _ hz)) kk (by rw[aal,if_neg VE];exact h1) (λq hq=>by
     obtain⟨b1,b2,b3⟩:=h2 q hq;exact⟨by rw[aal,if_neg (λe=>b2 e.symm)];exact b1,b2,b3⟩)
    (by rw[aal,if_pos rfl,if_pos jZ]) VE hp (by omega) (by simp only[aaf,aac,aam];omega)
   refine⟨BO,yw,ps,?_,a1,?_,a3,a4⟩
   .unfold bY
    rw[if_pos st];have b:vU [aa (.str w),aa (.ref s),aa (.ref P),aa d] c'=aa (.nx,[aa (.str w),aa (.ref s),aa (.ref P),aa d],c'.set p (.lst (g++[d]))):=by
     unfold vU;erw[eq,sT,cJ,sP,al,lp,ap]
    simp only[oR,ahG,ag5,Zu,b];exact e
   .rw[a2];simp[bC,sT]
theorem DQ(hw:w.cps.all (λk=>decide (k<1114112))=true)(hs:c[s]? =aa (.lst is))(hI:∀d∈is,It d)(hn:is.length<=4000):
  ∃(c':Cells) (ps:List (Nat×List D)),bL [.str w,.ref s] c=aa (.ref (c.length+1),c')/\c <+:c'/\c'[c.length+1]? =aa (.lst ((ps:List (Nat×List D)).map λq=>D.ref q.1))/\ps.map (·.2)=bC w [] is/\(∀q∈ps,c'[q.1]? =aa (.lst q.2)):=by
 obtain⟨th,c',ps,e,a1,a2,a3,a4⟩:=y4 (w:=w) (P:=c.length+1) (c0:=c) hw hs (by omega) is [] c.length [] (c++[.lst []]++[.lst [.ref c.length]]) ae hI (Kq.more.trans Kq.more) (by simp) (λq hq=>nomatch hq) (bu aG) (by omega) (aat _) (by simp only[aam];omega) (by simp only[aam];omega);refine⟨c',ps,?_,a4.lH,a1,by simpa using a2,a3⟩;have it:fJ (eV 1) [aa (.str w),aa (.ref s),aa (.ref (c.length+1)),ae] (c++[.lst []]++[.lst [.ref c.length]])=aa (⟨is,[(s,.lst is)]⟩,c++[.lst []]++[.lst [.ref c.length]]):=tL rfl (bu (bu hs));have f:=lE (g:=aM 3) (b:=vU) it;rw[bL,dB,kE];have lc:(c++[Cell.lst []]).length=c.length+1:=by simp
 have f':jc (fJ (eV 1)) (aM 3) (cu (tV (e2 qE (eV 3) (eV 0))) (de (eM bI (eV 2) (af (aL aj) aj))) (de (eM bI (e2 aK (eV 2) (e1 ez (eC (.int 1)))) (af (eV 3) aj)))) [aa (.str w),aa (.ref s),aa (.ref (c.length+1)),ae] (c++[.lst []]++[.lst [.ref c.length]])=aa (.nx,[aa (.str w),aa (.ref s),aa (.ref (c.length+1)),th],c'):=f.trans e;erw[iz,lc,f']
theorem rW{α:Type}{xs:List α}(h:n<=xs.length):Qm.cutD xs (aa (n:Int)) ae=xs.drop n:=by
 unfold Qm.cutD;have e1:yq xs.length 0 (aa (n:Int))=n:=by
  show(if (n:Int)<0 then((n:Int)+xs.length).toNat else min (n:Int).toNat xs.length)=n;rw[if_neg (by omega)];omega
 have e2:yq xs.length xs.length ae=xs.length:=rfl;rw[e1,e2];exact agQ (by rw[ag6];omega)
theorem jK{a:XE}{i:Int}(h:a σ c=aa (.int i,c')):bF a σ c=aa (aa i,c'):=by
 unfold bF;rw[h,Zu]
theorem kO{lo hi:Option Int}(h:c[s]? =aa (.lst xs)):cN (.ref s) lo hi c=aa (.ref c.length,c++[.lst (Qm.cutD xs lo hi)]):=by
 show((dq (.ref s) c).bind λxs=>aa (D.ref c.length,c++[Cell.lst (Qm.cutD xs lo hi)]))=_;rw[aB h];rfl
theorem AR{c:Cells}:∀{xs:List D},(∀d∈xs,Tr 40 d)->∃ds,omap (data c 60) xs=aa ds/\ala∉ds
 |[],_=>⟨[],rfl,by simp⟩
 |d::xs,h=>by
  obtain⟨ds,e,hn⟩:=AR (c:=c) (xs:=xs) λz hz=>h z (aay _ hz)
  obtain⟨es,e1⟩:=oi (c:=c) (h d (by simp)) 60 (by decide);refine⟨.tuple es::ds,?_,?_⟩
  .unfold omap;rw[e1,e];rfl
  .intro hm
   rcases aaI.mp hm with e|hm
   .cases e
   .exact hn hm
def fold(k:Str)(v:D)(vs:List D):D:=vs.foldl (λa b=>.tup [.str k,a,b]) v
theorem HD{k:Str}{s L:Nat}(hL:c[L]? =aa (.lst xs)):∀(vs:List D) (v:D) (th:Option D),∃BO,bY [(L,.lst xs)] (aM 3) (aE 2 (dc (af (eV 0) (af (eV 2) (af (eV 3) aj))))) vs [aa (.str k),aa (.ref s),aa v,th] c=aa (.nx,[aa (.str k),aa (.ref s),aa (fold k v vs),BO],c)
 |[],v,th=>by
  have st:stays [(L,Cell.lst xs)] c:=λq hq=>by rw[aaq.mp hq];exact hL
  refine⟨th,?_⟩;unfold bY;rw[if_pos st];rfl
 |d::vs,v,th=>by
  have st:stays [(L,Cell.lst xs)] c:=λq hq=>by rw[aaq.mp hq];exact hL
  obtain⟨BO,e⟩:=HD (k:=k) (s:=s) hL vs (.tup [.str k,v,d]) (aa d);refine⟨BO,?_⟩;unfold bY;rw[if_pos st];erw[];exact e
theorem Sf{k:Str}{v:D}{vs:List D}(hs:c[s]? =aa (.lst (v::vs)))(hT:∀d∈v::vs,Tr 40 d):∃z,bt [.str k,.ref s] c=aa (fold k v vs,c++[z]):=by
 obtain⟨ds,e,hn⟩:=AR (c:=c) hT;have g0:yL .aA (.ref s) c=aa (.bl false,c):=by
  unfold yL;dsimp only
  rw[aB hs,Zu,e,Zu];simp only[hn,decide_false]
 have g1:=kO (lo:=aa ((1:Nat):Int)) (hi:=ae) hs;rw[rW (by simp)]at g1;have g1':cN (.ref s) (aa 1) ae c=aa (.ref c.length,c++[.lst vs]):=g1;have o1:bF (eC (.int 1)) [aa (.str k),aa (.ref s),aa v,ae] c=aa (aa 1,c):=jK rfl;have it:fJ (eH cN (eV 1) (bF (eC (.int 1))) bU) [aa (.str k),aa (.ref s),aa v,ae] c=aa (⟨vs,[(c.length,.lst vs)]⟩,c++[.lst vs]):=tL (by erw[o1,g1']) aG;obtain⟨th,ef⟩:=HD (k:=k) (s:=s) (c:=c++[.lst vs]) aG vs v ae;have f:=(lE (g:=aM 3) (b:=aE 2 (dc (af (eV 0) (af (eV 2) (af (eV 3) aj))))) it).trans ef;have ix:aK (.ref s) (.int 0) c=aa (v,c):=by rw[cJ,aB hs,Zu,Mv];rfl
 refine⟨.lst vs,?_⟩;rw[bt,dB,gv];erw[g0,ix,f]
inductive Core:List D->D->Prop
 |is {x y:Str}:Wd x->Wd y->Core [.str x,.str y] (.tup [.str "is",.str x,.str y])
 |any:Core [.str "any"] (.tup [.str "any"])
 |tr {t:D}:Tr 40 t->Core [t] t
theorem oZ:("any":Str).cps.all (λk=>decide (k<1114112))=true:=fD (by decide)
theorem ic{b:Nat}{ds es:List agI}(ha:c[a]? =aa (.lst xs))(hb:c[b]? =aa (.lst ys))(e1:omap (data c 59) xs=aa ds)(e2:omap (data c 59) ys=aa es)(q:Bool)(hq:q=true↔ds=es):qE (.ref a) (.ref b) c=aa (.bl q,c):=by
 unfold qE Di;rw[kN ha e1,kN hb e2]
 by_cases h:ds=es
 .rw[hq.mpr h,h];simp
 .have:q=false:=by
   cases q with
   |false=>rfl
   |true=>exact absurd (hq.mp rfl) h
  rw[this];simp[h]
theorem VF{k:Nat}{a b:D}{x y:agI}(h:data c k a=aa x)(g:data c k b=aa y):omap (data c k) [a,b]=aa [x,y]:=by
 unfold omap omap omap;rw[h,g];rfl
theorem tM{k:Nat}{a:D}{x:agI}(h:data c k a=aa x):omap (data c k) [a]=aa [x]:=by
 unfold omap omap;rw[h];rfl
theorem VG{t:D}(h:Core is t)(hs:c[s]? =aa (.lst is)):∃c',aU [.ref s] c=aa (t,c')/\c <+:c':=by
 have a1:(c++[Cell.lst [.str "any"]])[c.length]? =aa (.lst [.str "any"]):=aG;have s1:=bu (zs:=[Cell.lst [.str "any"]]) hs;have o1:omap (data (c++[Cell.lst [.str "any"]]) 59) [.str "any"]=aa [.str "any"]:=tM (cq oZ);have q1:=aB s1;cases h with
 |@is x y wx wy=>
  have eq:=ic s1 a1 (VF (cq wx.ok) (cq wy.ok)) o1 false (by simp);have bl:bA [.ref s] (c++[Cell.lst [.str "any"]])=aa (.int 2,c++[Cell.lst [.str "any"]]):=by rw[eo,q1];rfl
  have i0:aK (.ref s) (.int 0) (c++[Cell.lst [.str "any"]])=aa (.str x,c++[Cell.lst [.str "any"]]):=by rw[cJ,q1];rfl
  obtain⟨z1,f1⟩:=MO (c:=c++[Cell.lst [.str "any"]]) wx;have q2:=aB (bu (zs:=[z1]) s1);have i1:aK (.ref s) (.int 1) (c++[Cell.lst [.str "any"]]++[z1])=aa (.str y,c++[Cell.lst [.str "any"]]++[z1]):=by rw[cJ,q2];rfl
  obtain⟨z2,f2⟩:=MO (c:=c++[Cell.lst [.str "any"]]++[z1]) wy;have q3:=aB (bu (zs:=[z2]) (bu (zs:=[z1]) s1));have j0:aK (.ref s) (.int 0) (c++[Cell.lst [.str "any"]]++[z1]++[z2])=aa (.str x,c++[Cell.lst [.str "any"]]++[z1]++[z2]):=by rw[cJ,q3];rfl
  have j1:aK (.ref s) (.int 1) (c++[Cell.lst [.str "any"]]++[z1]++[z2])=aa (.str y,c++[Cell.lst [.str "any"]]++[z1]++[z2]):=by rw[cJ,q3];rfl
  refine⟨c++[Cell.lst [.str "any"]]++[z1]++[z2],?_,⟨[.lst [.str "any"],z1,z2],by simp⟩⟩;rw[aU,dB,bx];erw[eq,bl,i0,f1,i1,f2,j0,j1]
 |any=>
  have eq:=ic s1 a1 (tM (cq oZ)) o1 true (by simp);refine⟨c++[Cell.lst [.str "any"]],?_,⟨_,rfl⟩⟩;rw[aU,dB,bx];erw[eq]
 |tr ht=>
  obtain⟨ds,e⟩:=oi (c:=c++[Cell.lst [.str "any"]]) ht 59 (by decide);have eq:=ic s1 a1 (tM e) o1 false (by simp);have bl:bA [.ref s] (c++[Cell.lst [.str "any"]])=aa (.int 1,c++[Cell.lst [.str "any"]]):=by rw[eo,q1];rfl
  have i0:aK (.ref s) (.int 0) (c++[Cell.lst [.str "any"]])=aa (t,c++[Cell.lst [.str "any"]]):=by rw[cJ,q1];rfl
  obtain⟨xs,rfl⟩:=fH ht;have x4:lh [.tup xs,.ty "tuple"] (c++[Cell.lst [.str "any"]])=aa (.bl true,c++[Cell.lst [.str "any"]]):=by simp[lh,two,mU,lg]
  refine⟨c++[Cell.lst [.str "any"]],?_,⟨_,rfl⟩⟩;rw[aU,dB,bx];erw[eq,bl,i0,x4]
def om:Nat->D->D
 |0,t=>t
 |k+1,t=>.tup [.str "not",om k t]
theorem mF:("not":Str).cps.all (λk=>decide (k<1114112))=true:=fD (by decide)
theorem BP(h:Wd x)(hw:w∈(["and","or","not","any"]:List Str)):lG w (.str x)=false:=by
 refine decide_eq_false λe=>?_
 subst e;exact h.free hw
theorem MQ{t:D}(h:Core is t):∃d r,is=d::r/\It d/\lG "not" d=false:=by
 cases h with
 |is wx wy=>exact⟨_,_,rfl,.str wx.ok,BP wx (by simp)⟩
 |any=>exact⟨_,_,rfl,.str oZ,by decide⟩
 |tr ht=>
  obtain⟨xs,rfl⟩:=fH ht;exact⟨_,_,rfl,.tr ht,rfl⟩
theorem Jl{t:D}(h:Core is t):∃xs,t= .tup xs:=by
 cases h with
 |is wx wy=>exact⟨_,rfl⟩
 |any=>exact⟨_,rfl⟩
 |tr ht=>exact fH ht
theorem vV{k:Nat}{t:D}(h:∃xs,t= .tup xs):∃xs,om k t= .tup xs:=by
 cases k with
 |zero=>exact h
 |succ k=>exact⟨_,rfl⟩
theorem oo{α:Type}{xs:List α}(h:i<xs.length):eI xs (i:Int)=aa xs[i]:=gP (aav h)
theorem rX:ik (.tup xs) .aA c=aa (.bl false,c):=rfl
noncomputable def y7:XT:=dI (tV (e2 nV (eV 1) (eB bA (af (eV 0) aj)))) (tV (e2 qE (e2 aK (eV 0) (eV 1)) (eC (.str "not"))))
theorem abb{k:Nat}{core:List D}{t:D}(hc:Core core t)(hs:c[s]? =aa (.lst (aaL k (.str "not")++core))):∀(j i:Nat),i+j=k->eY y7 (aE 1 (e2 bc (eV 1) (eC (.int 1)))) [aa (.ref s),aa (.int i),ae,ae] c=aa (.nx,[aa (.ref s),aa (.int k),ae,ae],c):=by
 obtain⟨d,r,rfl,hI,hd⟩:=MQ hc;have q:=aB hs;have hl:(aaL k (D.str "not")++d::r).length=k+(r.length+1):=by simp
 have bl:bA [.ref s] c=aa (.int (k+(r.length+1):Nat),c):=by rw[eo,q];simp only[Zu,hl]
 intro j
 induction j with
 |zero=>
  intro i hi;obtain rfl:i=k:=by omega
  refine g8 ?_;have a1:eI (aaL i (D.str "not")++d::r) (i:Int)=aa d:=by
   rw[oo (by rw[hl];omega)];simp
  have e:=uW (c:=c) hI mF;rw[hd]at e;have lt:(i:Int)<((i+(r.length+1):Nat):Int):=by omega
  unfold y7;erw[bl,lt,cJ,q,a1,e]
 |succ j ih=>
  intro i hi;have e0:=ih (i+1) (by omega);have a1:eI (aaL k (D.str "not")++d::r) (i:Int)=aa (.str "not"):=by
   rw[oo (by rw[hl];omega)]
   congr 1
   rw[ajV (by simp;omega)];simp
  have e:=uW (c:=c) (.str mF) mF;rw[show lG "not" (.str "not")=true by decide]at e;have lt:(i:Int)<((k+(r.length+1):Nat):Int):=by omega
  refine oK (c':=c) (σ':=[aa (.ref s),aa (.int ((i+1:Nat):Int)),ae,ae]) (c2:=c) ?_ ?_ e0
  .unfold y7
   erw[bl,lt,cJ,q,a1,e]
  .erw[]
   simp
theorem DR{k:Nat}{core:List D}{t:D}(hc:Core core t)(hs:c[s]? =aa (.lst (aaL k (.str "not")++core)))(hk:k<=1000):∃c',cK [.ref s] c=aa (om k t,c')/\c <+:c':=by
 have w:=abb hc hs k 0 (by omega);have g1:=kO (lo:=aa ((k:Nat):Int)) (hi:=ae) hs;rw[rW (by simp),show(aaL k (D.str "not")++core).drop k=core by simp]at g1;have o1:bF (eV 1) [aa (.ref s),aa (.int k),ae,ae] c=aa (aa (k:Int),c):=jK rfl;obtain⟨c2,b,hp⟩:=VG (c:=c++[.lst core]) hc aG;have ht:=Jl hc;have hr:dZ (af (eV 1) aj) [aa (.ref s),aa (.int k),aa t,ae] c2=aa (⟨eU 0 (k:Int).toNat,[]⟩,c2):=rR (j:=k) (by erw[]) (by omega);have key:=iU (ks:=[]) (g:=aM 3) (body:=aE 2 (lY (tV (e2 ik (eV 2) (eC .aA))) (eC .aA) (dc (af (eC (.str "not")) (af (eV 2) aj))))) (λi σ c'=>c'=c2/\∃j,σ=[aa (.ref s),aa (.int k),aa (om i t),j]) (eU 0 (k:Int).toNat) 0 [aa (.ref s),aa (.int k),aa t,ae] c2 (λ_ _ _ _=>fw) (by
  rintro i d σ c' hd ⟨rfl,j,rfl⟩;obtain⟨hi,rfl⟩:=rS hd;obtain⟨xs,ex⟩:=vV (k:=0+i) ht;refine⟨_,c',[aa (.ref s),aa (.int k),aa (.tup [.str "not",om (0+i) t]),aa (.int (0+(i:Int)))],c',rfl,?_,rfl,_,rfl⟩;rw[ex];erw[rX]) ⟨rfl,ae,rfl⟩
 obtain⟨σ',c',ef,rfl,j,rfl⟩:=key;rw[qJ,ahd,aht]at ef;have f:=(lE (g:=aM 3) (b:=aE 2 (lY (tV (e2 ik (eV 2) (eC .aA))) (eC .aA) (dc (af (eC (.str "not")) (af (eV 2) aj))))) hr).trans (by simpa using ef);refine⟨c',?_,(abn c _).trans hp⟩;have run:fB [aa (.ref s),ae,ae,ae] c=aa (.rt (om k t),[aa (.ref s),aa (.int k),aa (om k t),j],c'):=by
  unfold fB;refine aw (σ1:=[aa (.ref s),aa (.int 0),ae,ae]) (c1:=c) (by erw[]) ?_;refine aw w ?_;refine aw (σ1:=[aa (.ref s),aa (.int k),aa t,ae]) (c1:=c') (by erw[o1,g1,b]) ?_;refine aw f ?_;erw[]
 erw[cK,run]
theorem Ex.things{k:Nat}{t:D}(h:Ex k n ts is t):k=0->n<=40->∃j core t0,is=aaL j (.str "not")++core/\t=om j t0/\Core core t0:=by
 induction h with
 |is wx wy=>intro _ _;exact⟨0,_,_,rfl,rfl,.is wx wy⟩
 |any=>intro _ _;exact⟨0,_,_,rfl,rfl,.any⟩
 |not _ ih=>
  intro _ hn;obtain⟨j,core,t0,rfl,rfl,hc⟩:=ih rfl (by omega);exact⟨j+1,core,t0,rfl,rfl,hc⟩
 |par h ih=>intro _ hn;exact⟨0,_,_,rfl,rfl,.tr (h.tr.mono hn)⟩
 |up _ _ _=>intro e;cases e
 |bin _ _ _ _ _=>intro e;cases e
theorem y8(k:Nat):(kw k).cps.all (λk=>decide (k<1114112))=true:=by
 match k with
 |0=>exact fD (by decide)
 |_+1=>exact fD (x:="or") (by decide)
theorem HE(k:Nat):kw k∈(["and","or","not","any"]:List Str):=by
 match k with
 |0=>simp[kw]
 |_+1=>simp[kw]
theorem Ex.items{k:Nat}{t:D}(h:Ex k n ts is t):n<=40->∀d∈is,It d:=by
 induction h with
 |is wx wy=>
  intro _ d hd;simp only[aaI,abl,or_false]at hd;rcases hd with rfl|rfl
  .exact .str wx.ok
  .exact .str wy.ok
 |any=>intro _ d hd;rw[aaq.mp hd];exact .str oZ
 |not _ ih=>
  intro hn d hd;rcases aaI.mp hd with rfl|hd
  .exact .str mF
  .exact ih (by omega) d hd
 |par h ih=>intro hn d hd;rw[aaq.mp hd];exact .tr (h.tr.mono hn)
 |up _ _ ih=>exact ih
 |bin _ _ _ oV oW=>
  intro hn d hd;simp only[abc,aaq]at hd;rcases hd with(hd|rfl)|hd
  .exact oV (by omega) d hd
  .exact .str (y8 _)
  .exact oW (by omega) d hd
theorem Ex.free{k:Nat}{t:D}(h:Ex k n ts is t):∀i,k<=i->i<2->∀d∈is,lG (kw i) d=false:=by
 induction h with
 |is wx wy=>
  intro i _ _ d hd;simp only[aaI,abl,or_false]at hd;rcases hd with rfl|rfl
  .exact BP wx (HE i)
  .exact BP wy (HE i)
 |any=>
  intro i _ hi d hd;rw[aaq.mp hd]
  match i,hi with
  |0,_=>decide
  |1,_=>decide
 |not _ ih=>
  intro i hk hi d hd;rcases aaI.mp hd with rfl|hd
  .match i,hi with
   |0,_=>decide
   |1,_=>decide
  .exact ih i hk hi d hd
 |par h _=>
  intro i _ _ d hd;rw[aaq.mp hd];obtain⟨xs,rfl⟩:=fH h.tr;rfl
 |up _ _ ih=>intro i hk hi;exact ih i (by omega) hi
 |@bin k n ts us is js t u hk _ _ oV oW=>
  intro i hki hi d hd;simp only[abc,aaq]at hd;rcases hd with(hd|rfl)|hd
  .exact oV i hki hi d hd
  .obtain rfl:i=1:=by omega
   obtain rfl:k=0:=by omega
   decide
  .exact oW i (by omega) hi d hd
theorem qK{w:Str}:∀{r g:List D},(∀d∈r,lG w d=false)->bC w g r=[g++r]
 |[],g,_=>by simp[bC]
 |d::r,g,h=>by
  have h1:=h d (by simp);have ih:=qK (w:=w) (r:=r) (g:=g++[d]) λz hz=>h z (aay _ hz)
  unfold bC;rw[h1,if_neg (by decide),ih];simp
variable{b:List D}
theorem tN:∀{a g:List D},bC w g (a++.str w::b)=bC w g a++bC w [] b
 |[],g=>by
  show(if lG w (.str w)=true then g::bC w [] b else bC w (g++[.str w]) b)=_;rw[show lG w (.str w)=true from decide_eq_true rfl,if_pos rfl];rfl
 |d::a,g=>by
  rw[abP,bC,bC]
  by_cases h:lG w d=true
  .rw[if_pos h,if_pos h,tN];rfl
  .rw[if_neg h,if_neg h,tN]
theorem Ex.pieces{j:Nat}{t:D}(h:Ex j n ts is t):∀k,j=k+1->∃(p:List D×D) (ps:List (List D×D)),(∀q∈p::ps,∃us,Ex k n us q.1 q.2)/\bC (kw k) [] is=(p::ps).map (·.1)/\t=fold (kw k) p.2 (ps.map (·.2)):=by
 induction h with
 |is _ _=>intro k e;cases e
 |any=>intro k e;cases e
 |not _ _=>intro k e;cases e
 |par _ _=>intro k e;cases e
 |@up k n ts is t hk h _=>
  intro k' e;cases e;refine⟨(is,t),[],λq hq=>?_,?_,rfl⟩
  .rw[aaq.mp hq];exact⟨ts,h⟩
  .rw[qK (h.free k (aat _) hk)];rfl
 |@bin k n ts us is js t u hk h1 h2 ih _=>
  intro k' e;cases e;obtain⟨p,ps,a1,a2,a3⟩:=ih k rfl;refine⟨p,ps++[(js,u)],λq hq=>?_,?_,?_⟩
  .rw[<-abP]at hq
   rcases abc.mp hq with hq|hq
   .obtain⟨us',hu⟩:=a1 q hq
    exact⟨us',hu.mono _ (by omega)⟩
   .rw[aaq.mp hq];exact⟨us,h2.mono _ (by omega)⟩
  .rw[agJ,List.singleton_append,tN,a2,qK (h2.free k (aat _) hk)]
   simp
  .rw[a3];simp[fold]
def DS(F:FN)(k:Nat):Prop:=∀n ts is t s c,Ex k n ts is t->n<=40->is.length<=500->c[s]? =aa (.lst is)->∃c',F [.ref s] c=aa (t,c')/\c <+:c'
theorem rd0:DS cK 0:=by
 intro n ts is t s c h hn hl hs;obtain⟨j,core,t0,rfl,rfl,hc⟩:=h.things rfl hn;rw[aaf,ahL]at hl;exact DR hc hs (by omega)
theorem o6{w:Str}:∀{r g:List D},((bC w g r).length<=r.length+1)/\∀p∈bC w g r,p.length<=g.length+r.length
 |[],g=>by
  refine⟨by simp[bC],λp hp=>?_⟩;rw[aaq.mp hp];simp
 |d::r,g=>by
  rw[bC];split
  .obtain⟨h1,h2⟩:=o6 (w:=w) (r:=r) (g:=[])
   refine⟨by simp only[aac];omega,λp hp=>?_⟩;rcases aaI.mp hp with rfl|hp
   .omega
   .have:=h2 p hp;simp only[aam,aac]at this |-;omega
  .obtain⟨h1,h2⟩:=o6 (w:=w) (r:=r) (g:=g++[d])
   refine⟨by simp only[aac];omega,λp hp=>?_⟩;have:=h2 p hp;simp only[aaf,aam,aac]at this |-;omega
theorem rdS{F G:FN}{k:Nat}(hF:DS F k)(hG:∀s c c' r,av bt [] (af (eC (.str (kw k))) (af (eJ (fJ (av bL [] (af (eC (.str (kw k))) (af (eV 0) aj)))) [ae] (aM 0) jB (av F [] (af (eV 0) aj))) aj)) [aa (.ref s)] c=aa (r,c')->G [.ref s] c=aa (r,c')):DS G (k+1):=by
 intro n ts is t s c h hn hl hs;obtain⟨p,ps,a1,a2,rfl⟩:=h.pieces k rfl;obtain⟨c1,rs,e1,p1,q1,q2,q3⟩:=DQ (y8 k) hs (h.items hn) (by omega);rw[a2]at q2;have hlen:rs.length=(p::ps).length:=by have:=congrArg aic q2;simpa using this
 have pl:=o6 (w:=kw k) (r:=is) (g:=[]);rw[a2]at pl;have FV:(p::ps).length<=501:=by have:=pl.1;rw[aaE]at this;omega
 have it:fJ (av bL [] (af (eC (.str (kw k))) (af (eV 0) aj))) [aa (.ref s)] c=aa (⟨rs.map λq=>D.ref q.1,[(c.length+1,.lst (rs.map λq=>D.ref q.1))]⟩,c1):=tL (by erw[e1]) q1;obtain⟨c2,e2,p2,l2⟩:=ML (it:=fJ (av bL [] (af (eC (.str (kw k))) (af (eV 0) aj)))) (cap:=[ae]) (g:=aM 0) (te:=av F [] (af (eV 0) aj)) (vs:=(p::ps).map (·.2)) (λτ=>∃x,τ=[x]) it (λq hq=>by rw[aaq.mp hq];exact q1) ⟨ae,rfl⟩ (by rw[aaE,aaE,hlen]) (by
  rintro i d v hd hv τ c' ⟨x,rfl⟩ hc;rw[aa6]at hd hv;obtain⟨r,hr,rfl⟩:=adi.mp hd;obtain⟨q,hq,rfl⟩:=adi.mp hv;have e3:r.2=q.1:=by
   have h1:=congrArg (λl=>l[i]?) q2;simp only[aa6,hr,hq,ajd]at h1;exact abK h1
  obtain⟨us,hx⟩:=a1 q (aa8 hq);have hl1:=pl.2 q.1 (ajg (aa8 hq));obtain⟨c3,f1,ws,rfl⟩:=hF n us q.1 q.2 r.1 c' hx hn (by simp only[aam]at hl1;omega) (by rw[<-e3];exact a_ hc (q3 r (aa8 hr)));exact⟨[aa (.ref r.1)],ws,rfl,by erw[f1],_,rfl⟩) (by rw[aaE,hlen];omega)
 obtain⟨z,e3⟩:=Sf (k:=kw k) (c:=c2) l2 (by
  intro d hd;obtain⟨q,hq,rfl⟩:=adn.mp (show d∈(p::ps).map (·.2)from hd);obtain⟨us,hx⟩:=a1 q hq;exact hx.tr.mono hn)
 refine⟨c2++[z],hG s c _ _ ?_,(p1.trans p2).trans (abn _ _)⟩;erw[e2,e3]
theorem rd1:DS dE 1:=rdS rd0 λs c c' r e=>by
 have e':av bt [] (af (eC (.str "and")) (af (eJ (fJ (av bL [] (af (eC (.str "and")) (af (eV 0) aj)))) [ae] (aM 0) jB (av cK [] (af (eV 0) aj))) aj)) [aa (.ref s)] c=aa (r,c'):=e;rw[dE,dB,jg];simp only[aac,aam,if_true,abk,agy,aim,ahf,aa5,oQ,e',Zu,rQ]
theorem rd2:DS cL 2:=rdS rd1 λs c c' r e=>by
 have e':av bt [] (af (eC (.str "or")) (af (eJ (fJ (av bL [] (af (eC (.str "or")) (af (eV 0) aj)))) [ae] (aM 0) jB (av dE [] (af (eV 0) aj))) aj)) [aa (.ref s)] c=aa (r,c'):=e;rw[cL,dB,iG];simp only[aac,aam,if_true,abk,agy,aim,ahf,aa5,oQ,e',Zu,rQ]
theorem gW{g:XG}{body:XS}{r:List D}{σ1 σ2:Qm.Env}(st:stays ks c)(h1:g d σ c=aa (σ1,c1))(h2:body σ1 c1=aa (.nx,σ2,c2)):bY ks g body (d::r) σ c=bY ks g body r σ2 c2:=by
 rw[bY,if_pos st,h1,Zu];dsimp only
 rw[h2,Zu]
theorem Ex.MR{k:Nat}{t:D}(h:Ex k n ts is t):is.length<=ts.length:=by
 induction h with
 |is _ _=>simp
 |any=>simp
 |not _ ih=>simp only[aac];omega
 |par _ _=>simp
 |up _ _ ih=>exact ih
 |bin _ _ _ oV oW=>simp only[aaf,aac,aam];omega
noncomputable def eQ:XS:=(cu (tV (e2 cO (eV 2) (eC (.str "("))))
   (de (eM bI (eV 1) (af (aL aj) aj)))
   (cu (tV (e2 cO (eV 2) (eC (.str ")"))))
   (ax (aE 3 (av cL [] (af (eM AA (eV 1) aj) aj)))
   (ax (cu (oB (tV (e2 ik (eV 3) (eC .aA))) (sy (mV (eV 1))))
   (bj (eC .aA))
   bz)
   (de (eM bI (e2 aK (eV 1) (e1 ez (eC (.int 1)))) (af (eV 3) aj)))))
   (de (eM bI (e2 aK (eV 1) (e1 ez (eC (.int 1)))) (af (eV 2) aj)))))
structure Tk(w:Str):Prop where
 ok:w.cps.all (λk=>decide (k<1114112))=true
 no:decide (w= "(")=false
 nc:decide (w= ")")=false
theorem Tk.wd(h:W0 x):Tk x:=by
 refine⟨h.ok,decide_eq_false λe=>?_,decide_eq_false λe=>?_⟩
 .have:=h.lt;rw[e]at this;revert this;decide
 .have:=h.lt;rw[e]at this;revert this;decide
theorem y9:("(":Str).cps.all (λk=>decide (k<1114112))=true:=fD (by decide)
theorem y_:(")":Str).cps.all (λk=>decide (k<1114112))=true:=fD (by decide)
theorem VH(k:Nat):Tk (kw k):=by
 match k with
 |0=>exact⟨y8 0,by decide,by decide⟩
 |j+1=>exact⟨y8 (j+1),show decide (("or":Str)= "(")=false by decide,show decide (("or":Str)= ")")=false by decide⟩
structure Op(W U:Nat)(ws:List D)(st:List Nat)(p:Nat)(g:List D)(c:Cells):Prop where
 w:c[W]? =aa (.lst ws)
 u:c[U]? =aa (.lst ((st.map D.ref)++[.ref p]))
 t:c[p]? =aa (.lst g)
 wu:W≠U
 wp:W≠p
 pu:p≠U
variable{ws g:List D}{p W U:Nat}
theorem Op.st{st:List Nat}(h:Op W U ws st p g c):stays [(W,.lst ws)] c:=λq hq=>by rw[aaq.mp hq];exact h.w
theorem Op.put{st:List Nat}{g':List D}(h:Op W U ws st p g c):Op W U ws st p g' (c.set p (.lst g')):=by
 refine⟨?_,?_,?_,h.wu,h.wp,h.pu⟩
 .rw[aal,if_neg (λe=>h.wp e.symm)];exact h.w
 .rw[aal,if_neg h.pu];exact h.u
 .rw[aal,if_pos rfl,if_pos (cU h.t)]
variable{cd:Option D}
theorem abe{st:List Nat}{wd:Option D}{r:List D}(h:Op W U ws st p g c)(hx:Tk x)(hg:g.length<=5000):bY [(W,.lst ws)] (aM 2) eQ (.str x::r) [aa (.ref W),aa (.ref U),wd,cd] c=bY [(W,.lst ws)] (aM 2) eQ r [aa (.ref W),aa (.ref U),aa (.str x),cd] (c.set p (.lst (g++[.str x]))):=by
 refine gW h.st (σ1:=[aa (.ref W),aa (.ref U),aa (.str x),cd]) (c1:=c) rfl ?_;have q1:=gU (c:=c) hx.ok y9;have q2:=gU (c:=c) hx.ok y_;rw[hx.no]at q1;rw[hx.nc]at q2;have sU:=aB h.u;have al:eI ((st.map D.ref)++[.ref p]) (-1)=aa (.ref p):=iY;have lp:=bp h.t;have ap:=dR (y:=.str x) h.t (by omega);unfold eQ;erw[q1,q2,cJ,sU,al,lp,ap]
theorem VI{st:List Nat}{wd:Option D}{r:List D}(h:Op W U ws st p g c)(hg:st.length<=5000):bY [(W,.lst ws)] (aM 2) eQ (.str "("::r) [aa (.ref W),aa (.ref U),wd,cd] c=bY [(W,.lst ws)] (aM 2) eQ r [aa (.ref W),aa (.ref U),aa (.str "("),cd] ((c++[Cell.lst []]).set U (Cell.lst (((st++[p]).map D.ref)++[D.ref c.length]))):=by
 refine gW h.st (σ1:=[aa (.ref W),aa (.ref U),aa (.str "("),cd]) (c1:=c) rfl ?_;have q1:=gU (c:=c) y9 y9;rw[show decide (("(":Str)= "(")=true by decide]at q1;have lU:=bp h.u;have ap:=dR (y:=.ref c.length) (bu (zs:=[.lst []]) h.u) (by simp only[aaf,aaE,aac,aam];omega);have e:(st.map D.ref++[D.ref p])++[D.ref c.length]=((st++[p]).map D.ref)++[.ref c.length]:=by simp
 rw[e]at ap;unfold eQ;erw[q1,lU,iz,ap]
theorem Op.open{st:List Nat}(h:Op W U ws st p g c):Op W U ws (st++[p]) c.length [] ((c++[Cell.lst []]).set U (Cell.lst (((st++[p]).map D.ref)++[D.ref c.length]))):=by
 have hU:=cU h.u;have hW:=cU h.w;refine⟨?_,?_,?_,h.wu,by omega,by omega⟩
 .rw[aal,if_neg (λe=>h.wu e.symm)];exact bu h.w
 .rw[aal,if_pos rfl,if_pos (by rw[aaf];omega)]
 .rw[aal,if_neg (by omega)];exact aG
theorem P4{st:List Nat}{q:Nat}{wd:Option D}{r:List D}{t:D}(h:Op W U ws (st++[p]) q is c)(hp:c[p]? =aa (.lst g))(wp:W≠p)(pu:p≠U)(pq:p≠q)(hx:Ex 2 n ts is t)(hn:n<=40)(hl:is.length<=500)(hg:g.length<=5000):
  ∃c',bY [(W,.lst ws)] (aM 2) eQ (.str ")"::r) [aa (.ref W),aa (.ref U),wd,cd] c=bY [(W,.lst ws)] (aM 2) eQ r [aa (.ref W),aa (.ref U),aa (.str ")"),aa t] c'/\Op W U ws st p (g++[t]) c'/\Kq [U,p] c c':=by
 have hU:=cU h.u;have u3:(c.set U (.lst ((st.map D.ref)++[.ref p])))[U]? =aa (.lst ((st.map D.ref)++[.ref p])):=by rw[aal,if_pos rfl,if_pos hU]
 have q3:(c.set U (.lst ((st.map D.ref)++[.ref p])))[q]? =aa (.lst is):=by rw[aal,if_neg (λe=>h.pu e.symm)];exact h.t
 obtain⟨c4,e4,p4⟩:=rd2 n ts is t q (c.set U (.lst ((st.map D.ref)++[.ref p]))) hx hn hl q3;have u4:=a_ p4 u3;have VJ:c4[p]? =aa (.lst g):=a_ p4 (by rw[aal,if_neg (λe=>pu e.symm)];exact hp);have w4:c4[W]? =aa (.lst ws):=a_ p4 (by rw[aal,if_neg (λe=>h.wu e.symm)];exact h.w);have O4:Op W U ws st p g c4:=⟨w4,u4,VJ,h.wu,wp,pu⟩;refine⟨c4.set p (.lst (g++[t])),?_,O4.put,((Kq.set (by simp)).trans (Kq.pre p4)).trans (Kq.set (by simp))⟩;refine gW h.st (σ1:=[aa (.ref W),aa (.ref U),aa (.str ")"),cd]) (c1:=c) rfl ?_;have q1:=gU (c:=c) y_ y9;have q2:=gU (c:=c) y_ y_;rw[show decide ((")":Str)= "(")=false by decide]at q1;rw[show decide ((")":Str)= ")")=true by decide]at q2;have lU:=bp h.u;have pop:AA (.ref U) [] c=aa (.ref q,c.set U (.lst ((st.map D.ref)++[.ref p]))):=by
  show((cj (.ref U) c).bind λl=>(l.2[l.2.length - 1]?).bind λd=>aa (d,c.set l.1 (.lst l.2.dropLast)))=_;rw[lU];simp
 have tr:mV (eV 1) [aa (.ref W),aa (.ref U),aa (.str ")"),aa t] c4=aa (true,c4):=by
  show((cj (.ref U) c4).bind λl=>aa (!l.2.isEmpty,c4))=_;rw[bp u4];simp
 obtain⟨xs,rfl⟩:=fH hx.tr;have sU:=aB u4;have al:eI ((st.map D.ref)++[.ref p]) (-1)=aa (.ref p):=iY;have lp:=bp VJ;have ap:=dR (y:=.tup xs) VJ (by omega);unfold eQ;erw[q1,q2,lU,pop,e4,rX,tr,cJ,sU,al,lp,ap]
def xn(W U:Nat)(ws:List D)(ts:List Str)(is:List D):Prop:=∀(st:List Nat) (p:Nat) (g:List D) (c:Cells) (wd cd:Option D) (r:List D),Op W U ws st p g c->st.length+ts.length<=4000->g.length+ts.length<=4000->
  ∃c' VL Mp,bY [(W,.lst ws)] (aM 2) eQ (ts.map D.str++r) [aa (.ref W),aa (.ref U),wd,cd] c=bY [(W,.lst ws)] (aM 2) eQ r [aa (.ref W),aa (.ref U),VL,Mp] c'/\Op W U ws st p (g++is) c'/\Kq [U,p] c c'
theorem xn.one(hx:Tk x):xn W U ws [x] [.str x]:=λst p g c wd cd r h _ hg=>⟨_,_,_,abe h hx (by simp only[aac,aam]at hg;omega),h.put,Kq.set (by simp)⟩
variable{us:List Str}
theorem xn.app{js:List D}(h1:xn W U ws ts is)(h2:xn W U ws us js)(hl:is.length<=ts.length):xn W U ws (ts++us) (is++js):=by
 intro st p g c wd cd r h hs hg;rw[aaf]at hs hg;obtain⟨c1,w1,d1,e1,o1,k1⟩:=h1 st p g c wd cd (us.map D.str++r) h (by omega) (by omega);obtain⟨c2,w2,d2,e2,o2,k2⟩:=h2 st p (g++is) c1 w1 d1 r o1 (by omega) (by rw[aaf];omega);refine⟨c2,w2,d2,?_,by rw[<-agJ];exact o2,k1.trans k2⟩;rw[agF,agJ,e1,e2]
theorem MS{k:Nat}{t:D}(h:Ex k n ts is t):n<=40->ts.length<=500->xn W U ws ts is:=by
 induction h with
 |is wx wy=>intro _ _;exact(xn.one (Tk.wd wx.toW0)).app (xn.one (Tk.wd wy.toW0)) (by simp)
 |any=>intro _ _;exact xn.one ⟨oZ,by decide,by decide⟩
 |not _ ih=>intro hn hl;rw[aac]at hl;exact(xn.one ⟨mF,by decide,by decide⟩).app (ih (by omega) (by omega)) (by simp)
 |@par n ts is t hx ih=>
  intro hn hl st p g c wd cd r h hs hg;simp only[aac,aaf,aam]at hl hs hg;have hU:=cU h.u;have hp:=cU h.t;obtain⟨c2,w2,d2,e2,o2,k2⟩:=ih hn (by omega) (st++[p]) c.length [] _ (aa (.str "(")) cd (.str ")"::r) h.open (by simp only[aaf,aac,aam];omega) (by simp only[aam];omega);rw[ahO]at o2;have p2:c2[p]? =aa (.lst g):=k2.get (by rw[aal,if_neg (λe=>h.pu e.symm)];exact bu h.t) (by simp[h.pu];omega);have il:=hx.MR;obtain⟨c3,e3,o3,k3⟩:=P4 (wd:=w2) (cd:=d2) (r:=r) o2 p2 h.wp h.pu (by omega) hx hn (by omega) (by omega);refine⟨c3,aa (.str ")"),aa t,?_,o3,?_⟩
  .rw[abk,abP,VI h (by omega),agF,agJ]
   exact e2.trans e3
  .have k1:Kq [U,p] c ((c++[Cell.lst []]).set U (Cell.lst (((st++[p]).map D.ref)++[D.ref c.length]))):=Kq.more.trans (Kq.set (by simp))
   refine(k1.less k2 λx hx=>?_).trans k3;simp only[aaI,abl,or_false]at hx;rcases hx with rfl|rfl
   .exact .inl (by simp)
   .exact .inr (aat _)
 |up _ _ ih=>exact ih
 |@bin k n ts us is js t u _ hx hy oV oW=>
  intro hn hl;simp only[aaf,aac,aam]at hl;have i1:=hx.MR;exact((oV (by omega) (by omega)).app (xn.one (VH k)) i1).app (oW (by omega) (by omega)) (by simp only[aaf,aac,aam];omega)
theorem DT{t:D}(h:Ex 2 n ts is t)(hn:n<=40)(hl:ts.length<=500)(hW:c[W]? =aa (.lst (ts.map D.str))):∃c',b_ [.ref W] c=aa (t,c')/\c <+:c':=by
 have hWl:=cU hW;have O:Op W (c.length+1) (ts.map D.str) [] c.length [] (c++[.lst []]++[.lst [.ref c.length]]):=⟨bu (bu hW),by simp,bu aG,by omega,by omega,by omega⟩;obtain⟨c1,wd,cd,e1,o1,k1⟩:=MS h hn hl [] c.length [] _ ae ae [] O (by simp only[aam];omega) (by simp only[aam];omega);rw[aa5]at e1;rw[bY,if_pos o1.st]at e1;rw[ahO]at o1;have il:=h.MR;obtain⟨c2,e2,p2⟩:=rd2 n ts is t c.length c1 h hn (by omega) o1.t;have kp:c <+:c1:=by
  have k0:Kq [] c (c++[.lst []]++[.lst [.ref c.length]]):=Kq.more.trans Kq.more;refine(k0.less k1 λx hx=>?_).lH;simp only[aaI,abl,or_false]at hx;rcases hx with rfl|rfl
  .exact .inr (by omega)
  .exact .inr (aat _)
 refine⟨c2,?_,kp.trans p2⟩;have it:fJ (eV 0) [aa (.ref W),aa (.ref (c.length+1)),ae,ae] (c++[.lst []]++[.lst [.ref c.length]])=aa (⟨ts.map D.str,[(W,.lst (ts.map D.str))]⟩,c++[.lst []]++[.lst [.ref c.length]]):=tL rfl (bu (bu hW));have f:=(lE (g:=aM 2) (b:=eQ) it).trans e1;have lc:(c++[Cell.lst []]).length=c.length+1:=by simp
 have sU:=aB o1.u;have run:dF [aa (.ref W),ae,ae,ae] c=aa (.rt t,[aa (.ref W),aa (.ref (c.length+1)),wd,cd],c2):=by
  unfold dF;refine aw (σ1:=[aa (.ref W),aa (.ref (c.length+1)),ae,ae]) (c1:=c++[.lst []]++[.lst [.ref c.length]]) (by erw[iz,lc]) ?_;refine aw f ?_;have bl:bA [.ref (c.length+1)] c1=aa (.int 1,c1):=by rw[eo,sU];rfl
  erw[bl,sU,cJ,e2]
 erw[b_,run]
theorem ka(a b:List Nat):bK (a++b)=bK a++bK b:=by simp[bK]
theorem mG(n:Nat):bK (aaL n 32)=aaL n 32:=by
 induction n with
 |zero=>rfl
 |succ n ih=>rw[ab8,show(32:Nat)::aaL n 32=[32]++aaL n 32 from rfl,ka,ih];rfl
theorem o7:∀{l:List Nat},(∀k∈l,sgn k=false)->bK l=l
 |[],_=>rfl
 |k::l,h=>by
  have ih:=o7 (l:=l) λz hz=>h z (aay _ hz)
  rw[show k::l=[k]++l from rfl,ka,ih];simp[bK,h k (by simp)]
def fR(x:Str):Bool:=x=="("||x==")"||x==":"
structure zb(x:Str):Prop where
 ok:x.cps.all (λk=>decide (k<1114112))=true
 len:x.length<=16
 pos:sg x≠[]
 wd:fR x=false->∀k∈sg x,sgn k=false/\k≠32
 nl: 10∉sg x
theorem mH(h:fR x=true):∃k,sg x=[k]/\sgn k=true/\x=⟨#[k]⟩:=by
 simp only[fR,ajc,beq_iff_eq]at h;rcases h with(rfl|rfl)|rfl
 .exact⟨40,rfl,rfl,rfl⟩
 .exact⟨41,rfl,rfl,rfl⟩
 .exact⟨58,rfl,rfl,rfl⟩
theorem BR(h:fR x=true):ll x "():" =true:=by
 obtain⟨k,h1,h2,rfl⟩:=mH h;rw[vT];refine decide_eq_true ?_;have e:sg "():" =[40,41,58]:=rfl;rw[e];simp only[sgn,ajc,beq_iff_eq]at h2;simp only[aaI,abl,or_false];omega
theorem P5(h:zb x)(hx:fR x=false):ll x "():" =false:=by
 cases hb:ll x "():" with
 |false=>rfl
 |true=>
  exfalso;obtain⟨i,h1,h2⟩:=(ajW ("():":Str) x).mp hb;rw[akj,beq_iff_eq]at h2;cases hs:sg x with
  |nil=>exact h.pos hs
  |cons k r=>
   have hk:=(h.wd hx k (by rw[hs];simp)).1;have hm:k∈(("():":Str).cps.toList.drop i).take x.length:=by rw[h2];show k∈sg x;rw[hs];simp
   have:=ahp (ah2 hm);have e:("():":Str).cps.toList=[40,41,58]:=rfl;rw[e]at this;simp only[aaI,abl,or_false]at this;rcases this with rfl|rfl|rfl<;>exact absurd hk (by decide)
def Sp(l:List Nat):Prop:=l=[]\/∃r,l=32::r
theorem DU(h:zb x){l:List Nat}(hl:fR x=false->Sp l):fQ (bK (sg x)++l)=sg x::fQ l:=by
 cases hx:fR x with
 |true=>
  obtain⟨k,h1,h2,_⟩:=mH hx;have e:bK (sg x)=[32,k,32]:=by rw[h1];simp[bK,h2]
  have hk:k≠32:=by rintro rfl;exact absurd h2 (by decide)
  rw[e,h1];show fQ (32::([k]++32::l))=_;rw[oY,jJ (by simpa using λe=>hk e.symm) (by simp)]
 |false=>
  have hw:=h.wd hx;rw[o7 λk hk=>(hw k hk).1];have Jm: 32∉sg x:=λhm=>(hw 32 hm).2 rfl
  rcases hl hx with rfl|⟨r,rfl⟩
  .rw[aa5,rT Jm h.pos];rfl
  .rw[jJ Jm h.pos,oY]
def toks(x:Str):List (List Nat):=fQ (bK (sg x))
structure Tx(x:Str):Prop where
 ok:x.cps.all (λk=>decide (k<1114112))=true
 has:ll x "():" =fR x
 tok:∀l,(fR x=false->Sp l)->fQ (bK (sg x)++l)=toks x++fQ l
 nl: 10∉sg x
theorem AS(h:zb x):toks x=[sg x]:=by
 have:=DU h (l:=[]) (λ_=>.inl rfl);rw[aa5]at this;exact this
theorem zb.tx(h:zb x):Tx x:=by
 refine⟨h.ok,?_,λl hl=>by rw[DU h hl,AS h];rfl,h.nl⟩;cases e:fR x with
 |true=>exact BR e
 |false=>exact P5 h e
def Told(b:Bool)(x:Str)(pre:List (List Nat)):Prop:=∀l,(b=true->Sp l)->fQ (bK (sg x)++l)=pre++fQ l
theorem Told.more{b:Bool}{s:Str}{pre:List (List Nat)}(h:Told b x pre)(hy:Tx y)(hs:sg s=aaL n 32)(hn:b=true->fR y=false->0<n):Told (!fR y) (x++s++y) (pre++toks y):=by
 intro l hl;have e:bK (sg (x++s++y))++l=bK (sg x)++(aaL n 32++(bK (sg y)++l)):=by
  rw[dO,dO,ka,ka,hs,mG];simp
 rw[e,h _ ?_,uV,hy.tok l (λhx=>hl (by rw[hx];rfl))]
 .simp
 .intro hb
  cases n with
  |succ n=>exact .inr ⟨_,rfl⟩
  |zero=>
   cases uf:fR y with
   |false=>exact absurd (hn hb uf) (by decide)
   |true=>
    obtain⟨k,h1,h2,_⟩:=mH uf;rw[h1];exact .inr ⟨_,by simp[bK,h2];rfl⟩
theorem Told.end{b:Bool}{s:Str}{pre:List (List Nat)}(h:Told b x pre)(hs:sg s=aaL n 32):fQ (bK (sg (x++s)))=pre:=by
 have:=h (aaL n 32) (λ_=>by cases n with
  |zero=>exact .inl rfl
  |succ n=>exact .inr ⟨_,rfl⟩)
 rw[dO,ka,hs,mG,this];have e:=uV n [];rw[aa5]at e;rw[e,MK,aa5]
theorem xI(a:Str)(n:Nat):sg (cx a n)=(aaL n (sg a)).flatten:=by
 have:∀(n:Nat) (acc:Array Nat),((aaL n a.cps).foldl (·++·) acc).toList=acc.toList++(aaL n (sg a)).flatten:=by
  intro n
  induction n with
  |zero=>intro acc;simp
  |succ n ih=>intro acc;rw[ab8,aje,ih,ajf,ab8,ajX,agJ];rfl
 exact this n #[]
theorem jj(n:Nat):sg (cx " " n)=aaL n 32:=by
 rw[xI];have:sg " " =[32]:=rfl;rw[this]
 induction n with
 |zero=>rfl
 |succ n ih=>rw[ab8,ajX,ih];rfl
theorem rY{a:Str}{n:Int}(h0: 0<=n)(h1:n<=1000)(ha:a.length<=1000):gM (.str a) (.int n) c=aa (.str (cx a n.toNat),c):=by
 show(if 0<=n/\n<=1000/\a.length<=1000 then aa (D.str (cx a n.toNat),c)else ae)=_;rw[if_pos ⟨h0,h1,ha⟩]
theorem MT(a:Str):cx a 1=a:=oX (by rw[xI];simp)
theorem Jn(a:Str):cx a 0=⟨#[]⟩:=rfl
def pw(ts:List Str):Nat->Bool
 |0=>false
 |i+1=>match ts[i]? with
  |some w=>!fR w
  |none=>false
theorem DV(h:ts[i]? =aa w):pw ts (i+1)= !fR w:=by
 show(match ts[i]? with
  |some w=>!fR w
  |none=>false)=_
 rw[h]
theorem vW:iF (.str x) (.str y) c=aa (.bl (!ll x y),c):=rfl
theorem MU(h:(kh xs)[i]? =aa d):∃x,xs[i]? =aa x/\d= .tup [.int i,x]:=by
 unfold kh at h;rw[aa6,akO]at h;cases hx:xs[i]? with
 |none=>rw[hx]at h;cases h
 |some x=>rw[hx]at h;cases h;exact⟨x,rfl,by simp⟩
theorem abg{S:Nat}{gp:Int}(hS:c[S]? =aa (.lst (ts.map D.str)))(hT:∀w∈ts,Tx w)(hw:ts[i]? =aa w)(h0: 0<=gp)(h2:gp<=2):
  ∃gq,cu (dI (tV (e2 xi (eV 3) (eC (.int 0)))) (dI (tV (e2 cO (eV 5) (eC (.int 0)))) (dI (tV (e2 iF (e2 aK (eV 1) (e2 iC (eV 3) (eC (.int 1)))) (eC (.str "():")))) (tV (e2 iF (eV 4) (eC (.str "():"))))))) (aE 5 (eC (.int 1))) bz [aa (.ref l),aa (.ref S),aa (.str x),aa (.int i),aa (.str w),aa (.int gp)] c
   =aa (.nx,[aa (.ref l),aa (.ref S),aa (.str x),aa (.int i),aa (.str w),aa (.int gq)],c)/\0<=gq/\gq<=2/\(pw ts i=true->fR w=false->0<gq):=by
 have tw:=hT w (aa8 hw);cases i with
 |zero=>
  refine⟨gp,?_,h0,h2,λh=>by cases h⟩;erw[amo]
 |succ i=>
  have i1:(0:Int)<((i+1:Nat):Int):=by omega
  by_cases hg:gp=0
  .subst hg
   have hi:i<ts.length:=by have:=(aan.mp hw).1;omega
   have hv:ts[i]? =aa ts[i]:=aav hi;have tv:=hT ts[i] (ahk hi);have sS:=aB hS;have qF:eI (ts.map D.str) (((i+1:Nat):Int) - 1)=aa (.str ts[i]):=by
    rw[show((i+1:Nat):Int) - 1=((i:Nat):Int)by omega,oo (by simpa using hi)];simp
   have ep:pw ts (i+1)= !fR ts[i]:=DV hv;rw[ep];generalize ts[i]=v at*;cases hv:fR v with
   |true=>
    have e1:=BR hv;refine⟨0,?_,by decide,by decide,λh=>by cases h⟩;erw[i1,cJ,sS,qF,vW,e1]
   |false=>
    have e1:=tv.has.trans hv;cases hw':fR w with
    |true=>
     have e2:=BR hw';refine⟨0,?_,by decide,by decide,λ_ h=>by cases h⟩;erw[i1,cJ,sS,qF,vW,e1,e2]
    |false=>
     have e2:=tw.has.trans hw';refine⟨1,?_,by decide,by decide,λ_ _=>by decide⟩;erw[i1,cJ,sS,qF,vW,e1,e2]
  .refine⟨gp,?_,h0,h2,λ_ _=>by omega⟩
   erw[i1,hg]
theorem uX{s:Str}(h:sg s=aaL n 32):s.length=n:=by rw[<-cR,h,ahL]
theorem DW{S:Nat}(h:Lf l m c)(hS:c[S]? =aa (.lst (ts.map D.str)))(VM:l≠S)(hT:∀w∈ts,Tx w)(hn:(ts.map (·.length)).sum+2*ts.length<=2900):
  ∃x c',cm [.ref l,.ref S] c=aa (.str x,c')/\fQ (bK (sg x))=ts.flatMap toks/\x.length<=3000/\10∉sg x/\Lf l m c'/\Kq [l] c c':=by
 obtain⟨g0,c1,e1,g00,g01,p1,k1⟩:=fE h (k:=4) (by decide) (by decide);have S1:c1[S]? =aa (.lst (ts.map D.str)):=k1.get hS (by simpa using λe=>VM e.symm);have n0: 0<=g0 / 3:=amN g00 (by decide);have n1:g0 / 3<=1:=by omega
 have l1:(" ":Str).length<=1000:=by decide
 have m1:=rY (c:=c1) (a:=" ") n0 (by omega) l1;have d3:My.Bd 8900 (3:Int):=My.Bd.mono (wK (i:=3) (by decide)) (by decide);have hi:BD (af (eV 1) aj) [aa (.ref l),aa (.ref S),aa (.str (cx " " (g0 / 3).toNat)),ae,ae,ae] c1=aa (⟨kh (ts.map D.str),[(S,.lst (ts.map D.str))]⟩,c1):=by
  have lb:=bp S1;unfold BD;simp[S1,lb]
 have key:=iU (ks:=[(S,.lst (ts.map D.str))]) (g:=kT 2 (dY (aM 3) (dY (aM 4) kS))) (body:=ax (aE 5 (e2 aK (aL (af (eC (.int 0)) (af (eC (.int 1)) (af (eC (.int 1)) (af (eC (.int 2)) aj))))) (av au [] (af (eV 0) (af (eC (.int 4)) aj)))))
   (ax (cu (dI (tV (e2 xi (eV 3) (eC (.int 0)))) (dI (tV (e2 cO (eV 5) (eC (.int 0)))) (dI (tV (e2 iF (e2 aK (eV 1) (e2 iC (eV 3) (eC (.int 1)))) (eC (.str "():")))) (tV (e2 iF (eV 4) (eC (.str "():"))))))) (aE 5 (eC (.int 1))) bz)
   (aE 2 (e2 fM (e2 fM (eV 2) (e2 gM (e2 gM (eC (.str " ")) (eV 5)) (eB yr (af (e2 xi (eV 3) (eC (.int 0))) aj)))) (eV 4)))))
  (λi σ c'=>∃x kk pp gg,σ=[aa (.ref l),aa (.ref S),aa (.str x),kk,pp,gg]/\Told (pw ts i) x ((ts.take i).flatMap toks)/\x.length<=2+2*i+((ts.take i).map (·.length)).sum/\i<=ts.length/\10∉sg x/\Lf l m c'/\Kq [l] c1 c') (kh (ts.map D.str)) 0 [aa (.ref l),aa (.ref S),aa (.str (cx " " (g0 / 3).toNat)),ae,ae,ae] c1
  (by
   rintro i σ c' ⟨_,_,_,_,_,_,_,_,_,_,hk⟩ z hz;rw[aaq.mp hz];exact hk.get S1 (by simpa using λe=>VM e.symm)) (by
   rintro i d σ c' hd ⟨x,kk,pp,gg,rfl,ht,hx,Jo,FW,hp,hk⟩;rw[ahd]at ht hx |-
   obtain⟨dd,h1,rfl⟩:=MU hd;rw[aa6]at h1;obtain⟨w,hw,rfl⟩:=adi.mp h1;have tw:=hT w (aa8 hw);have hiw:=(aan.mp hw).1;obtain⟨g,c2,ee,ga,gb,p2,k2⟩:=fE (hp.more (zs:=[.lst ([0,1,1,2].map D.int)])) (k:=4) (by decide) (by decide);have q2:c2[c'.length]? =aa (.lst ([0,1,1,2].map D.int)):=k2.get aG (by have:=hp.lt;simp;omega);obtain⟨dn,ed,Jj⟩:=oN (xs:=[0,1,1,2].map D.int) ga (by simpa using gb);obtain⟨gp,hgp,rfl⟩:=adn.mp Jj;have abj:∀n∈([0,1,1,2]:List Int),0<=n/\n<=2:=by decide
   have Sg:=abj gp hgp;have s2:=aB q2;have k2':Kq [l] c' c2:=Kq.more.trans k2;have S2:c2[S]? =aa (.lst (ts.map D.str)):=(hk.trans k2').get S1 (by simpa using λe=>VM e.symm);obtain⟨gq,eg,gq0,gq2,gqp⟩:=abg (l:=l) (x:=x) S2 hT hw Sg.1 Sg.2;have m2:=rY (c:=c2) (a:=" ") gq0 (by omega) l1;have lr:(cx " " gq.toNat).length=gq.toNat:=uX (jj _);have m3:=rY (c:=c2) (a:=cx " " gq.toNat) (n:=if decide (0<(i:Int))=true then 1 else 0) (by split<;>decide) (by split<;>decide) (by rw[lr];omega);have tks:ts.take (i+1)=ts.take i++[w]:=by rw[amR,hw];rfl
   have lw:((ts.take (i+1)).map (·.length)).sum=((ts.take i).map (·.length)).sum+w.length:=by rw[tks];simp
   have lt2:((ts.take (i+1)).map (·.length)).sum<=(ts.map (·.length)).sum:=by
    have e:=congrArg (λl=>(l.map (·.length)).sum) (ag2 (i+1) ts);simp only[agF,List.sum_append]at e;omega
   generalize hs:cx (cx " " gq.toNat) (if decide (0<(i:Int))=true then(1:Int)else 0).toNat=s at m3;have VD:∃n,sg s=aaL n 32/\n<=2/\(0<i->n=gq.toNat):=by
    rw[<-hs]
    by_cases hi0: 0<i
    .refine⟨gq.toNat,?_,by omega,λ_=>rfl⟩
     rw[decide_eq_true (show(0:Int)<(i:Int)by omega),if_pos rfl,show(1:Int).toNat=1 from rfl,MT,jj]
    .refine⟨0,?_,by omega,λh=>absurd h hi0⟩
     rw[decide_eq_false (show ¬(0:Int)<(i:Int)by omega),if_neg abh,show(0:Int).toNat=0 from rfl,Jn];rfl
   obtain⟨n,Jp,Iy,hn3⟩:=VD;have ls:=uX Jp;have a1:=jU (x:=x) (y:=s) (c:=c2) (by omega);have a2:=jU (x:=x++s) (y:=w) (c:=c2) (by rw[len_app];omega);refine⟨_,c',[aa (.ref l),aa (.ref S),aa (.str (x++s++w)),aa (.int i),aa (.str w),aa (.int gq)],c2,rfl,?_,⟨_,_,_,_,rfl,?_,?_,by omega,?_,p2,hk.trans k2'⟩⟩
   .simp only[abk,agy]at ee s2 ed
    refine aw (σ1:=[aa (.ref l),aa (.ref S),aa (.str x),aa (.int i),aa (.str w),aa (.int gp)]) (c1:=c2) (by erw[ee,cJ,s2,ed]) ?_;refine aw eg ?_;erw[m2,m3,a1,a2]
   .have:=ht.more tw Jp (λhb hsx=>by
     cases i with
     |zero=>cases hb
     |succ i=>rw[hn3 (by omega)];have:=gqp hb hsx;omega)
    have e1:pw ts (i+1)= !fR w:=DV hw;have e2:(ts.take (i+1)).flatMap toks=(ts.take i).flatMap toks++toks w:=by
     rw[tks];simp
    rw[e1,e2];exact this
   .rw[len_app,len_app];omega
   .rw[dO,dO,Jp]
    intro hm;rcases abc.mp hm with hm|hm
    .rcases abc.mp hm with hm|hm
     .exact FW hm
     .have:=agp hm;omega
    .exact tw.nl hm) ⟨_,ae,ae,ae,rfl,by
     intro l' _;rw[jj,mG,uV];rfl,by rw[uX (jj _)];omega,ab7 _,by
     rw[jj];intro hm;have:=agp hm;omega,p1,Kq.refl _ _⟩
 obtain⟨σ',c2,ee,x,kk,pp,gg,rfl,ht,hx,_,FW,p2,k2⟩:=key;have hle:(kh (ts.map D.str)).length=ts.length:=by simp[kh]
 rw[hle,ahd]at ht hx;rw[amq]at ht hx;obtain⟨g3,c3,e3,g30,g31,p3,k3⟩:=fE p2 (k:=4) (by decide) (by decide);have n30: 0<=g3 / 3:=amN g30 (by decide);have m3:=rY (c:=c3) (a:=" ") n30 (by omega) l1;have lr3:(cx " " (g3 / 3).toNat).length=(g3 / 3).toNat:=uX (jj _);have a3:=jU (x:=x) (y:=cx " " (g3 / 3).toNat) (c:=c3) (by omega);have h3:(0:Int)<3:=by decide
 refine⟨x++cx " " (g3 / 3).toNat,c3,?_,?_,by rw[len_app];omega,?_,p3,(k1.trans k2).trans k3⟩
 .have f:=(lE (g:=kT 2 (dY (aM 3) (dY (aM 4) kS))) (b:=ax (aE 5 (e2 aK (aL (af (eC (.int 0)) (af (eC (.int 1)) (af (eC (.int 1)) (af (eC (.int 2)) aj))))) (av au [] (af (eV 0) (af (eC (.int 4)) aj)))))
   (ax (cu (dI (tV (e2 xi (eV 3) (eC (.int 0)))) (dI (tV (e2 cO (eV 5) (eC (.int 0)))) (dI (tV (e2 iF (e2 aK (eV 1) (e2 iC (eV 3) (eC (.int 1)))) (eC (.str "():")))) (tV (e2 iF (eV 4) (eC (.str "():"))))))) (aE 5 (eC (.int 1))) bz)
   (aE 2 (e2 fM (e2 fM (eV 2) (e2 gM (e2 gM (eC (.str " ")) (eV 5)) (eB yr (af (e2 xi (eV 3) (eC (.int 0))) aj)))) (eV 4))))) hi).trans ee
  have run:iI [aa (.ref l),aa (.ref S),ae,ae,ae,ae] c=aa (.rt (.str (x++cx " " (g3 / 3).toNat)),[aa (.ref l),aa (.ref S),aa (.str x),kk,pp,gg],c3):=by
   unfold iI;refine aw (σ1:=[aa (.ref l),aa (.ref S),aa (.str (cx " " (g0 / 3).toNat)),ae,ae,ae]) (c1:=c1) (by erw[e1,mB h3 d3,m1]) ?_;refine aw f ?_;erw[e3,mB h3 d3,m3,a3]
  erw[cm,run]
 .have:=Told.end ht (jj (g3 / 3).toNat)
  rw[this]
 .rw[dO,jj]
  intro hm;rcases abc.mp hm with hm|hm
  .exact FW hm
  .have:=agp hm;omega
theorem P6{i j:Int}(h:j≠0):cG (.int i) (.int j) c=aa (.int (i.fmod j),c):=by
 unfold cG;rw[BK,if_pos h];rfl
theorem DX{i j:Int}(h:j≠0)(hb:My.Bd 8900 j):eK (.int i) (.int j) c=aa (.int (i.fdiv j),c):=by
 unfold eK;rw[BK,if_pos ⟨h,hb⟩];rfl
theorem Jq{n:Int}:iV [.int n,.int m] c=aa (.int (agO n m),c):=by
 have loop:∀(k:Nat) (x y:Int) (z:Option D),y.natAbs=k->∃g z',eY (tV (e2 gG (eV 1) (eC (.int 0)))) (ax (aE 2 (e2 cG (eV 0) (eV 1))) (ax (aE 0 (eV 1)) (aE 1 (eV 2)))) [aa (.int x),aa (.int y),z] c=aa (.nx,[aa (.int g),aa (.int 0),z'],c)/\(if g<0 then -g else g)=(agO x y:Int):=by
  intro k
  induction k using Nat.strongRecOn with
  |_ k ih=>
   intro x y z hk
   by_cases h:y=0
   .subst h
    exact⟨x,z,g8 (by erw[]),(My.gcd_zero x).symm⟩
   .have lt:=My.xb x h
    obtain⟨g,z',e,r⟩:=ih (x.fmod y).natAbs (by omega) y (x.fmod y) (aa (.int (x.fmod y))) rfl;rw[My.IA]at r;exact⟨g,z',oK (c':=c) (c2:=c) (by erw[decide_eq_false h]) (by erw[P6 h]) e,r⟩
 obtain⟨g,z',e,r⟩:=loop _ n m ae rfl;erw[iV,oS,e,r]
theorem DY{n d:Int}(h:d≠0)(hb:My.Bd 8900 d):hV [.int n,.int d] c=aa (.tup [.int (My.nm n d),.int (My.dn n d)],c):=by
 have d1:=Jq (n:=n) (m:=d) (c:=c);have n0:=My.K_ (n:=n) h;have nb:My.Bd 8900 (My.sg n d):=by
  refine My.Bd.of_le hb ?_;rw[My.yg];exact Nat.le_of_dvd (by omega) (Int.natAbs_dvd_natAbs.mpr (ajN n d))
 unfold My.nm My.dn
 by_cases hd:d<0
 .have es:My.sg n d= -(agO n d:Int):=by unfold My.sg;rw[if_pos hd]
  rw[es]at n0 nb |-
  erw[hV,oe,d1,hd,DX n0 nb]
 .have es:My.sg n d=(agO n d:Int):=by unfold My.sg;rw[if_neg hd]
  rw[es]at n0 nb |-
  erw[hV,oe,d1,hd,DX n0 nb]
theorem DZ{n d:Int}(h: 0<d)(h2:d<2 ^ 40)(hg:agO n d=1):hV [.int n,.int d] c=aa (.tup [.int n,.int d],c):=by
 have e:=DY (n:=n) (d:=d) (c:=c) (by omega) (My.Bd.mono (wK (i:=d) (by omega)) (by decide));have es:My.sg n d=1:=by unfold My.sg;rw[if_neg (by omega),hg];rfl
 unfold My.nm My.dn at e;rw[es,Int.fdiv_one,Int.fdiv_one]at e;exact e
theorem Jr{A B:Int}:∀(n:Nat) (x y:Int),x.toNat<=n->0<=x->x<2 ^ 60->0<y->y<2 ^ 60->∃x' y',0<y'/\y'<2 ^ 60/\y'=(agO x y:Int)/\eY (tV (e2 gG (eV 2) (eC (.int 0)))) (Hb [2,3] (af (e2 cG (eV 3) (eV 2)) (af (eV 2) aj))) [aa (.int A),aa (.int B),aa (.int x),aa (.int y)] c=aa (.nx,[aa (.int A),aa (.int B),aa (.int x'),aa (.int y')],c):=by
 intro n
 induction n with
 |zero=>
  intro x y hn h0 h1 h2 h3;have hx:x=0:=by omega
  subst hx;exact⟨0,y,h2,h3,by rw[aiH,My.gcd_zero,if_neg (by omega)],g8 (by erw[])⟩
 |succ n ih=>
  intro x y hn h0 h1 h2 h3
  by_cases hx:x=0
  .subst hx
   exact⟨0,y,h2,h3,by rw[aiH,My.gcd_zero,if_neg (by omega)],g8 (by erw[])⟩
  .have m0:=agE y hx
   have m1:=adm y (show 0<x by omega);obtain⟨x',y',g1,g2,g3,e⟩:=ih (y % x) x (by omega) m0 (by omega) (by omega) h1;have hd:decide (x=0)=false:=decide_eq_false hx;have hp: 0<x:=by omega
   refine⟨x',y',g1,g2,by rw[g3,aiH,My.IB,aiH],oK (c':=c) (σ':=[aa (.int A),aa (.int B),aa (.int (y % x)),aa (.int x)]) (c2:=c) (by erw[hd]) (by erw[]) e⟩
theorem MV{a b:Int}(h1: -(2 ^ 50)<a)(h2:a<2 ^ 50)(h3: 0<b)(h4:b<2 ^ 50):fC [.int a,.int b] c=aa (.tup [.int (My.nm a b),.int (My.dn a b)],c):=by
 obtain⟨x',y',g1,g2,g3,e⟩:=Jr (A:=a) (B:=b) (c:=c) (if a<0 then -a else a).toNat (if a<0 then -a else a) b (aat _) (by split<;>omega) (by split<;>omega) h3 (by omega);have hb:My.Bd 8900 y':=My.Bd.mono (wK (i:=y') (by omega)) (by decide);have es:My.sg a b=y':=by
  unfold My.sg;rw[if_neg (by omega),g3];have:=My.K9 a b;rw[if_neg (show ¬b<0 by omega)]at this;rw[this]
 have ea:a / y'=My.nm a b:=by unfold My.nm;rw[es,ahW _ (by omega)]
 have eb:b / y'=My.dn a b:=by unfold My.dn;rw[es,ahW _ (by omega)]
 have run:iH [aa (.int a),aa (.int b),ae,ae] c=aa (.rt (.tup [.int (a / y'),.int (b / y')]),[aa (.int a),aa (.int b),aa (.int x'),aa (.int y')],c):=by
  unfold iH;refine aw (σ1:=[aa (.int a),aa (.int b),aa (.int (if a<0 then -a else a)),ae]) (c1:=c) (by erw[]) ?_;refine aw (σ1:=[aa (.int a),aa (.int b),aa (.int (if a<0 then -a else a)),aa (.int b)]) (c1:=c) (by erw[]) ?_;refine aw e ?_;erw[mB g1 hb]
 rw[<-ea,<-eb];erw[fC,run]
structure Nb(x y:Int):Prop where
 lo: -1000000<x
 hi:x<1000000
 pos: 0<y
 le:y<1000000
 one:agO x y=1
theorem MW{a b:Int}(h1: -1000000<a)(h2:a<1000000)(h3: 0<b)(h4:b<1000000):Nb (My.nm a b) (My.dn a b):=by
 have n1:=My.Ue (n:=a) (d:=b) (by omega);have d0:=My.OI (n:=a) (d:=b) (by omega);have d1:=My.Bn a b;have g:=My.yf (n:=a) (d:=b) (by omega);have es:My.sg a b=(agO a b:Int):=by unfold My.sg;rw[if_neg (by omega)]
 rw[es]at d1;have d2:My.dn a b<=(agO a b:Int)*My.dn a b:=by
  have:=Int.mul_le_mul_of_nonneg_right (show(1:Int)<=(agO a b:Int)by omega) (show 0<=My.dn a b by omega);omega
 exact⟨by omega,by omega,d0,by omega,My.Fh (by omega)⟩
theorem P7(h:Lf l m c):∃x y c',fq [.ref l] c=aa (.tup [.int x,.int y],c')/\Nb x y/\Lf l m c'/\Kq [l] c c':=by
 obtain⟨g1,c1,e1,a1,b1,p1,k1⟩:=fE h (k:=1999999) (by decide) (by decide);obtain⟨g2,c2,e2,a2,b2,p2,k2⟩:=fE p1 (k:=2) (by decide) (by decide);have s1:∃be c3,cu (tV (Qm.e2 cO (av au [] (af (eV 0) (af (eC (.int 2)) aj))) (eC (.int 1)))) (aE 2 (Qm.e2 bc (eC (.int 1)) (av au [] (af (eV 0) (af (eC (.int 999999)) aj))))) bz [aa (.ref l),aa (.int (g1 - 999999)),aa (.int 1)] c1=aa (.nx,[aa (.ref l),aa (.int (g1 - 999999)),aa (.int be)],c3)/\0<be/\be<1000000/\Lf l m c3/\Kq [l] c1 c3:=by
  by_cases h1:g2=1
  .subst h1
   obtain⟨g3,c3,e3,a3,b3,p3,k3⟩:=fE p2 (k:=999999) (by decide) (by decide);exact⟨1+g3,c3,by erw[e2,e3],by omega,by omega,p3,k2.trans k3⟩
  .exact⟨1,c2,by erw[e2,h1],by omega,by omega,p2,k2⟩
 obtain⟨be,c3,f1,hb0,VN,p3,k3⟩:=s1;obtain⟨g4,c4,e4,a4,b4,p4,k4⟩:=fE p3 (k:=3) (by decide) (by decide);have s2:∃ab D0,cu (tV (Qm.e2 cO (av au [] (af (eV 0) (af (eC (.int 3)) aj))) (eC (.int 0)))) (ax (aE 1 (Qm.e2 iC (Qm.e2 cG (eV 1) (eC (.int 9))) (eC (.int 4)))) (aE 2 (Qm.e2 bc (eC (.int 1)) (Qm.e2 cG (eV 2) (eC (.int 4)))))) bz [aa (.ref l),aa (.int (g1 - 999999)),aa (.int be)] c3=aa (.nx,[aa (.ref l),aa (.int ab),aa (.int D0)],c4)/\0<D0/\D0<1000000/\-1000000<ab/\ab<1000000:=by
  by_cases h1:g4=0
  .subst h1
   have m0:=agE (g1 - 999999) (show(9:Int)≠0 by decide);have m1:=adm (g1 - 999999) (show(0:Int)<9 by decide);have n0:=agE be (show(4:Int)≠0 by decide);have n1:=adm be (show(0:Int)<4 by decide);exact⟨(g1 - 999999) % 9 - 4,1+be % 4,by erw[e4],by omega,by omega,by omega,by omega⟩
  .exact⟨g1 - 999999,be,by erw[e4,h1],by omega,by omega,by omega,by omega⟩
 obtain⟨ab,D0,f2,q1,q2,q3,q4⟩:=s2;have e5:=MV (a:=ab) (b:=D0) (c:=c4) (by omega) (by omega) q1 (by omega);have nb:=MW q3 q4 q1 q2;generalize My.nm ab D0=x at e5 nb;generalize My.dn ab D0=y at e5 nb;refine⟨x,y,c4,?_,nb,p4,k1.trans (k3.trans k4)⟩;have run:ji [aa (.ref l),ae,ae] c=aa (.rt (.tup [.int x,.int y]),[aa (.ref l),aa (.int ab),aa (.int D0)],c4):=by
  unfold ji;refine aw (σ1:=[aa (.ref l),aa (.int (g1 - 999999)),ae]) (c1:=c1) (by erw[e1]) ?_;refine aw (σ1:=[aa (.ref l),aa (.int (g1 - 999999)),aa (.int 1)]) (c1:=c1) rfl ?_;refine aw f1 ?_;refine aw f2 ?_;erw[e5]
 erw[fq,run]
def qL(n:Nat):List Nat:=(Nat.toDigits 10 n).map Char.toNat
noncomputable def sI(x:Int):Str:=abV (toString x)
theorem mI(n:Nat):sg (sI (n:Int))=qL n:=PySem.W.KIN.signs_num n
theorem HF{x:Int}(h:x<0):sI x= "-"++sI (x.natAbs:Int):=by
 obtain⟨m,rfl⟩:∃m:Nat,x=Int.negSucc m:=⟨(-x - 1).toNat,by omega⟩;refine oX ?_;rw[dO,mI];show(abV ("-"++Nat.repr (m+1))).cps.toList=_;rw[signs_ofString,String.toList_append,agF,Nat.toList_repr];rfl
theorem BS{x:Int}(h: 0<=x):sI x=sI (x.natAbs:Int):=by rw[show((x.natAbs:Nat):Int)=x by omega]
theorem vX{k:Nat}(h:k∈qL n): 48<=k/\k<=57:=by
 obtain⟨ch,jY,rfl⟩:=adn.mp h;exact digit_range (Nat.isDigit_of_mem_toDigits (by decide) (by decide) jY)
theorem zd(n:Nat):qL n≠[]:=by
 intro e;have h:=PySem.W.KIN.val_back n;have hl:=Nat.toDigits_ne_nil (b:=10) (n:=n);exact hl (alg.mp e)
theorem qM(h:n<1000000):(sI (n:Int)).length<=6:=PyProof.Rows.toString_length_le (by omega) (by decide) (by omega)
noncomputable def TT(x y:Int):Str:=if y=1 then sI x else sI x++"/"++sI y
theorem mY(x:Int):sg (sI x)=(if x<0 then [45] else [])++qL x.natAbs:=by
 by_cases h:x<0
 .rw[HF h,dO,mI,if_pos h];rfl
 .rw[BS (by omega),mI,if_neg h];rfl
theorem xJ{x:Int}{k:Nat}(h:k∈sg (sI x)):k=45\/(48<=k/\k<=57):=by
 rw[mY]at h;rcases abc.mp h with h|h
 .split at h
  .exact .inl (by simpa using h)
  .cases h
 .exact .inr (vX h)
theorem mJ{x:Int}(h:x.natAbs<1000000):(sI x).length<=7:=by
 have:=qM h;rw[<-cR,mI]at this;rw[<-cR,mY,aaf];split<;>simp only[aac,aam]<;>omega
theorem uY{x y:Int}{k:Nat}(h:k∈sg (TT x y)):k=45\/(47<=k/\k<=57):=by
 unfold TT at h;split at h
 .rcases xJ h with h|h<;>omega
 .rw[dO,dO]at h
  rcases abc.mp h with h|h
  .rcases abc.mp h with h|h
   .rcases xJ h with h|h<;>omega
   .have e:sg "/" =[47]:=rfl
    rw[e]at h;have:=aaq.mp h;omega
  .rcases xJ h with h|h<;>omega
theorem MX(h:∀k∈sg x,k<1114112):x.cps.all (λk=>decide (k<1114112))=true:=fD (abD.mpr λk hk=>decide_eq_true (h k hk))
theorem BU{x y:Int}(h:Nb x y):(TT x y).length<=15:=by
 have h1:=mJ (x:=x) (by have:=h.lo;have:=h.hi;omega);have h2:=mJ (x:=y) (by have:=h.pos;have:=h.le;omega);unfold TT;split
 .omega
 .rw[len_app,len_app]
  have:("/":Str).length=1:=by decide
  omega
theorem VO{x y:Int}:sg (TT x y)≠[]:=by
 have:qL x.natAbs≠[]:=zd _;unfold TT;split
 .rw[mY];simp[this]
 .rw[dO,dO,mY];simp[this]
theorem BV{x y:Int}(h:Nb x y):zb (TT x y):=by
 refine⟨MX λk hk=>by rcases uY hk with h|h<;>omega,by have:=BU h;omega,VO,λ_ k hk=>?_,λhm=>by rcases uY hm with h|h<;>omega⟩;have:=uY hk;refine⟨?_,by omega⟩;simp only[sgn,ah3,beq_eq_false_iff_ne];omega
theorem BW{i:Int}(h:i.natAbs<10 ^ 60):vQ [.int i] c=aa (.str (sI i),c):=by
 show(if i.natAbs<10 ^ 70 then aa (D.str (abV (toString i)),c)else ae)=_;rw[if_pos (aiG h (by decide))];rfl
theorem D1{x y:Int}(h:Nb x y):cQ [.tup [.int x,.int y]] c=aa (.str (TT x y),c):=by
 have b1:=BW (i:=x) (c:=c) (aiG (show x.natAbs<1000000 by have:=h.lo;have:=h.hi;omega) (by decide));have b2:=BW (i:=y) (c:=c) (aiG (show y.natAbs<1000000 by have:=h.pos;have:=h.le;omega) (by decide));have l1:=mJ (x:=x) (by have:=h.lo;have:=h.hi;omega);have l2:=mJ (x:=y) (by have:=h.pos;have:=h.le;omega);have ls:("/":Str).length=1:=by decide
 have a1:=jU (x:=sI x) (y:="/") (c:=c) (by omega);have a2:=jU (x:=sI x++"/") (y:=sI y) (c:=c) (by rw[len_app];omega);unfold TT
 by_cases hy:y=1
 .subst hy
  erw[cQ,fv,b1]
 .erw[cQ,fv,b1,b2,hy,a1,a2]
theorem P9:qv (.int 10) (.int 60) c=aa (.int (10 ^ 60),c):=by
 unfold qv;rw[BK,if_pos (by decide)];rfl
theorem D2(h:x.length<=100):amU (abV "") [x]=true:=by
 unfold amU;have e:([x].toArray.foldl (λa y=>a+y.length+(abV "").length) 0)=x.length:=by
  show 0+x.length+(abV "").length=x.length;have:(abV "").length=0:=by decide +kernel
  omega
 rw[e];unfold aid;rw[decide_eq_false]
 .rfl
 .rw[adt];omega
theorem AU{n:Int}(h0: 0<=n)(h:n<1000000):∃z,fy [.int n] c=aa (.str (sI n),c++[z]):=by
 have hp:=P9 (c:=c);have hge:¬((10:Int) ^ 60<=n):=by
  have:(1000000:Int)<=10 ^ 60:=by decide
  omega
 have b1:=BW (i:=n) (c:=c++[.lst []]) (aiG (show n.natAbs<1000000 by omega) (by decide));have ln:=mJ (x:=n) (by omega);have ap:=dR (a:=c.length) (y:=.str (sI n)) (c:=c++[.lst []]) aG (by simp);have es:(c++[Cell.lst []]).set c.length (.lst ([]++[D.str (sI n)]))=c++[.lst [.str (sI n)]]:=by simp
 rw[es]at ap;have lc:=bp (c:=c++[.lst []]) (n:=c.length) aG;have w:eY (tV (e2 OU (eV 0) (eV 1))) (ax (de (eM bI (eV 2) (af Fy aj))) (aE 0 (e2 eK (eV 0) (eV 1)))) [aa (.int n),aa (.int (10 ^ 60)),aa (.ref c.length)] (c++[.lst []])=aa (.nx,[aa (.int n),aa (.int (10 ^ 60)),aa (.ref c.length)],c++[.lst []]):=g8 (by
  erw[decide_eq_false hge])
 have jr:rP "" (eV 2) [aa (.int n),aa (.int (10 ^ 60)),aa (.ref c.length)] (c++[.lst [.str (sI n)]])=aa (.str (sI n),c++[.lst [.str (sI n)]]):=by
  unfold rP;rw[show eV 2 [aa (.int n),aa (.int (10 ^ 60)),aa (.ref c.length)] (c++[.lst [.str (sI n)]])=aa (.ref c.length,c++[.lst [.str (sI n)]])from rfl,Zu];dsimp only
  rw[bp aG,Zu];show(if amU "" [sI n]=true then aa (D.str (akc "" [sI n]),c++[Cell.lst [.str (sI n)]])else ae)=_;rw[if_pos (D2 (by omega))];rfl
 refine⟨.lst [.str (sI n)],?_⟩;have run:lA [aa (.int n),ae,ae] c=aa (.rt (.str (sI n)),[aa (.int n),aa (.int (10 ^ 60)),aa (.ref c.length)],c++[.lst [.str (sI n)]]):=by
  unfold lA;refine aw (σ1:=[aa (.int n),aa (.int (10 ^ 60)),ae]) (c1:=c) (by rw[jI,e2_];simp only[eC_,Zu,hp];rfl) ?_;refine aw (σ1:=[aa (.int n),aa (.int (10 ^ 60)),aa (.ref c.length)]) (c1:=c++[.lst []]) (by erw[iz]) ?_;refine aw w ?_;refine aw (σ1:=[aa (.int n),aa (.int (10 ^ 60)),aa (.ref c.length)]) (c1:=c++[.lst [.str (sI n)]]) (by erw[lc,b1,ap]) ?_;rw[oQ,jr];rfl
 rw[fy,dB];simp only[aac,aam,Nat.reduceAdd,if_true,abk,agy,aim,ab8,ahf,abP,ahO,run,Zu,rQ]
theorem AV{x y:Int}(h:Nb x y):∃c',dC [.tup [.int x,.int y]] c=aa (.str (TT x y),c')/\c <+:c':=by
 have hx:x.natAbs<1000000:=by have:=h.lo;have:=h.hi;omega
 have hy:y.natAbs<1000000:=by have:=h.pos;have:=h.le;omega
 obtain⟨z1,e1⟩:=AU (n:=if x<0 then -x else x) (c:=c) (by split<;>omega) (by split<;>omega);obtain⟨z2,e2⟩:=AU (n:=y) (c:=c++[z1]) (by have:=h.pos;omega) (by have:=h.le;omega);have ln:=qM hx;have l1:=mJ (x:=x) hx;have l2:=mJ (x:=y) hy;have ls:("/":Str).length=1:=by decide
 have lm:("-":Str).length=1:=by decide
 have ea:(if x<0 then -x else x)=(x.natAbs:Int):=by split<;>omega
 rw[ea]at e1;have s1:cu (tV (Qm.e2 nV (Qm.e2 aK (eV 0) (eC (.int 0))) (eC (.int 0)))) (aE 1 (Qm.e2 fM (eC (.str "-")) (eV 1))) bz [aa (.tup [.int x,.int y]),aa (.str (sI (x.natAbs:Int)))] (c++[z1])=aa (.nx,[aa (.tup [.int x,.int y]),aa (.str (sI x))],c++[z1]):=by
  by_cases hn:x<0
  .have a1:=jU (x:="-") (y:=sI (x.natAbs:Int)) (c:=c++[z1]) (by omega)
   rw[<-HF hn]at a1;erw[hn,a1]
  .have e:=BS (x:=x) (by omega)
   rw[<-e];erw[hn]
 have a1:=jU (x:=sI x) (y:="/") (c:=c++[z1]) (by omega);have a2:=jU (x:=sI x++"/") (y:=sI y) (c:=c++[z1]++[z2]) (by rw[len_app];omega);have b0:wG [.int x] c=aa (.int (x.natAbs:Int),c):=by rw[Mw,ea]
 have b0':aE 1 (av fy [] (af (eB wG (af (Qm.e2 aK (eV 0) (eC (.int 0))) aj)) aj)) [aa (.tup [.int x,.int y]),ae] c=aa (.nx,[aa (.tup [.int x,.int y]),aa (.str (sI (x.natAbs:Int)))],c++[z1]):=by
  erw[ea,e1]
 by_cases h1:y=1
 .refine⟨c++[z1],?_,⟨_,rfl⟩⟩
  have run:eL [aa (.tup [.int x,.int y]),ae] c=aa (.rt (.str (TT x y)),[aa (.tup [.int x,.int y]),aa (.str (sI x))],c++[z1]):=by
   unfold eL TT;refine aw b0' ?_;refine aw s1 ?_;rw[if_pos h1];erw[h1]
  erw[dC,run]
 .refine⟨c++[z1]++[z2],?_,⟨[z1,z2],by simp⟩⟩
  have run:eL [aa (.tup [.int x,.int y]),ae] c=aa (.rt (.str (TT x y)),[aa (.tup [.int x,.int y]),aa (.str (sI x++"/"++sI y))],c++[z1]++[z2]):=by
   unfold eL TT;refine aw b0' ?_;refine aw s1 ?_;rw[if_neg h1];erw[h1,a1,e2,a2]
  erw[dC,run]
theorem ze{k:Nat}(h:k∉sg x):abp x ⟨#[k]⟩=(x,aij,aij):=by
 unfold abp;rcases amr x ⟨#[k]⟩ 1 (aat _)with⟨e,_⟩|⟨i,r,e,ha,_⟩
 .rw[e]
 .exact absurd (aa8 ((ahU x k i).mp ha)) h
theorem D3{k:Nat}{a b:List Nat}(h:sg x=a++k::b)(hk:k∉a):abp x ⟨#[k]⟩=(i_ a,⟨#[k]⟩,i_ b):=by
 unfold abp;rcases amr x ⟨#[k]⟩ 1 (aat _)with⟨e,hn⟩|⟨i,r,e,ha,hf⟩
 .exact absurd ((ahU x k a.length).mpr (by show(sg x)[a.length]? =aa k;rw[h];simp)) (hn a.length)
 .have h1:(sg x)[i]? =aa k:=(ahU x k i).mp ha
  have hi:i=a.length:=by
   rcases al4 i a.length with hl|he|hg
   .rw[h,abi hl]at h1
    exact absurd (aa8 h1) hk
   .exact he
   .exact absurd ((ahU x k a.length).mpr (by show(sg x)[a.length]? =aa k;rw[h];simp)) (hf a.length hg)
  rw[e];dsimp only
  have e1:ain x 0 i=i_ a:=oX (by
   show(ain x 0 i).cps.toList=_;rw[akI,i_,lF];show((sg x).drop 0).take (i - 0)=a;rw[h,hi];simp)
  have e2:ain x (i+(⟨#[k]⟩:Str).length) x.length=i_ b:=oX (by
   show(ain x (i+1) x.length).cps.toList=_;rw[akI,i_,lF];show((sg x).drop (i+1)).take (x.length - (i+1))=b;rw[<-cR,h,hi];have:(a++k::b).drop (a.length+1)=b:=by rw[akk];simp
   rw[this];refine agQ ?_;simp only[aaf,aac];omega)
  rw[e1,e2]
theorem tO{k:Nat}{r:List Nat}(h:sg x=k::r):ail x (aa 1) ae=i_ r:=by
 have hl: 1<=x.length:=by rw[<-cR,h];simp
 have e:ail x (aa 1) ae=al8 x (aa ((1:Nat):Int)) (aa ((x.length:Nat):Int)):=by
  unfold ail al8;rw[StrLaws.sliceIdx_none_hi];rfl
 rw[e,StrLaws.sliceText_nat x hl (aat _)];refine oX ((lF _).trans ?_);rw[show sg (i_ r)=r from lF r,<-cR];show((sg x).drop 1).take ((sg x).length - 1)=r;rw[h];simp
theorem wL(x:Str)(k:Nat):abY x ⟨#[k]⟩=decide ((sg x)[0]? =aa k):=by
 rw[agM,decide_eq_true_eq];unfold abY;rw[abw,decide_eq_true_eq];exact ahU x k 0
theorem AW:∀k∈sg (sI (n:Int)),k∈sg "0123456789"/\k<128:=by
 intro k hk;rw[mI]at hk;have:=vX hk;have e:sg "0123456789" =amM 48 10:=by decide
 exact⟨by rw[e];exact ajU.mpr ⟨by omega,by omega⟩,by omega⟩
theorem D4(n:Nat): 1<=(sI (n:Int)).length:=by
 rw[<-cR,mI];exact alh.mpr (zd n)
theorem MY{l:List Nat}(h:l=qL n):i_ l=sI (n:Int):=by rw[h,<-mI,rV]
theorem Js{x y:Int}(h:Nb x y):∃c',cB [.str (TT x y)] c=aa (.tup [.int x,.int y],c')/\c <+:c':=by
 have hx:x.natAbs<1000000:=by have:=h.lo;have:=h.hi;omega
 have hy:y.natAbs<1000000:=by have:=h.pos;have:=h.le;omega
 have hy0:=h.pos;have ey:((y.natAbs:Nat):Int)=y:=by omega
 have lt:=BU h;have l1:=mJ (x:=x) hx;have l7:=qM hx;have l8:=qM hy;have n47: 47∉sg (sI x):=λhm=>by rcases xJ hm with h|h<;>omega
 have fs:("/":Str)=⟨#[47]⟩:=rfl;have fm:("-":Str)=⟨#[45]⟩:=rfl
 -- oF parts
 obtain⟨sep,be,ep,hse⟩:∃sep be:Str,abp (TT x y) "/" =(sI x,sep,be)/\((y=1/\sep.length=0)\/(y≠1/\sep.length=1/\be=sI (y.natAbs:Int))):=by
  rw[fs]
  by_cases h1:y=1
  .refine⟨aij,aij,?_,.inl ⟨h1,rfl⟩⟩
   unfold TT;rw[if_pos h1];exact ze n47
  .refine⟨⟨#[47]⟩,sI y,?_,.inr ⟨h1,rfl,by rw[ey]⟩⟩
   have e:sg (TT x y)=sg (sI x)++47::sg (sI y):=by
    unfold TT;rw[if_neg h1,dO,dO];show sg (sI x)++[47]++sg (sI y)=_;simp
   have:=D3 e n47;rw[rV,rV]at this;exact this
 have mp:vP (.str (TT x y)) [.str "/"] c=aa (.tup [.str (sI x),.str sep,.str be],c):=by
  show(if ("/":Str).length≠0/\(TT x y).length<=100000 then aa (D.tup [.str (abp (TT x y) "/").1,.str (abp (TT x y) "/").2.1,.str (abp (TT x y) "/").2.2],c)else ae)=_;rw[if_pos ⟨by decide,by omega⟩,ep]
 -- oF sign
 have i6:abY (TT x y) "-" =decide (x<0):=by
  rw[fm,wL];have hd:=zd x.natAbs;have e:∃r,sg (TT x y)=sg (sI x)++r:=by
   unfold TT;split
   .exact⟨[],by simp⟩
   .exact⟨sg "/"++sg (sI y),by rw[dO,dO,agJ]⟩
  obtain⟨r,er⟩:=e
  by_cases hn:x<0
  .rw[decide_eq_true hn,er,mY,if_pos hn]
   exact decide_eq_true rfl
  .rw[decide_eq_false hn,er,mY,if_neg hn]
   cases hq:qL x.natAbs with
   |nil=>exact absurd hq hd
   |cons a b=>
    refine decide_eq_false ?_;have:=vX (n:=x.natAbs) (k:=a) (by rw[hq];simp);simp;omega
 have ms:∀c:Cells,e_ (.str (TT x y)) [.str "-"] c=aa (.bl (decide (x<0)),c):=λc=>by
  show aa (D.bl (abY (TT x y) "-"),c)=_;rw[i6]
 have ab:lY (tV (ki e_ (eV 0) (af (eC (.str "-")) aj))) (kC (e2 aK (eV 1) (eC (.int 0)))) (e2 aK (eV 1) (eC (.int 0))) [aa (.str (TT x y)),aa (.tup [.str (sI x),.str sep,.str be]),ae,ae,ae] c=aa (.str (sI (x.natAbs:Int)),c):=by
  have t1:ki e_ (eV 0) (af (eC (.str "-")) aj) [aa (.str (TT x y)),aa (.tup [.str (sI x),.str sep,.str be]),ae,ae,ae] c=aa (.bl (decide (x<0)),c):=by erw[ki,iu,ms]
  by_cases hn:x<0
  .have r1:kC (e2 aK (eV 1) (eC (.int 0))) [aa (.str (TT x y)),aa (.tup [.str (sI x),.str sep,.str be]),ae,ae,ae] c=aa (.str (sI (x.natAbs:Int)),c):=by
    unfold kC;have g0:e2 aK (eV 1) (eC (.int 0)) [aa (.str (TT x y)),aa (.tup [.str (sI x),.str sep,.str be]),ae,ae,ae] c=aa (.str (sI x),c):=by erw[]
    rw[g0,Zu];show(if (sI x).length<=100000 then aa (D.str (ail (sI x) (aa 1) ae),c)else ae)=_;rw[if_pos (by omega)];have e1:sg (sI x)=45::qL x.natAbs:=by rw[mY,if_pos hn];rfl
    rw[tO e1,MY rfl]
   erw[t1,hn,r1]
  .have e:=BS (x:=x) (by omega)
   rw[<-e];erw[t1,hn]
 have bl:lY (mV (e2 aK (eV 1) (eC (.int 1)))) (e2 aK (eV 1) (eC (.int 2))) (eC (.str "1")) [aa (.str (TT x y)),aa (.tup [.str (sI x),.str sep,.str be]),aa (.str (sI (x.natAbs:Int))),ae,ae] c=aa (.str (sI (y.natAbs:Int)),c):=by
  have g1:e2 aK (eV 1) (eC (.int 1)) [aa (.str (TT x y)),aa (.tup [.str (sI x),.str sep,.str be]),aa (.str (sI (x.natAbs:Int))),ae,ae] c=aa (.str sep,c):=by erw[]
  have t1:mV (e2 aK (eV 1) (eC (.int 1))) [aa (.str (TT x y)),aa (.tup [.str (sI x),.str sep,.str be]),aa (.str (sI (x.natAbs:Int))),ae,ae] c=aa (((sep.length:Int) != 0),c):=by
   unfold mV;rw[g1,Zu];dsimp only
   rw[if_pos (by rcases hse with⟨_,h⟩|⟨_,h,_⟩<;>omega)]
  rcases hse with⟨h1,h2⟩|⟨h1,h2,rfl⟩
  .have e1:sI (y.natAbs:Int)= "1":=by subst h1;refine oX ?_;rw[mI];decide
   rw[e1];rw[h2]at t1;have:(((0:Nat):Int) != 0)=false:=rfl;rw[this]at t1;erw[t1]
  .rw[h2]at t1
   have:(((1:Nat):Int) != 0)=true:=rfl;rw[this]at t1;erw[t1]
 obtain⟨z1,m1⟩:=FU (signs:="0123456789") (x:=sI (x.natAbs:Int)) (most:=6) (c:=c) AW (D4 _) (by omega) (by omega);obtain⟨z2,m2⟩:=FU (signs:="0123456789") (x:=sI (y.natAbs:Int)) (most:=6) (c:=c++[z1]) AW (D4 _) (by omega) (by omega);have i1:∀(n:Nat) (c:Cells),n<1000000->jf [.str (sI (n:Int))] c=aa (.int n,c):=λn c hn=>by
  have:=qM hn;show(if (sI (n:Int)).length<=640 then(ahC (sI (n:Int))).bind λn=>aa (D.int n,c)else ae)=_;rw[if_pos (by omega)];have e:ahC (sI (n:Int))=aa (n:Int):=PySem.W.KIN.num_reads (by omega) (by omega);rw[e];rfl
 have iy:∀c,jf [.str (sI (y.natAbs:Int))] c=aa (.int y,c):=λc=>by rw[i1 y.natAbs c hy,ey]
 have ix:∀c,jf [.str (sI (x.natAbs:Int))] c=aa (.int (x.natAbs:Int),c):=λc=>i1 x.natAbs c hx
 have nu:=DZ (c:=c++[z1]++[z2]) (n:=x) (d:=y) hy0 (by have:=h.le;omega) h.one;obtain⟨c3,nt,p3⟩:=AV (c:=c++[z1]++[z2]) h;have eq:=gU (c:=c3) (x:=TT x y) (y:=TT x y) (BV h).ok (BV h).ok;rw[decide_eq_true rfl]at eq;have UP:decide (y=0)=false:=decide_eq_false (by omega);refine⟨c3,?_,?_⟩
 .have run:dD [aa (.str (TT x y)),ae,ae,ae,ae] c=aa (.rt (.tup [.int x,.int y]),[aa (.str (TT x y)),aa (.tup [.str (sI x),.str sep,.str be]),aa (.str (sI (x.natAbs:Int))),aa (.str (sI (y.natAbs:Int))),aa (.tup [.int x,.int y])],c3):=by
   unfold dD;refine aw (σ1:=[aa (.str (TT x y)),aa (.tup [.str (sI x),.str sep,.str be]),ae,ae,ae]) (c1:=c) (by erw[ki,iu,mp]) ?_;refine aw (σ1:=[aa (.str (TT x y)),aa (.tup [.str (sI x),.str sep,.str be]),aa (.str (sI (x.natAbs:Int))),ae,ae]) (c1:=c) (by rw[jI,ab];rfl) ?_;refine aw (σ1:=[aa (.str (TT x y)),aa (.tup [.str (sI x),.str sep,.str be]),aa (.str (sI (x.natAbs:Int))),aa (.str (sI (y.natAbs:Int))),ae]) (c1:=c) (by rw[jI,bl];rfl) ?_;refine aw (σ1:=[aa (.str (TT x y)),aa (.tup [.str (sI x),.str sep,.str be]),aa (.str (sI (x.natAbs:Int))),aa (.str (sI (y.natAbs:Int))),ae]) (c1:=c++[z1]++[z2]) (by erw[m1,m2,iy,UP]) ?_;have t1:ki e_ (eV 0) (af (eC (.str "-")) aj) [aa (.str (TT x y)),aa (.tup [.str (sI x),.str sep,.str be]),aa (.str (sI (x.natAbs:Int))),aa (.str (sI (y.natAbs:Int))),ae] (c++[z1]++[z2])=aa (.bl (decide (x<0)),c++[z1]++[z2]):=by erw[ki,iu,ms]
   refine aw (σ1:=[aa (.str (TT x y)),aa (.tup [.str (sI x),.str sep,.str be]),aa (.str (sI (x.natAbs:Int))),aa (.str (sI (y.natAbs:Int))),aa (.tup [.int x,.int y])]) (c1:=c++[z1]++[z2]) ?_ ?_
   .by_cases hn:x<0
    .have e1: -((x.natAbs:Nat):Int)=x:=by omega
     erw[t1,hn,ix,e1,iy,nu]
    .have e1:((x.natAbs:Nat):Int)=x:=by omega
     have ix':∀c,jf [.str (sI (x.natAbs:Int))] c=aa (.int x,c):=λc=>(ix c).trans (by rw[e1])
     erw[t1,hn,ix',iy,nu]
   .erw[nt,eq]
  erw[cB,run]
 .exact((abn c [z1]).trans (abn _ [z2])).trans p3
theorem zf(hx:x.cps.all (λk=>decide (k<1114112))=true)(hy:y.cps.all (λk=>decide (k<1114112))=true):gG (.str x) (.str y) c=aa (.bl (!decide (x=y)),c):=by
 have:vH (.str x) (.str y) c=(data c 6 (.str x)).bind λd=>(data c 6 (.str y)).bind λe=>aa (@decide (d=e) (adp _)):=rfl
 unfold gG;rw[this,cq hx,cq hy];simp
theorem HG{α:Type}{xs:List α}{y z:α}:eI (xs++[y,z]) (-1)=aa z:=by
 rw[show xs++[y,z]=(xs++[y])++[z] by simp];exact iY
theorem BX{α:Type}{xs:List α}{y z:α}:eI (xs++[y,z]) (-2)=aa y:=by
 have h1:qw (xs++[y,z]).length (-2)=aa xs.length:=by
  have hl:(xs++[y,z]).length=xs.length+2:=by simp
  unfold qw;rw[if_neg (by decide),hl,if_pos (by omega)]
  congr 1;omega
 unfold eI;rw[h1];simp
theorem HH{α:Type}{xs:List α}{y z:α}:Qm.cutD (xs++[y,z]) ae (aa (-2))=xs:=by
 have hl:(xs++[y,z]).length=xs.length+2:=by simp
 unfold Qm.cutD;have e1:yq (xs++[y,z]).length 0 ae=0:=rfl;have e2:yq (xs++[y,z]).length (xs++[y,z]).length (aa (-2))=xs.length:=by
  show(if (-2:Int)<0 then((-2:Int)+((xs++[y,z]).length:Nat)).toNat else min (-2:Int).toNat (xs++[y,z]).length)=_;rw[if_pos (by decide),hl];omega
 rw[e1,e2];simp
def rl(r:D×Int×Int):D:=.tup [r.1,.tup [.int r.2.1,.int r.2.2]]
theorem uZ:(":":Str).cps.all (λk=>decide (k<1114112))=true:=fD (by decide)
theorem VP{t:D}{a b:Int}(hl:x.length<=3000)(hw:fQ (bK (sg x))=(ts++[(":":Str),TT a b]).map sg)(hx:Ex 2 n ts is t)(hn:n<=40)(ht:ts.length<=500)(hb:Nb a b):
  ∃c',cy [.str x] c=aa (rl (t,a,b),c')/\c <+:c':=by
 obtain⟨z,e1⟩:=BN (c:=c) hl;have ew:(fQ (bK (sg x))).map (λp=>D.str (i_ p))=ts.map D.str++[.str ":",.str (TT a b)]:=by
  rw[hw,ajx,show((λp=>D.str (i_ p)) ∘ sg)=D.str from funext λz=>by simp[rV]];simp
 rw[ew]at e1;generalize iw:c++[z,Cell.lst (ts.map D.str++[.str ":",.str (TT a b)])]=c1 at e1;have w1:c1[c.length+1]? =aa (.lst (ts.map D.str++[.str ":",.str (TT a b)])):=by rw[<-iw];simp
 have p1:c <+:c1:=⟨_,iw⟩;have s1:=aB w1;have bl:bA [.ref (c.length+1)] c1=aa (.int ((ts.length+2:Nat):Int),c1):=by
  rw[eo,s1];simp
 have h2:¬(((ts.length+2:Nat):Int)<2):=by omega
 have MZ:eI (ts.map D.str++[.str ":",.str (TT a b)]) (-2)=aa (.str ":"):=BX;have VQ:eI (ts.map D.str++[.str ":",.str (TT a b)]) (-1)=aa (.str (TT a b)):=HG;have ne:=zf (c:=c1) uZ uZ;rw[show(!decide ((":":Str)= ":"))=false by decide]at ne;have gc:=kO (lo:=ae) (hi:=aa (-2)) w1;rw[HH]at gc;have o2:bF (Qm.e1 ez (eC (.int 2))) [aa (.str x),aa (.ref (c.length+1)),ae,ae] c1=aa (aa (-2),c1):=jK rfl;obtain⟨c2,e2,p2⟩:=DT (c:=c1++[.lst (ts.map D.str)]) hx hn ht aG;have FD:c1 <+:c2:=(abn c1 _).trans p2;have s2:=aB (a_ FD w1);obtain⟨c3,e3,p3⟩:=Js (c:=c2) hb;obtain⟨xs,rfl⟩:=fH hx.tr;refine⟨c3,?_,p1.trans (FD.trans p3)⟩;have run:et [aa (.str x),ae,ae,ae] c=aa (.rt (rl (.tup xs,a,b)),[aa (.str x),aa (.ref (c.length+1)),aa (.tup xs),aa (.tup [.int a,.int b])],c3):=by
  unfold et;refine aw (σ1:=[aa (.str x),aa (.ref (c.length+1)),ae,ae]) (c1:=c1) (by erw[e1]) ?_;refine aw (σ1:=[aa (.str x),aa (.ref (c.length+1)),ae,ae]) (c1:=c1) (by erw[bl,decide_eq_false h2,cJ,s1,MZ,ne]) ?_;refine aw (σ1:=[aa (.str x),aa (.ref (c.length+1)),aa (.tup xs),ae]) (c1:=c2) (by erw[o2,gc,e2]) ?_;refine aw (σ1:=[aa (.str x),aa (.ref (c.length+1)),aa (.tup xs),aa (.tup [.int a,.int b])]) (c1:=c3) (by erw[cJ,s2,VQ,e3]) ?_;erw[rX,rl]
 erw[cy,run]
def asc(x:Str):Prop:=∀k∈sg x,k<128
def eR(signs x:Str)(most:Int):Bool:=decide (1<=x.length/\(x.length:Int)<=most)&&(sg x).all λk=>decide (k∈sg signs)
theorem vY{signs:Str}{most:Int}(h:asc x)(h3:x.length<=9000):∃c',bM [.str signs,.str x,.int most] c=aa (.bl (eR signs x most),c')/\c <+:c':=by
 have hl:BF [.str x] c=aa (.int x.length,c):=by
  show(if x.length<=dJ then aa (D.int x.length,c)else ae)=_;rw[if_pos (cW (by omega))]
 have hb:x.cps.all (λk=>decide (k<128))=true:=by
  rw[<-aki];exact abD.mpr λk hk=>decide_eq_true (h k hk)
 have it:rO (eV 1) [aa (.str signs),aa (.str x),aa (.int most)] c=aa (⟨(sg x).map λk=>.str ⟨#[k]⟩,[]⟩,c):=by
  show(if x.length<=100000/\x.cps.all (λk=>decide (k<128))=true then aa ((⟨x.cps.toList.map λk=>D.str ⟨#[k]⟩,[]⟩:Itm),c)else ae)=_;rw[if_pos ⟨by omega,hb⟩];rfl
 have cf:=y0 (it:=rO (eV 1)) (cap:=[ae,aa 0]) (tt:=jB) (te:=e2 wI (eV 0) (eV 1)) (ρ:=[aa (.str signs)]) (x:=ae) (λ_:Nat=>true) (λk=>D.bl (decide (k∈sg signs))) it rfl (λp hp=>nomatch hp) (λz hz c' _=>rfl) (λz hz c' _=>by
  show aa (D.bl (ll ⟨#[z]⟩ signs),c')=_;rw[vT]) (by rw[cR];omega)
 have e1:(amL (λ_:Nat=>true) (sg x)).map (λk=>D.bl (decide (k∈sg signs)))=((sg x).map λk=>decide (k∈sg signs)).map D.bl:=by
  rw[alf.mpr (λ_ _=>rfl),ajx];rfl
 rw[e1]at cf;have ba:=MM (n:=c.length) (bs:=(sg x).map λk=>decide (k∈sg signs)) (c:=c++[.lst (((sg x).map λk=>decide (k∈sg signs)).map D.bl)]) aG;have e2:((sg x).map λk=>decide (k∈sg signs)).all id=(sg x).all λk=>decide (k∈sg signs):=by
  rw[List.all_map];rfl
 rw[e2]at ba;unfold eR
 by_cases a1:(1:Int)<=(x.length:Int)
 .by_cases a2:(x.length:Int)<=most
  .refine⟨c++[.lst (((sg x).map λk=>decide (k∈sg signs)).map D.bl)],?_,abn _ _⟩
   rw[decide_eq_true (show 1<=x.length/\(x.length:Int)<=most from⟨by omega,a2⟩),am4];rw[bM,dB,fA];erw[hl,a1,a2,cf,ba,mj]
  .refine⟨c,?_,aio⟩
   rw[decide_eq_false (show ¬(1<=x.length/\(x.length:Int)<=most)from λz=>a2 z.2),aiC];rw[bM,dB,fA];erw[hl,a1,a2,mj]
 .refine⟨c,?_,aio⟩
  rw[decide_eq_false (show ¬(1<=x.length/\(x.length:Int)<=most)from λz=>a1 (by omega)),aiC];rw[bM,dB,fA];erw[hl,a1,mj]
def df(x:Str):Bool:=eR "abcdefghijklmnopqrstuvwxyz" x 8&&!decide (x∈(["and","or","not","any"]:List Str))
theorem mK(h:asc x):x.cps.all (λk=>decide (k<1114112))=true:=MX λk hk=>by have:=h k hk;omega
theorem Jt(h:asc x)(h3:x.length<=9000):∃c',bQ [.str x] c=aa (.bl (df x),c')/\c <+:c':=by
 obtain⟨c1,e1,p1⟩:=vY (signs:="abcdefghijklmnopqrstuvwxyz") (most:=8) (c:=c) h h3;have e:fX [.str x] c=aa (.bl (eR "abcdefghijklmnopqrstuvwxyz" x 8),c1):=by
  rw[fX,dB,lC];erw[e1]
 have nk:ly ["and","or","not","any"] (eV 0) [aa (.str x)] c1=aa (.bl (!decide (x∈(["and","or","not","any"]:List Str))),c1):=by
  unfold ly;rw[show eV 0 [aa (.str x)] c1=aa (.str x,c1)from rfl,Zu];dsimp only
  rw[cq (mK h),Zu]
  by_cases hx:x∈(["and","or","not","any"]:List Str)
  .have:ahs x∈(["and","or","not","any"]:List Str).map ahs:=ajg hx
   simp only[this,hx,decide_true]
  .have:¬ahs x∈(["and","or","not","any"]:List Str).map ahs:=by
    intro hm;obtain⟨y,hy,e⟩:=adn.mp hm;cases e;exact hx hy
   simp only[this,hx,decide_false]
 have ix:lh [.str x,.ty "str"] c=aa (.bl true,c):=by simp[lh,two,mU,lg]
 refine⟨c1,?_,p1⟩;rw[bQ,dB,eT];unfold df;cases hm:eR "abcdefghijklmnopqrstuvwxyz" x 8 with
 |true=>
  rw[hm]at e;rw[am4];erw[ix,e,nk]
 |false=>
  rw[hm]at e;rw[aiC];erw[ix,e]
theorem Ju:bQ [.tup xs] c=aa (.bl false,c):=by
 have ix:lh [.tup xs,.ty "str"] c=aa (.bl false,c):=by simp[lh,two,mU,lg]
 rw[bQ,dB,eT];erw[ix]
inductive Im:D->Prop
 |str {x:Str}:asc x->x.length<=9000->Im (.str x)
 |tr {t:D}:Tr 40 t->Im t
theorem Im.it(h:Im d):It d:=by
 cases h with
 |str h _=>exact .str (mK h)
 |tr h=>exact .tr h
theorem Im.HI(h:Im d):(∃x,d= .str x/\asc x/\x.length<=9000)\/∃xs,d= .tup xs/\Tr 40 d:=by
 cases h with
 |str h1 h2=>exact .inl ⟨_,rfl,h1,h2⟩
 |tr h=>obtain⟨xs,e⟩:=fH h;exact .inr ⟨xs,e,h⟩
def fF:List D->D
 |[.str x]=>if x= "any" then .tup [.str "any"] else .aA
 |[.tup xs]=>.tup xs
 |[.str x,.str y]=>if (df x&&df y)=true then .tup [.str "is",.str x,.str y] else .aA
 |_=>.aA
theorem P_(h:It d):∃p,data c 59 d=aa p/\(p= .str "any"↔d= .str "any"):=by
 cases h with
 |@str y hy=>exact⟨.str y,cq hy,by constructor<;>(intro e;cases e;rfl)⟩
 |tr ht=>
  obtain⟨ds,e⟩:=oi (c:=c) ht 59 (by decide);obtain⟨xs,rfl⟩:=fH ht;exact⟨.tuple ds,e,by constructor<;>(intro e;cases e)⟩
theorem zg{c:Cells}:∀{is:List D},(∀d∈is,It d)->∃ps,omap (data c 59) is=aa ps/\ps.length=is.length
 |[],_=>⟨[],rfl,rfl⟩
 |d::is,h=>by
  obtain⟨p,e,_⟩:=P_ (c:=c) (h d (by simp));obtain⟨ps,e2,l⟩:=zg (c:=c) (is:=is) λz hz=>h z (aay _ hz)
  exact⟨p::ps,by unfold omap;rw[e,e2];rfl,by simp[l]⟩
theorem Jv(h:∀d∈is,Im d)(hl:is.length<=1000)(hs:c[s]? =aa (.lst is)):∃c',aU [.ref s] c=aa (fF is,c')/\c <+:c':=by
 have a1:(c++[Cell.lst [.str "any"]])[c.length]? =aa (.lst [.str "any"]):=aG;have s1:=bu (zs:=[Cell.lst [.str "any"]]) hs;have o1:omap (data (c++[Cell.lst [.str "any"]]) 59) [.str "any"]=aa [.str "any"]:=tM (cq oZ);have q1:=aB s1;have bl:bA [.ref s] (c++[Cell.lst [.str "any"]])=aa (.int is.length,c++[Cell.lst [.str "any"]]):=by rw[eo,q1];rfl
 generalize iw:c++[Cell.lst [.str "any"]]=c1 at*;have p1:c <+:c1:=⟨_,iw⟩
 match is,h,hl,s1,q1,bl with
 |[],h,_,s1,q1,bl=>
  have eq:=ic s1 a1 (show omap (data c1 59) []=aa [] from rfl) o1 false (by simp);refine⟨c1,?_,p1⟩;rw[aU,dB,bx];erw[iw,eq,bl,amo];rfl
 |[d],h,_,s1,q1,bl=>
  have i0:aK (.ref s) (.int 0) c1=aa (d,c1):=by rw[cJ,q1];rfl
  have kZ:bA [.ref s] c1=aa (.int 1,c1):=bl;rcases(h d (by simp)).HI with⟨x,rfl,hx,hlx⟩|⟨xs,rfl,ht⟩
  .by_cases ha:x= "any"
   .subst ha
    have eq:=ic s1 a1 (tM (cq oZ)) o1 true (by simp);refine⟨c1,?_,p1⟩;rw[aU,dB,bx];erw[iw,eq];rfl
   .have eq:=ic s1 a1 (tM (cq (mK hx))) o1 false (by simpa using ha)
    have x4:lh [.str x,.ty "tuple"] c1=aa (.bl false,c1):=by simp[lh,two,mU,lg]
    refine⟨c1,?_,p1⟩;have e:fF [.str x]= .aA:=if_neg ha;rw[e,aU,dB,bx];erw[iw,eq,kZ,i0,x4]
  .obtain⟨ds,e⟩:=oi (c:=c1) ht 59 (by decide)
   have eq:=ic s1 a1 (tM e) o1 false (by simp);have x4:lh [.tup xs,.ty "tuple"] c1=aa (.bl true,c1):=by simp[lh,two,mU,lg]
   refine⟨c1,?_,p1⟩;rw[aU,dB,bx];erw[iw,eq,kZ,i0,x4];rfl
 |d::e::f::r,h,_,s1,q1,bl=>
  obtain⟨ps,e1,l1⟩:=zg (c:=c1) (is:=d::e::f::r) λz hz=>(h z hz).it
  have eq:=ic s1 a1 e1 o1 false (by
   constructor
   .intro z;cases z
   .intro z;rw[z]at l1;simp at l1)
  have n1:¬(((d::e::f::r).length:Int)=1):=by simp only[aac];omega
  have n2:¬(((d::e::f::r).length:Int)=2):=by simp only[aac];omega
  have eb:fF (d::e::f::r)= .aA:=by unfold fF;split<;>first|rfl|(rename_i h;cases h)
  generalize (((d::e::f::r).length:Nat):Int)=L at bl n1 n2;refine⟨c1,?_,p1⟩;rw[eb,aU,dB,bx];erw[iw,eq,bl,n1,n2]
 |[d,e],h,_,s1,q1,bl=>
  have kZ:bA [.ref s] c1=aa (.int 2,c1):=bl;obtain⟨ps,e1,l1⟩:=zg (c:=c1) (is:=[d,e]) λz hz=>(h z hz).it
  have eq:=ic s1 a1 e1 o1 false (by
   constructor
   .intro z;cases z
   .intro z;rw[z]at l1;simp at l1)
  have i0:∀c2,c1 <+:c2->aK (.ref s) (.int 0) c2=aa (d,c2):=λc2 hp=>by rw[cJ,aB (a_ hp s1)];rfl
  have i1:∀c2,c1 <+:c2->aK (.ref s) (.int 1) c2=aa (e,c2):=λc2 hp=>by rw[cJ,aB (a_ hp s1)];rfl
  have fr:∀{z:D} (c2:Cells),Im z->∃b c3,bQ [z] c2=aa (.bl b,c3)/\c2 <+:c3/\(b=true↔∃x,z= .str x/\df x=true):=λ{z} c2 hz=>by
   rcases hz.HI with⟨x,rfl,hx,hlx⟩|⟨xs,rfl,_⟩
   .obtain⟨c3,e3,p3⟩:=Jt (c:=c2) hx hlx
    exact⟨_,c3,e3,p3,λhb=>⟨x,rfl,hb⟩,λ⟨y,e,hb⟩=>by cases e;exact hb⟩
   .exact⟨false,c2,Ju,aio,λz=>(by cases z),λ⟨y,e,_⟩=>(by cases e)⟩
  obtain⟨b1,c2,f1,p2,VN⟩:=fr (z:=d) c1 (h d (by simp));have j0:=i0 c1 aio;cases b1 with
  |false=>
   have eb:fF [d,e]= .aA:=by
    unfold fF;split
    .simp at*
    .simp at*
    .rename_i x y H_
     cases H_;rw[if_neg];intro hb;exact absurd (VN.mpr ⟨x,rfl,(ag7.mp hb).1⟩) (by decide)
    .rfl
   refine⟨c2,?_,p1.trans p2⟩;rw[eb,aU,dB,bx];erw[iw,eq,kZ,j0,f1]
  |true=>
   obtain⟨x,rfl,hx⟩:=VN.mp rfl;obtain⟨b2,c3,f2,p3,hb2⟩:=fr (z:=e) c2 (h e (by simp));have j1:=i1 c2 p2;have Qa:=p2.trans p3;cases b2 with
   |false=>
    have eb:fF [.str x,e]= .aA:=by
     unfold fF;split
     .simp at*
     .simp at*
     .rename_i x' y H_
      cases H_;rw[if_neg];intro hb;exact absurd (hb2.mpr ⟨y,rfl,(ag7.mp hb).2⟩) (by decide)
     .rfl
    refine⟨c3,?_,p1.trans Qa⟩;rw[eb,aU,dB,bx];erw[iw,eq,kZ,j0,f1,j1,f2]
   |true=>
    obtain⟨y,rfl,hy⟩:=hb2.mp rfl;have k0:=i0 c3 Qa;have k1:=i1 c3 Qa;have eb:fF [.str x,.str y]= .tup [.str "is",.str x,.str y]:=if_pos (by rw[hx,hy];rfl);refine⟨c3,?_,p1.trans Qa⟩;rw[eb,aU,dB,bx];erw[iw,eq,kZ,j0,f1,j1,f2,k0,k1]
theorem zh(h:lG w d=true):d= .str w:=by
 unfold lG at h;split at h
 .rw[of_decide_eq_true h]
 .cases h
def o8(k:Nat):D->D
 |.aA=>.aA
 |t=>om k t
theorem M0{k:Nat}{B:List D}(hI:∀d∈B,Im d)(hB:∀d r,B=d::r->lG "not" d=false)(hs:c[s]? =aa (.lst (aaL k (.str "not")++B))):∀(j i:Nat),i+j=k->eY y7 (aE 1 (e2 bc (eV 1) (eC (.int 1)))) [aa (.ref s),aa (.int i),ae,ae] c=aa (.nx,[aa (.ref s),aa (.int k),ae,ae],c):=by
 have q:=aB hs;have hl:(aaL k (D.str "not")++B).length=k+B.length:=by simp
 have bl:bA [.ref s] c=aa (.int (k+B.length:Nat),c):=by rw[eo,q];simp only[Zu,hl]
 intro j
 induction j with
 |zero=>
  intro i hi;obtain rfl:i=k:=by omega
  refine g8 ?_;cases B with
  |nil=>
   have VR:bA [.ref s] c=aa (.int (i:Int),c):=by simpa using bl
   have lt:¬((i:Int)<(i:Int)):=by omega
   unfold y7;erw[VR,decide_eq_false lt]
  |cons d r=>
   have a1:eI (aaL i (D.str "not")++d::r) (i:Int)=aa d:=by
    rw[oo (by rw[hl,aac];omega)];simp
   have e:=uW (c:=c) (hI d (by simp)).it mF;rw[hB d r rfl]at e;have VR:bA [.ref s] c=aa (.int ((i+(r.length+1):Nat):Int),c):=bl;have lt:(i:Int)<((i+(r.length+1):Nat):Int):=by omega
   unfold y7;erw[VR,lt,cJ,q,a1,e]
 |succ j ih=>
  intro i hi;have e0:=ih (i+1) (by omega);have a1:eI (aaL k (D.str "not")++B) (i:Int)=aa (.str "not"):=by
   rw[oo (by rw[hl];omega)]
   congr 1
   rw[ajV (by simp;omega)];simp
  have e:=uW (c:=c) (.str mF) mF;rw[show lG "not" (.str "not")=true by decide]at e;have lt:(i:Int)<((k+B.length:Nat):Int):=by omega
  refine oK (c':=c) (σ':=[aa (.ref s),aa (.int ((i+1:Nat):Int)),ae,ae]) (c2:=c) ?_ ?_ e0
  .unfold y7
   erw[bl,lt,cJ,q,a1,e]
  .erw[]
   simp
theorem FX{k:Nat}{B:List D}(hI:∀d∈B,Im d)(hl:B.length<=1000)(hB:∀d r,B=d::r->lG "not" d=false)(hs:c[s]? =aa (.lst (aaL k (.str "not")++B)))(hk:k<=1000)(ht:fF B= .aA\/∃xs,fF B= .tup xs):∃c',cK [.ref s] c=aa (o8 k (fF B),c')/\c <+:c':=by
 have w:=M0 hI hB hs k 0 (by omega);have g1:=kO (lo:=aa ((k:Nat):Int)) (hi:=ae) hs;rw[rW (by simp),show(aaL k (D.str "not")++B).drop k=B by simp]at g1;have o1:bF (eV 1) [aa (.ref s),aa (.int k),ae,ae] c=aa (aa (k:Int),c):=jK rfl;obtain⟨c2,b,hp⟩:=Jv (c:=c++[.lst B]) hI hl aG;generalize fF B=t at b ht;have hr:dZ (af (eV 1) aj) [aa (.ref s),aa (.int k),aa t,ae] c2=aa (⟨eU 0 (k:Int).toNat,[]⟩,c2):=rR (j:=k) (by erw[]) (by omega);have key:=iU (ks:=[]) (g:=aM 3) (body:=aE 2 (lY (tV (e2 ik (eV 2) (eC .aA))) (eC .aA) (dc (af (eC (.str "not")) (af (eV 2) aj))))) (λi σ c'=>c'=c2/\∃j,σ=[aa (.ref s),aa (.int k),aa (o8 i t),j]) (eU 0 (k:Int).toNat) 0 [aa (.ref s),aa (.int k),aa t,ae] c2 (λ_ _ _ _=>fw) (by
  rintro i d σ c' hd ⟨rfl,j,rfl⟩;obtain⟨hi,rfl⟩:=rS hd;refine⟨[aa (.ref s),aa (.int k),aa (o8 (0+i) t),aa (.int (0+(i:Int)))],c',[aa (.ref s),aa (.int k),aa (o8 (0+i+1) t),aa (.int (0+(i:Int)))],c',rfl,?_,rfl,_,rfl⟩;rcases ht with rfl|⟨xs,rfl⟩
  .have e1:∀i,o8 i .aA= .aA:=λ_=>rfl
   have e2:ik .aA .aA c'=aa (.bl true,c'):=rfl;rw[e1,e1];erw[e2]
  .have e1:∀i,o8 i (.tup xs)=om i (.tup xs):=λ_=>rfl
   obtain⟨ys,ex⟩:=vV (k:=0+i) ⟨xs,rfl⟩;have e3:om (0+i+1) (.tup xs)= .tup [.str "not",om (0+i) (.tup xs)]:=rfl;rw[e1,e1,e3,ex];erw[rX]) ⟨rfl,ae,by rcases ht with rfl|⟨xs,rfl⟩<;>rfl⟩
 obtain⟨σ',c',ef,rfl,j,rfl⟩:=key;rw[qJ,ahd,aht]at ef;have f:=(lE (g:=aM 3) (b:=aE 2 (lY (tV (e2 ik (eV 2) (eC .aA))) (eC .aA) (dc (af (eC (.str "not")) (af (eV 2) aj))))) hr).trans (by simpa using ef);refine⟨c',?_,(abn c _).trans hp⟩;have run:fB [aa (.ref s),ae,ae,ae] c=aa (.rt (o8 k t),[aa (.ref s),aa (.int k),aa (o8 k t),j],c'):=by
  unfold fB;refine aw (σ1:=[aa (.ref s),aa (.int 0),ae,ae]) (c1:=c) (by erw[]) ?_;refine aw w ?_;refine aw (σ1:=[aa (.ref s),aa (.int k),aa t,ae]) (c1:=c') (by erw[o1,g1,b]) ?_;refine aw f ?_;erw[]
 erw[cK,run]
def dA:D->Bool
 |.aA=>true
 |_=>false
inductive NT:D->Prop
 |aA:NT .aA
 |tr {t:D}:Tr 40 t->NT t
theorem D5{c:Cells}:∀{xs:List D},(∀d∈xs,NT d)->∃ds,omap (data c 60) xs=aa ds/\(ala∈ds↔xs.any dA=true)
 |[],_=>⟨[],rfl,by simp⟩
 |d::xs,h=>by
  obtain⟨ds,e,hn⟩:=D5 (c:=c) (xs:=xs) λz hz=>h z (aay _ hz)
  cases h d (by simp)with
  |aA=>
   refine⟨.none::ds,?_,by simp[dA]⟩;unfold omap;rw[show data c 60 .aA=aa .none from rfl,e];rfl
  |tr ht=>
   obtain⟨es,e1⟩:=oi (c:=c) ht 60 (by decide);obtain⟨ys,rfl⟩:=fH ht;refine⟨.tuple es::ds,?_,?_⟩
   .unfold omap;rw[e1,e];rfl
   .rw[aiW,show dA (.tup ys)=false from rfl,Bool.false_or,<-hn]
    constructor
    .intro hm
     rcases aaI.mp hm with e|hm
     .cases e
     .exact hm
    .exact λhm=>aay _ hm
def lI(w:Str):List D->D
 |[]=>.aA
 |v::vs=>if (v::vs).any dA=true then .aA else fold w v vs
theorem M1{k:Str}{v:D}{vs:List D}(hs:c[s]? =aa (.lst (v::vs)))(hT:∀d∈v::vs,NT d):∃c',bt [.str k,.ref s] c=aa (lI k (v::vs),c')/\c <+:c':=by
 by_cases hn:(v::vs).any dA=true
 .obtain⟨ds,e,hm⟩:=D5 (c:=c) hT
  have g0:yL .aA (.ref s) c=aa (.bl true,c):=by
   unfold yL;dsimp only
   rw[aB hs,Zu,e,Zu];simp only[hm.mpr hn,decide_true]
  have ep:lI k (v::vs)= .aA:=if_pos hn;refine⟨c,?_,aio⟩;rw[ep,bt,dB,gv];erw[g0]
 .have Pb:∀d∈v::vs,Tr 40 d:=λd hd=>by
   cases hT d hd with
   |aA=>exact absurd (ahj.mpr ⟨_,hd,rfl⟩) hn
   |tr h=>exact h
  obtain⟨z,e⟩:=Sf (k:=k) hs Pb;have ep:lI k (v::vs)=fold k v vs:=if_neg hn;exact⟨c++[z],by rw[ep];exact e,abn _ _⟩
def M3(F:FN)(P:List D->D)(Ok:List D->Prop):Prop:=∀is s c,Ok is->c[s]? =aa (.lst is)->∃c',F [.ref s] c=aa (P is,c')/\c <+:c'
variable{P:List D->D}
theorem rdP{F G:FN}{k:Nat}{Ok:List D->Prop}(hF:M3 F P Ok)(hG:∀s c c' r,av bt [] (af (eC (.str (kw k))) (af (eJ (fJ (av bL [] (af (eC (.str (kw k))) (af (eV 0) aj)))) [ae] (aM 0) jB (av F [] (af (eV 0) aj))) aj)) [aa (.ref s)] c=aa (r,c')->G [.ref s] c=aa (r,c')):
  M3 G (λis=>lI (kw k) ((bC (kw k) [] is).map P)) λis=>(∀d∈is,It d)/\is.length<=500/\∀p∈bC (kw k) [] is,Ok p/\NT (P p):=by
 intro is s c ⟨hI,hl,hp⟩ hs;obtain⟨c1,rs,e1,p1,q1,q2,q3⟩:=DQ (y8 k) hs hI (by omega);generalize FV:bC (kw k) [] is=ps at q2 hp;have hlen:rs.length=ps.length:=by have:=congrArg aic q2;simpa using this
 have pl:=o6 (w:=kw k) (r:=is) (g:=[]);rw[FV]at pl;have it:fJ (av bL [] (af (eC (.str (kw k))) (af (eV 0) aj))) [aa (.ref s)] c=aa (⟨rs.map λq=>D.ref q.1,[(c.length+1,.lst (rs.map λq=>D.ref q.1))]⟩,c1):=tL (by erw[e1]) q1;obtain⟨c2,e2,p2,l2⟩:=ML (it:=fJ (av bL [] (af (eC (.str (kw k))) (af (eV 0) aj)))) (cap:=[ae]) (g:=aM 0) (te:=av F [] (af (eV 0) aj)) (vs:=ps.map P) (λτ=>∃x,τ=[x]) it (λq hq=>by rw[aaq.mp hq];exact q1) ⟨ae,rfl⟩ (by rw[aaE,aaE,hlen]) (by
  rintro i d v hd hv τ c' ⟨x,rfl⟩ hc;rw[aa6]at hd hv;obtain⟨r,hr,rfl⟩:=adi.mp hd;obtain⟨q,hq,rfl⟩:=adi.mp hv;have e3:r.2=q:=by
   have h1:=congrArg (λl=>l[i]?) q2;simp only[aa6,hr,hq,ajd]at h1;exact abK h1
  obtain⟨c3,f1,ws,rfl⟩:=hF q r.1 c' (hp q (aa8 hq)).1 (by rw[<-e3];exact a_ hc (q3 r (aa8 hr)));exact⟨[aa (.ref r.1)],ws,rfl,by erw[f1],_,rfl⟩) (by rw[aaE,hlen];have:=pl.1;omega)
 have hT:∀d∈ps.map P,NT d:=λd hd=>by
  obtain⟨q,hq,rfl⟩:=adn.mp hd;exact(hp q hq).2
 have kf:ps≠[]:=by
  rw[<-FV];have:∀(r g:List D),bC (kw k) g r≠[]:=by
   intro r
   induction r with
   |nil=>intro g;simp[bC]
   |cons d r ih=>
    intro g;rw[bC];split
    .simp
    .exact ih _
  exact this _ _
 cases ps with
 |nil=>exact absurd rfl kf
 |cons q qs=>
  obtain⟨c3,e3,p3⟩:=M1 (k:=kw k) (c:=c2) (v:=P q) (vs:=qs.map P) l2 hT;refine⟨c3,hG s c _ _ ?_,(p1.trans p2).trans p3⟩;dsimp only
  rw[FV];have e3':bt [.str (kw k),.ref c1.length] c2=aa (lI (kw k) ((q::qs).map P),c3):=e3;erw[e2,e3']
def lJ:List D->Nat
 |[]=>0
 |d::r=>if lG "not" d=true then lJ r+1 else 0
theorem o9:∀is:List D,is=aaL (lJ is) (.str "not")++is.drop (lJ is)/\∀d r,is.drop (lJ is)=d::r->lG "not" d=false
 |[]=>⟨rfl,λd r e=>by cases e⟩
 |d::is=>by
  obtain⟨h1,h2⟩:=o9 is;unfold lJ
  by_cases h:lG "not" d=true
  .rw[if_pos h,ab8,List.drop_succ_cons]
   refine⟨?_,h2⟩;rw[abP,<-h1,<-zh h]
  .rw[if_neg h]
   refine⟨rfl,λd' r e=>?_⟩;cases e;simpa using h
def jo(is:List D):D:=o8 (lJ is) (fF (is.drop (lJ is)))
theorem AX(is:List D):fF is= .aA\/∃xs,fF is= .tup xs:=by
 unfold fF;split
 .split
  .exact .inr ⟨_,rfl⟩
  .exact .inl rfl
 .exact .inr ⟨_,rfl⟩
 .split
  .exact .inr ⟨_,rfl⟩
  .exact .inl rfl
 .exact .inl rfl
def OkT(is:List D):Prop:=(∀d∈is,Im d)/\is.length<=500
theorem rdT:M3 cK jo OkT:=by
 intro is s c ⟨hI,hl⟩ hs;obtain⟨h1,h2⟩:=o9 is;have hd:(is.drop (lJ is)).length<=1000:=by rw[ag6];omega
 have hk:lJ is<=1000:=by
  have:=congrArg aic h1;rw[aaf,ahL]at this;omega
 rw[h1]at hs;exact FX (λd hd=>hI d (ahp hd)) hd h2 hs hk (AX _)
def zi(is:List D):D:=lI (kw 0) ((bC (kw 0) [] is).map jo)
def OkP(is:List D):Prop:=(∀d∈is,It d)/\is.length<=500/\∀p∈bC (kw 0) [] is,OkT p/\NT (jo p)
theorem rdA:M3 dE zi OkP:=rdP (k:=0) rdT λs c c' r e=>by
 have e':av bt [] (af (eC (.str "and")) (af (eJ (fJ (av bL [] (af (eC (.str "and")) (af (eV 0) aj)))) [ae] (aM 0) jB (av cK [] (af (eV 0) aj))) aj)) [aa (.ref s)] c=aa (r,c'):=e;rw[dE,dB,jg];simp only[aac,aam,if_true,abk,agy,aim,ahf,aa5,oQ,e',Zu,rQ]
def bV(is:List D):D:=lI (kw 1) ((bC (kw 1) [] is).map zi)
def HJ(is:List D):Prop:=(∀d∈is,It d)/\is.length<=500/\∀p∈bC (kw 1) [] is,OkP p/\NT (zi p)
theorem Sh:M3 cL bV HJ:=rdP (k:=1) rdA λs c c' r e=>by
 have e':av bt [] (af (eC (.str "or")) (af (eJ (fJ (av bL [] (af (eC (.str "or")) (af (eV 0) aj)))) [ae] (aM 0) jB (av dE [] (af (eV 0) aj))) aj)) [aa (.ref s)] c=aa (r,c'):=e;rw[cL,dB,iG];simp only[aac,aam,if_true,abk,agy,aim,ahf,aa5,oQ,e',Zu,rQ]
def cX:List Str->List (List D)->List D->D
 |[],[],g=>bV g
 |[],_::_,_=>.aA
 |w::ts,st,g=>if w= "(" then cX ts (g::st) [] else if w= ")" then(match st with
   |[]=>.aA
   |q::st=>if dA (bV g)=true then .aA else cX ts st (q++[bV g]))else cX ts st (g++[.str w])
theorem AY{st:List (List D)}(h:w= "("):cX (w::ts) st g=cX ts (g::st) []:=by rw[cX.eq_def];dsimp only;rw[if_pos h]
theorem zj(h0:¬w= "(")(h:w= ")"):cX (w::ts) [] g= .aA:=by rw[cX.eq_def];dsimp only;rw[if_neg h0,if_pos h]
theorem AZ{q:List D}{st:List (List D)}(h0:¬w= "(")(h:w= ")"):cX (w::ts) (q::st) g=if dA (bV g)=true then .aA else cX ts st (q++[bV g]):=by rw[cX.eq_def];dsimp only;rw[if_neg h0,if_pos h]
theorem D6{st:List (List D)}(h0:¬w= "(")(h:¬w= ")"):cX (w::ts) st g=cX ts st (g++[.str w]):=by rw[cX.eq_def];dsimp only;rw[if_neg h0,if_neg h]
def jV:List Str->List (List D)->List D->Prop
 |[],[],g=>HJ g
 |[],_::_,_=>True
 |w::ts,st,g=>w.cps.all (λk=>decide (k<1114112))=true/\g.length<=4000/\st.length<=4000/\(if w= "(" then jV ts (g::st) [] else if w= ")" then HJ g/\NT (bV g)/\(match st with
   |[]=>True
   |q::st=>q.length<=4000/\(dA (bV g)=false->jV ts st (q++[bV g])))else jV ts st (g++[.str w]))
structure Os(c0:Cells)(W U:Nat)(ws:List D)(done:List (Nat×List D))(p:Nat)(g:List D)(c:Cells):Prop where
 w:c[W]? =aa (.lst ws)
 u:c[U]? =aa (.lst ((done.reverse.map λq=>D.ref q.1)++[.ref p]))
 t:c[p]? =aa (.lst g)
 b:∀q∈done,c[q.1]? =aa (.lst q.2)
 wu:W<c0.length
 uu:c0.length<=U
 pu:c0.length<=p/\p≠U
 qu:∀q∈done,c0.length<=q.1/\q.1≠U/\q.1≠p
 nd:(done.map (·.1)).Nodup
 kq:Kq [] c0 c
variable{done:List (Nat×List D)}
theorem Os.st(h:Os c0 W U ws done p g c):stays [(W,.lst ws)] c:=λq hq=>by rw[aaq.mp hq];exact h.w
theorem Os.put(h:Os c0 W U ws done p g c)(g':List D):Os c0 W U ws done p g' (c.set p (.lst g')):=by
 have h1:=h.wu;have h2:=h.pu;refine⟨?_,?_,?_,λq hq=>?_,h.wu,h.uu,h.pu,h.qu,h.nd,h.kq.oj h2.1⟩
 .rw[aal,if_neg (by omega)];exact h.w
 .rw[aal,if_neg h2.2];exact h.u
 .rw[aal,if_pos rfl,if_pos (cU h.t)]
 .rw[aal,if_neg (λe=>(h.qu q hq).2.2 e.symm)];exact h.b q hq
theorem Os.open(h:Os c0 W U ws done p g c):Os c0 W U ws ((p,g)::done) c.length [] ((c++[Cell.lst []]).set U (Cell.lst (((done.reverse.map λq=>D.ref q.1)++[.ref p])++[D.ref c.length]))):=by
 have h1:=h.wu;have h2:=h.pu;have h3:=h.uu;have hU:=cU h.u;have hp:=cU h.t;have hk:=h.kq.len;have hb:∀q∈(p,g)::done,c[q.1]? =aa (.lst q.2)/\c0.length<=q.1/\q.1≠U:=λq hq=>by
  rcases aaI.mp hq with rfl|hq
  .exact⟨h.t,h2.1,h2.2⟩
  .exact⟨h.b q hq,(h.qu q hq).1,(h.qu q hq).2.1⟩
 refine⟨?_,?_,?_,λq hq=>?_,h.wu,h.uu,⟨by omega,by omega⟩,λq hq=>⟨(hb q hq).2.1,(hb q hq).2.2,by have:=cU (hb q hq).1;omega⟩,?_,(h.kq.trans Kq.more).oj h3⟩
 .rw[aal,if_neg (by omega)];exact bu h.w
 .rw[aal,if_pos rfl,if_pos (by rw[aaf];omega)];simp
 .rw[aal,if_neg (by omega)];exact aG
 .rw[aal,if_neg (λe=>(hb q hq).2.2 e.symm)];exact bu (hb q hq).1
 .rw[abk]
  refine ahK.mpr ⟨λhm=>?_,h.nd⟩;obtain⟨q,hq,e⟩:=adn.mp hm;exact(h.qu q hq).2.2 e
theorem rZ:∀(ts:List Str) (done:List (Nat×List D)) (p:Nat) (g:List D) (c:Cells) (wd cd:Option D),Os c0 W U ws done p g c->jV ts (done.map (·.2)) g->
  ∃fl σ' c',bY [(W,.lst ws)] (aM 2) eQ (ts.map D.str) [aa (.ref W),aa (.ref U),wd,cd] c=aa (fl,σ',c')/\Kq [] c0 c'/\((fl= .rt .aA/\cX ts (done.map (·.2)) g= .aA)\/(fl= .nx/\∃FY p' g' VL Mp,σ'=[aa (.ref W),aa (.ref U),VL,Mp]/\Os c0 W U ws FY p' g' c'/\cX ts (done.map (·.2)) g=cX [] (FY.map (·.2)) g'/\jV [] (FY.map (·.2)) g'))
 |[],done,p,g,c,wd,cd,h,hk=>by
  refine⟨.nx,_,c,?_,h.kq,.inr ⟨rfl,done,p,g,wd,cd,rfl,h,rfl,hk⟩⟩;rw[agy,bY,if_pos h.st]
 |w::ts,done,p,g,c,wd,cd,h,hk=>by
  obtain⟨okw,gl,sl,hk⟩:=hk;rw[aaE]at sl;have q1:=gU (c:=c) okw y9;have q2:=gU (c:=c) okw y_;have sU:=aB h.u;have lU:=bp h.u
  by_cases ho:w= "("
  .rw[if_pos ho]at hk
   rw[decide_eq_true ho]at q1;have ap:=dR (y:=.ref c.length) (bu (zs:=[.lst []]) h.u) (by simp only[aaf,aaE,ald,aac,aam];omega);obtain⟨fl,σ',c',e,k,r⟩:=rZ ts ((p,g)::done) c.length [] _ (aa (.str w)) cd h.open hk;refine⟨fl,σ',c',?_,k,?_⟩
   .rw[abk,gW h.st (σ1:=[aa (.ref W),aa (.ref U),aa (.str w),cd]) (c1:=c) rfl (σ2:=[aa (.ref W),aa (.ref U),aa (.str w),cd]) (c2:=(c++[Cell.lst []]).set U (Cell.lst (((done.reverse.map λq=>D.ref q.1)++[.ref p])++[D.ref c.length]))) (by
     unfold eQ;erw[q1,lU,iz,ap])]
    exact e
   .have ec:cX (w::ts) (done.map (·.2)) g=cX ts (g::done.map (·.2)) []:=AY ho
    rw[ec];exact r
  .rw[if_neg ho]at hk
   rw[decide_eq_false ho]at q1
   by_cases hc:w= ")"
   .rw[if_pos hc]at hk
    rw[decide_eq_true hc]at q2;obtain⟨og,nt,hk⟩:=hk;have hU:=cU h.u;have pop:AA (.ref U) [] c=aa (.ref p,c.set U (.lst (done.reverse.map λq=>D.ref q.1))):=by
     show((cj (.ref U) c).bind λl=>(l.2[l.2.length - 1]?).bind λd=>aa (d,c.set l.1 (.lst l.2.dropLast)))=_;rw[lU];simp
    have t3:(c.set U (.lst (done.reverse.map λq=>D.ref q.1)))[p]? =aa (.lst g):=by rw[aal,if_neg (λe=>h.pu.2 e.symm)];exact h.t
    obtain⟨c4,e4,p4⟩:=Sh g p _ og t3;have k3:Kq [] c0 (c.set U (.lst (done.reverse.map λq=>D.ref q.1))):=h.kq.oj h.uu;have k4:Kq [] c0 c4:=k3.trans (Kq.pre p4);have u4:c4[U]? =aa (.lst (done.reverse.map λq=>D.ref q.1)):=a_ p4 (by rw[aal,if_pos rfl,if_pos hU]);have tr:mV (eV 1) [aa (.ref W),aa (.ref U),aa (.str w),aa (bV g)] c4=aa (!(done.reverse.map λq=>D.ref q.1).isEmpty,c4):=by
     show((cj (.ref U) c4).bind λl=>aa (!l.2.isEmpty,c4))=_;rw[bp u4];rfl
    cases done with
    |nil=>
     have ec:cX (w::ts) (([]:List (Nat×List D)).map (·.2)) g= .aA:=zj ho hc;refine⟨.rt .aA,[aa (.ref W),aa (.ref U),aa (.str w),aa (bV g)],c4,?_,k4,.inl ⟨rfl,ec⟩⟩;rw[abk,bY,if_pos h.st];have VS:mV (eV 1) [aa (.ref W),aa (.ref U),aa (.str w),aa (bV g)] c4=aa (false,c4):=tr;have gn:∃b,ik (bV g) .aA c4=aa (.bl b,c4):=⟨_,rfl⟩;obtain⟨b,gn⟩:=gn;have run:eQ [aa (.ref W),aa (.ref U),aa (.str w),cd] c=aa (.rt .aA,[aa (.ref W),aa (.ref U),aa (.str w),aa (bV g)],c4):=by
      unfold eQ;cases b<;>erw[q1,q2,lU,pop,e4,gn,VS]
     simp only[oR,ahG,ag5,Zu,run]
    |cons q done=>
     have ec:cX (w::ts) ((q::done).map (·.2)) g=if dA (bV g)=true then .aA else cX ts (done.map (·.2)) (q.2++[bV g]):=AZ ho hc
     rw[ec];obtain⟨ql,hk⟩:=hk;have ql:q.2.length<=4000:=ql;have hq:=h.qu q (by simp);have bq:c4[q.1]? =aa (.lst q.2):=a_ p4 (by rw[aal,if_neg (λe=>hq.2.1 e.symm)];exact h.b q (by simp));have VS:mV (eV 1) [aa (.ref W),aa (.ref U),aa (.str w),aa (bV g)] c4=aa (true,c4):=by
      rw[tr];simp
     by_cases hn:dA (bV g)=true
     .rw[if_pos hn]
      have en:bV g= .aA:=by
       cases hp:bV g with
       |aA=>rfl
       |_=>rw[hp]at hn;cases hn
      refine⟨.rt .aA,[aa (.ref W),aa (.ref U),aa (.str w),aa .aA],c4,?_,k4,.inl ⟨rfl,rfl⟩⟩;rw[abk,bY,if_pos h.st];rw[en]at e4;have gn:ik .aA .aA c4=aa (.bl true,c4):=rfl;have run:eQ [aa (.ref W),aa (.ref U),aa (.str w),cd] c=aa (.rt .aA,[aa (.ref W),aa (.ref U),aa (.str w),aa .aA],c4):=by
       unfold eQ;erw[q1,q2,lU,pop,e4,gn]
      simp only[oR,ahG,ag5,Zu,run]
     .have xU:dA (bV g)=false:=by simpa using hn
      rw[if_neg hn];have u4':c4[U]? =aa (.lst ((done.reverse.map λq=>D.ref q.1)++[.ref q.1])):=by rw[u4];simp
      have nd:=ahK.mp h.nd;have O4:Os c0 W U ws done q.1 q.2 c4:=by
       refine⟨a_ p4 ?_,u4',bq,λz hz=>a_ p4 ?_,h.wu,h.uu,⟨hq.1,hq.2.1⟩,λz hz=>⟨(h.qu z (by simp[hz])).1,(h.qu z (by simp[hz])).2.1,λe=>nd.1 (adn.mpr ⟨z,hz,e⟩)⟩,nd.2,k4⟩
       .rw[aal,if_neg (by have:=h.wu;have:=h.uu;omega)];exact h.w
       .rw[aal,if_neg (λe=>(h.qu z (by simp[hz])).2.1 e.symm)];exact h.b z (by simp[hz])
      obtain⟨fl,σ',c',e,k,r⟩:=rZ ts done q.1 (q.2++[bV g]) _ (aa (.str w)) (aa (bV g)) (O4.put _) (hk xU);refine⟨fl,σ',c',?_,k,r⟩;have gn:ik (bV g) .aA c4=aa (.bl false,c4):=by
       cases hp:bV g with
       |aA=>rw[hp]at xU;cases xU
       |_=>rfl
      have sU4:=aB u4';have al:eI ((done.reverse.map λq=>D.ref q.1)++[.ref q.1]) (-1)=aa (.ref q.1):=iY;have lq:=bp bq;have ap:=dR (y:=bV g) bq (by omega);rw[abk,gW h.st (σ1:=[aa (.ref W),aa (.ref U),aa (.str w),cd]) (c1:=c) rfl (σ2:=[aa (.ref W),aa (.ref U),aa (.str w),aa (bV g)]) (c2:=c4.set q.1 (.lst (q.2++[bV g]))) (by
       unfold eQ;erw[q1,q2,lU,pop,e4,gn,VS,cJ,sU4,al,lq,ap])]
      exact e
   .rw[if_neg hc]at hk
    rw[decide_eq_false hc]at q2;rw[D6 ho hc];have al:eI ((done.reverse.map λq=>D.ref q.1)++[.ref p]) (-1)=aa (.ref p):=iY;have lp:=bp h.t;have ap:=dR (y:=.str w) h.t (by omega);obtain⟨fl,σ',c',e,k,r⟩:=rZ ts done p (g++[.str w]) _ (aa (.str w)) cd (h.put _) hk;refine⟨fl,σ',c',?_,k,r⟩;rw[abk,gW h.st (σ1:=[aa (.ref W),aa (.ref U),aa (.str w),cd]) (c1:=c) rfl (σ2:=[aa (.ref W),aa (.ref U),aa (.str w),cd]) (c2:=c.set p (.lst (g++[.str w]))) (by
     unfold eQ;erw[q1,q2,cJ,sU,al,lp,ap])]
    exact e
theorem zk(hW:c[W]? =aa (.lst (ts.map D.str)))(hk:jV ts [] []):∃c',b_ [.ref W] c=aa (cX ts [] [],c')/\c <+:c':=by
 have hWl:=cU hW;have O:Os c W (c.length+1) (ts.map D.str) [] c.length [] (c++[.lst []]++[.lst [.ref c.length]]):=⟨bu (bu hW),by simp,bu aG,(λq hq=>nomatch hq),hWl,by omega,⟨aat _,by omega⟩,(λq hq=>nomatch hq),by simp,Kq.more.trans Kq.more⟩;obtain⟨fl,σ',c1,e1,k1,r⟩:=rZ ts [] c.length [] _ ae ae O hk;have it:fJ (eV 0) [aa (.ref W),aa (.ref (c.length+1)),ae,ae] (c++[.lst []]++[.lst [.ref c.length]])=aa (⟨ts.map D.str,[(W,.lst (ts.map D.str))]⟩,c++[.lst []]++[.lst [.ref c.length]]):=tL rfl (bu (bu hW));have f:=(lE (g:=aM 2) (b:=eQ) it).trans e1;have lc:(c++[Cell.lst []]).length=c.length+1:=by simp
 have first:∀{R:Option (Fl×Qm.Env×Cells)},ax (jc (fJ (eV 0)) (aM 2) eQ) (bj (lY (tV (e2 cO (eB bA (af (eV 1) aj)) (eC (.int 1)))) (av cL [] (af (e2 aK (eV 1) (eC (.int 0))) aj)) (eC .aA))) [aa (.ref W),aa (.ref (c.length+1)),ae,ae] (c++[.lst []]++[.lst [.ref c.length]])=R->dF [aa (.ref W),ae,ae,ae] c=R:=λhR=>by
  unfold dF;refine aw (σ1:=[aa (.ref W),aa (.ref (c.length+1)),ae,ae]) (c1:=c++[.lst []]++[.lst [.ref c.length]]) (by erw[iz,lc]) ?_;exact hR
 rcases r with⟨rfl,ec⟩|⟨rfl,done,p,g,wd,cd,rfl,O1,ec,hk1⟩
 .have IG:cX ts [] []= .aA:=ec
  refine⟨c1,?_,k1.lH⟩;have run:=first (R:=aa (.rt .aA,σ',c1)) (by rw[lz,f];rfl)
  rw[IG];erw[b_,run]
 .have IG:cX ts [] []=cX [] (done.map (·.2)) g:=ec
  rw[IG];have sU:=aB O1.u;have bl:bA [.ref (c.length+1)] c1=aa (.int ((done.length+1:Nat):Int),c1):=by rw[eo,sU];simp
  cases done with
  |nil=>
   obtain⟨c2,e2,p2⟩:=Sh g p c1 hk1 O1.t;have kZ:bA [.ref (c.length+1)] c1=aa (.int 1,c1):=bl;have i0:aK (.ref (c.length+1)) (.int 0) c1=aa (.ref p,c1):=by rw[cJ,sU];rfl
   refine⟨c2,?_,k1.lH.trans p2⟩;have run:=first (R:=aa (.rt (bV g),[aa (.ref W),aa (.ref (c.length+1)),wd,cd],c2)) (by
    refine aw f ?_;erw[kZ,i0,e2])
   have ep:cX [] (([]:List (Nat×List D)).map (·.2)) g=bV g:=rfl;rw[ep];erw[b_,run]
  |cons q done=>
   have n1:¬((((q::done).length+1:Nat):Int)=1):=by rw[aac];omega
   generalize (((q::done).length+1:Nat):Int)=L at bl n1;refine⟨c1,?_,k1.lH⟩;have run:=first (R:=aa (.rt .aA,[aa (.ref W),aa (.ref (c.length+1)),wd,cd],c1)) (by
    refine aw f ?_;erw[bl,n1])
   have ep:cX [] ((q::done).map (·.2)) g= .aA:=rfl;rw[ep];erw[b_,run]
def qN:Str:="0123456789"
theorem M4{k:Nat}(h:k∈sg qN): 48<=k/\k<=57:=by
 have e:sg qN=amM 48 10:=by decide
 rw[e]at h;have:=ajU.mp h;omega
theorem A0(h:eR qN x 6=true):sg x≠[]/\x.length<=6/\∀k∈sg x,48<=k/\k<=57:=by
 unfold eR at h;obtain⟨h1,h2⟩:=ag7.mp h;have h1:=of_decide_eq_true h1;refine⟨λe=>?_,by omega,λk hk=>M4 (of_decide_eq_true (abD.mp h2 k hk))⟩;have:=h1.1;rw[<-cR,e]at this;exact absurd this (by decide)
theorem Jw(x:Str):∃a sep b:Str,abp x "/" =(a,sep,b)/\(∀k,k∈sg a->k∈sg x)/\(∀k,k∈sg b->k∈sg x)/\a.length<=x.length/\b.length<=x.length/\sep.length<=1/\((sg x)[0]? =aa 45->∃r,sg a=45::r):=by
 have fs:("/":Str)=⟨#[47]⟩:=rfl;rw[fs]
 by_cases h: 47∈sg x
 .obtain⟨A,B,e,hA⟩:=List.eq_append_cons_of_mem h
  refine⟨i_ A,⟨#[47]⟩,i_ B,D3 e hA,?_,?_,?_,?_,aat _,?_⟩
  .intro k hk;rw[show sg (i_ A)=A from lF A]at hk;rw[e];simp[hk]
  .intro k hk;rw[show sg (i_ B)=B from lF B]at hk;rw[e];simp[hk]
  .rw[<-cR,<-cR,e,show sg (i_ A)=A from lF A];simp
  .rw[<-cR,<-cR,e,show sg (i_ B)=B from lF B];simp;omega
  .intro h0
   rw[show sg (i_ A)=A from lF A];cases A with
   |nil=>rw[e]at h0;simp at h0
   |cons k r=>rw[e]at h0;simp at h0;exact⟨r,by rw[h0]⟩
 .refine⟨x,aij,aij,ze h,λ_ hk=>hk,λk hk=>(by cases hk),aat _,ab7 _,by decide,λh0=>?_⟩
  cases hs:sg x with
  |nil=>rw[hs]at h0;cases h0
  |cons k r=>rw[hs]at h0;simp at h0;exact⟨r,by rw[h0]⟩
theorem M5:∀(cs:List Nat) (acc:Nat),(∀c∈cs,48<=c/\c<=57)->cs.foldl (λacc c=>acc*10+(c - 48)) acc<(acc+1)*10 ^ cs.length
 |[],acc,_=>by simp
 |c::cs,acc,h=>by
  have hc:=h c (by simp);have ih:=M5 cs (acc*10+(c - 48)) λz hz=>h z (aay _ hz)
  rw[aje,aac];refine aa1 ih ?_;rw[Nat.pow_succ,Nat.mul_comm (10 ^ cs.length) 10,<-Nat.mul_assoc];exact akQ _ (by omega)
def dv(x:Str):Nat:=(sg x).foldl (λacc c=>acc*10+(c - 48)) 0
theorem BY(h:eR qN x 6=true):dv x<1000000/\ahC x=aa (dv x:Int):=by
 obtain⟨h1,h2,h3⟩:=A0 h;have h4:=M5 (sg x) 0 h3;rw[ahd,Nat.one_mul]at h4;refine⟨aa1 h4 (ab2 (akM (by decide) (by rw[cR];exact h2)) (by decide)),?_⟩;exact PySem.intText_digits h3 h1 (by omega)
theorem zl(h:eR qN x 6=true):jf [.str x] c=aa (.int (dv x:Int),c):=by
 obtain⟨h1,h2⟩:=BY h;have:=(A0 h).2.1;show(if x.length<=640 then(ahC x).bind λn=>aa (D.int n,c)else ae)=_;rw[if_pos (by omega),h2];rfl
open Classical in
noncomputable def qO(x ab be:Str):D:=if eR qN ab 6=true/\eR qN be 6=true/\dv be≠0 then
  (if TT (My.nm (if abY x "-" =true then -(dv ab:Int)else dv ab) (dv be)) (My.dn (if abY x "-" =true then -(dv ab:Int)else dv ab) (dv be))=x
   then .tup [.int (My.nm (if abY x "-" =true then -(dv ab:Int)else dv ab) (dv be)),.int (My.dn (if abY x "-" =true then -(dv ab:Int)else dv ab) (dv be))] else .aA)else .aA
def vZ(x:Str):Str:=if abY x "-" =true then ail (abp x "/").1 (aa 1) ae else(abp x "/").1
def v9(x:Str):Str:=if (abp x "/").2.1.length≠0 then(abp x "/").2.2 else "1"
theorem BZ(hx:asc x)(hl:x.length<=9000):∃c',cB [.str x] c=aa (qO x (vZ x) (v9 x),c')/\c <+:c':=by
 obtain⟨a,sep,b,ep,ha,hb,la,lb,ls,h45⟩:=Jw x;have fm:("-":Str)=⟨#[45]⟩:=rfl;have mp:vP (.str x) [.str "/"] c=aa (.tup [.str a,.str sep,.str b],c):=by
  show(if ("/":Str).length≠0/\x.length<=100000 then aa (D.tup [.str (abp x "/").1,.str (abp x "/").2.1,.str (abp x "/").2.2],c)else ae)=_;rw[if_pos ⟨by decide,by omega⟩,ep]
 have ms:∀c:Cells,e_ (.str x) [.str "-"] c=aa (.bl (abY x "-"),c):=λc=>rfl
 have JY:∃ab,ab=vZ x/\asc ab/\ab.length<=9000/\lY (tV (ki e_ (eV 0) (af (eC (.str "-")) aj))) (kC (e2 aK (eV 1) (eC (.int 0)))) (e2 aK (eV 1) (eC (.int 0))) [aa (.str x),aa (.tup [.str a,.str sep,.str b]),ae,ae,ae] c=aa (.str ab,c):=by
  have t1:ki e_ (eV 0) (af (eC (.str "-")) aj) [aa (.str x),aa (.tup [.str a,.str sep,.str b]),ae,ae,ae] c=aa (.bl (abY x "-"),c):=by erw[ki,iu,ms]
  unfold vZ;rw[ep]
  by_cases hs:abY x "-" =true
  .rw[if_pos hs]
   have h0:(sg x)[0]? =aa 45:=by
    rw[fm,wL]at hs;exact of_decide_eq_true hs
   obtain⟨r,er⟩:=h45 h0;have g0:e2 aK (eV 1) (eC (.int 0)) [aa (.str x),aa (.tup [.str a,.str sep,.str b]),ae,ae,ae] c=aa (.str a,c):=by erw[]
   have r1:kC (e2 aK (eV 1) (eC (.int 0))) [aa (.str x),aa (.tup [.str a,.str sep,.str b]),ae,ae,ae] c=aa (.str (ail a (aa 1) ae),c):=by
    unfold kC;rw[g0,Zu];show(if a.length<=100000 then aa (D.str (ail a (aa 1) ae),c)else ae)=_;rw[if_pos (by omega)]
   refine⟨_,rfl,?_,?_,?_⟩
   .intro k hk
    rw[tO er,show sg (i_ r)=r from lF r]at hk;exact hx k (ha k (by rw[er];simp[hk]))
   .rw[tO er,<-cR,show sg (i_ r)=r from lF r]
    have:=congrArg aic er;rw[cR,aac]at this;omega
   .rw[hs]at t1
    erw[t1,r1]
  .have Fo:abY x "-" =false:=by simpa using hs
   rw[if_neg hs];refine⟨_,rfl,λk hk=>hx k (ha k hk),by show a.length<=9000;omega,?_⟩;rw[Fo]at t1;erw[t1]
 obtain⟨ab,hae,haa,hal,eab⟩:=JY;have w6:∃be,be=v9 x/\asc be/\be.length<=9000/\lY (mV (e2 aK (eV 1) (eC (.int 1)))) (e2 aK (eV 1) (eC (.int 2))) (eC (.str "1")) [aa (.str x),aa (.tup [.str a,.str sep,.str b]),aa (.str ab),ae,ae] c=aa (.str be,c):=by
  have g1:e2 aK (eV 1) (eC (.int 1)) [aa (.str x),aa (.tup [.str a,.str sep,.str b]),aa (.str ab),ae,ae] c=aa (.str sep,c):=by erw[]
  have t1:mV (e2 aK (eV 1) (eC (.int 1))) [aa (.str x),aa (.tup [.str a,.str sep,.str b]),aa (.str ab),ae,ae] c=aa (((sep.length:Int) != 0),c):=by
   unfold mV;rw[g1,Zu];dsimp only
   rw[if_pos (by omega)]
  unfold v9;rw[ep]
  by_cases h0:sep.length=0
  .rw[if_neg (by simpa using h0)]
   refine⟨"1",rfl,(λk hk=>by
    have e:sg "1" =[49]:=rfl;rw[e]at hk;have:=aaq.mp hk;omega),by decide,?_⟩
   rw[h0,show(((0:Nat):Int) != 0)=false from rfl]at t1;erw[t1]
  .rw[if_pos h0]
   refine⟨b,rfl,λk hk=>hx k (hb k hk),by omega,?_⟩;rw[show sep.length=1 by omega,show(((1:Nat):Int) != 0)=true from rfl]at t1;erw[t1]
 obtain⟨be,w6,hba,hbl,ebe⟩:=w6;rw[<-hae,<-w6];clear hae w6;obtain⟨c1,m1,p1⟩:=vY (signs:=qN) (most:=6) (c:=c) haa hal;obtain⟨c2,m2,p2⟩:=vY (signs:=qN) (most:=6) (c:=c1) hba hbl;have FZ:bM [.str "0123456789",.str ab,.int 6] c=aa (.bl (eR qN ab 6),c1):=m1;have M6:bM [.str "0123456789",.str be,.int 6] c1=aa (.bl (eR qN be 6),c2):=m2;have start:∀{R:Option (Fl×Qm.Env×Cells)}{Z:XS},Z [aa (.str x),aa (.tup [.str a,.str sep,.str b]),aa (.str ab),aa (.str be),ae] c=R->(ax (aE 1 (ki vP (eV 0) (af (eC (.str "/")) aj))) (ax (aE 2 (lY (tV (ki e_ (eV 0) (af (eC (.str "-")) aj))) (kC (e2 aK (eV 1) (eC (.int 0)))) (e2 aK (eV 1) (eC (.int 0))))) (ax (aE 3 (lY (mV (e2 aK (eV 1) (eC (.int 1)))) (e2 aK (eV 1) (eC (.int 2))) (eC (.str "1")))) Z))) [aa (.str x),ae,ae,ae,ae] c=R:=λ{R Z} hR=>by
  refine aw (σ1:=[aa (.str x),aa (.tup [.str a,.str sep,.str b]),ae,ae,ae]) (c1:=c) (by erw[ki,iu,mp]) ?_;refine aw (σ1:=[aa (.str x),aa (.tup [.str a,.str sep,.str b]),aa (.str ab),ae,ae]) (c1:=c) (by rw[jI,eab];rfl) ?_;refine aw (σ1:=[aa (.str x),aa (.tup [.str a,.str sep,.str b]),aa (.str ab),aa (.str be),ae]) (c1:=c) (by rw[jI,ebe];rfl) ?_;exact hR
 unfold qO
 by_cases hA:eR qN ab 6=true
 .by_cases hB:eR qN be 6=true
  .have iA:∀c:Cells,jf [.str ab] c=aa (.int (dv ab:Int),c):=λc=>zl hA
   have iB:∀c:Cells,jf [.str be] c=aa (.int (dv be:Int),c):=λc=>zl hB
   have vA:=(BY hA).1;have vB:=(BY hB).1;rw[hA]at FZ;rw[hB]at M6
   by_cases h0:dv be=0
   .rw[if_neg (λz=>z.2.2 h0)]
    have VT:((dv be:Nat):Int)=0:=by omega
    refine⟨c2,?_,p1.trans p2⟩;have run:dD [aa (.str x),ae,ae,ae,ae] c=aa (.rt .aA,[aa (.str x),aa (.tup [.str a,.str sep,.str b]),aa (.str ab),aa (.str be),ae],c2):=start (by erw[FZ,M6,iB,VT]);erw[cB,run]
   .rw[if_pos ⟨hA,hB,h0⟩]
    have VT:decide (((dv be:Nat):Int)=0)=false:=decide_eq_false (by omega);generalize hn:(if abY x "-" =true then -(dv ab:Int)else(dv ab:Int))=n;have Jp: -1000000<n/\n<1000000:=by rw[<-hn];split<;>omega
    have nb:=MW (a:=n) (b:=(dv be:Int)) Jp.1 Jp.2 (by omega) (by omega);have nu:=DY (n:=n) (d:=(dv be:Int)) (c:=c2) (by omega) (My.Bd.mono (wK (i:=(dv be:Int)) (by omega)) (by decide));obtain⟨c3,nt,p3⟩:=AV (c:=c2) nb;generalize My.nm n (dv be)=u at nb nu nt;generalize My.dn n (dv be)=v at nb nu nt;have eq:=gU (c:=c3) (BV nb).ok (mK hx);have an:lY (tV (ki e_ (eV 0) (af (eC (.str "-")) aj))) (e1 ez (eB jf (af (eV 2) aj))) (eB jf (af (eV 2) aj)) [aa (.str x),aa (.tup [.str a,.str sep,.str b]),aa (.str ab),aa (.str be),ae] c2=aa (.int n,c2):=by
     have t1:ki e_ (eV 0) (af (eC (.str "-")) aj) [aa (.str x),aa (.tup [.str a,.str sep,.str b]),aa (.str ab),aa (.str be),ae] c2=aa (.bl (abY x "-"),c2):=by erw[ki,iu,ms]
     rw[<-hn];cases hs:abY x "-" with
     |true=>rw[hs]at t1;erw[t1,iA]
     |false=>rw[hs]at t1;erw[t1,iA]
    have mid:∀{R:Option (Fl×Qm.Env×Cells)},bj (lY (tV (e2 cO (av dC [] (af (eV 4) aj)) (eV 0))) (eV 4) (eC .aA)) [aa (.str x),aa (.tup [.str a,.str sep,.str b]),aa (.str ab),aa (.str be),aa (.tup [.int u,.int v])] c2=R->dD [aa (.str x),ae,ae,ae,ae] c=R:=λhR=>by
     refine start ?_;refine aw (σ1:=[aa (.str x),aa (.tup [.str a,.str sep,.str b]),aa (.str ab),aa (.str be),ae]) (c1:=c2) (by erw[FZ,M6,iB,VT]) ?_;refine aw (σ1:=[aa (.str x),aa (.tup [.str a,.str sep,.str b]),aa (.str ab),aa (.str be),aa (.tup [.int u,.int v])]) (c1:=c2) (by
      rw[jI,HA,Hz,an];erw[iB,nu]) ?_
     exact hR
    by_cases ht:TT u v=x
    .rw[if_pos ht]
     rw[decide_eq_true ht]at eq;refine⟨c3,?_,(p1.trans p2).trans p3⟩;have run:=mid (R:=aa (.rt (.tup [.int u,.int v]),[aa (.str x),aa (.tup [.str a,.str sep,.str b]),aa (.str ab),aa (.str be),aa (.tup [.int u,.int v])],c3)) (by erw[nt,eq]);erw[cB,run]
    .rw[if_neg ht]
     rw[decide_eq_false ht]at eq;refine⟨c3,?_,(p1.trans p2).trans p3⟩;have run:=mid (R:=aa (.rt .aA,[aa (.str x),aa (.tup [.str a,.str sep,.str b]),aa (.str ab),aa (.str be),aa (.tup [.int u,.int v])],c3)) (by erw[nt,eq]);erw[cB,run]
  .have hB':eR qN be 6=false:=by simpa using hB
   rw[if_neg (λz=>hB z.2.1)];rw[hA]at FZ;rw[hB']at M6;refine⟨c2,?_,p1.trans p2⟩;have run:dD [aa (.str x),ae,ae,ae,ae] c=aa (.rt .aA,[aa (.str x),aa (.tup [.str a,.str sep,.str b]),aa (.str ab),aa (.str be),ae],c2):=start (by erw[FZ,M6]);erw[cB,run]
 .have hA':eR qN ab 6=false:=by simpa using hA
  rw[if_neg (λz=>hA z.1)];rw[hA']at FZ;refine⟨c1,?_,p1⟩;have run:dD [aa (.str x),ae,ae,ae,ae] c=aa (.rt .aA,[aa (.str x),aa (.tup [.str a,.str sep,.str b]),aa (.str ab),aa (.str be),ae],c1):=start (by erw[FZ]);erw[cB,run]
theorem tP{ws:List Str}(hl:x.length<=3000)(hw:fQ (bK (sg x))=ws.map sg):∃z,dM [.str x] c=aa (.ref (c.length+1),c++[z,.lst (ws.map D.str)]):=by
 obtain⟨z,e1⟩:=BN (c:=c) hl;have ew:(fQ (bK (sg x))).map (λp=>D.str (i_ p))=ws.map D.str:=by
  rw[hw,ajx,show((λp=>D.str (i_ p)) ∘ sg)=D.str from funext λz=>by simp[rV]]
 rw[ew]at e1;exact⟨z,e1⟩
theorem Si{ws:List Str}(hl:x.length<=3000)(hw:fQ (bK (sg x))=ws.map sg)(h:ws.length<2):∃c',cy [.str x] c=aa (.aA,c')/\c <+:c':=by
 obtain⟨z,e1⟩:=tP (c:=c) hl hw;generalize iw:c++[z,Cell.lst (ws.map D.str)]=c1 at e1;have w1:c1[c.length+1]? =aa (.lst (ws.map D.str)):=by rw[<-iw];simp
 have bl:bA [.ref (c.length+1)] c1=aa (.int (ws.length:Int),c1):=by rw[eo,aB w1];simp
 have h2:((ws.length:Nat):Int)<2:=by omega
 refine⟨c1,?_,⟨_,iw⟩⟩;rw[cy,dB,et];erw[e1,bl,h2]
theorem D7{z:Str}(hl:x.length<=3000)(hw:fQ (bK (sg x))=(us++[y,z]).map sg)(hy:y.cps.all (λk=>decide (k<1114112))=true)(h:¬y= ":"):∃c',cy [.str x] c=aa (.aA,c')/\c <+:c':=by
 obtain⟨q,e1⟩:=tP (c:=c) hl hw;generalize iw:c++[q,Cell.lst ((us++[y,z]).map D.str)]=c1 at e1;have w1:c1[c.length+1]? =aa (.lst (us.map D.str++[.str y,.str z])):=by rw[<-iw];simp
 have s1:=aB w1;have bl:bA [.ref (c.length+1)] c1=aa (.int ((us.length+2:Nat):Int),c1):=by rw[eo,s1];simp
 have h2:¬(((us.length+2:Nat):Int)<2):=by omega
 have MZ:eI (us.map D.str++[.str y,.str z]) (-2)=aa (.str y):=BX;have ne:=zf (c:=c1) hy uZ;rw[decide_eq_false h]at ne;refine⟨c1,?_,⟨_,iw⟩⟩;rw[cy,dB,et];erw[e1,bl,decide_eq_false h2,cJ,s1,MZ,ne]
theorem qP:ik d .aA c=aa (.bl (dA d),c):=by cases d<;>rfl
theorem Jx{z:Str}(hl:x.length<=3000)(hw:fQ (bK (sg x))=(us++[(":":Str),z]).map sg)(hk:jV us [] [])(hz:asc z)(hzl:z.length<=9000):
  ∃c',cy [.str x] c=aa (if (dA (cX us [] [])||dA (qO z (vZ z) (v9 z)))=true then .aA else .tup [cX us [] [],qO z (vZ z) (v9 z)],c')/\c <+:c':=by
 obtain⟨q,e1⟩:=tP (c:=c) hl hw;generalize iw:c++[q,Cell.lst ((us++[(":":Str),z]).map D.str)]=c1 at e1;have w1:c1[c.length+1]? =aa (.lst (us.map D.str++[.str ":",.str z])):=by rw[<-iw];simp
 have p1:c <+:c1:=⟨_,iw⟩;have s1:=aB w1;have bl:bA [.ref (c.length+1)] c1=aa (.int ((us.length+2:Nat):Int),c1):=by rw[eo,s1];simp
 have h2:¬(((us.length+2:Nat):Int)<2):=by omega
 have MZ:eI (us.map D.str++[.str ":",.str z]) (-2)=aa (.str ":"):=BX;have VQ:eI (us.map D.str++[.str ":",.str z]) (-1)=aa (.str z):=HG;have ne:=zf (c:=c1) uZ uZ;rw[show(!decide ((":":Str)= ":"))=false by decide]at ne;have gc:=kO (lo:=ae) (hi:=aa (-2)) w1;rw[HH]at gc;have o2:bF (Qm.e1 ez (eC (.int 2))) [aa (.str x),aa (.ref (c.length+1)),ae,ae] c1=aa (aa (-2),c1):=jK rfl;obtain⟨c2,e2,p2⟩:=zk (c:=c1++[.lst (us.map D.str)]) aG hk;have FD:c1 <+:c2:=(abn c1 _).trans p2;have s2:=aB (a_ FD w1);obtain⟨c3,e3,p3⟩:=BZ (c:=c2) hz hzl;refine⟨c3,?_,p1.trans (FD.trans p3)⟩;generalize cX us [] []=t at e2;generalize qO z (vZ z) (v9 z)=v at e3;have n1:=qP (d:=t) (c:=c3);have n2:=qP (d:=v) (c:=c3);have run:∃d,et [aa (.str x),ae,ae,ae] c=aa (.rt d,[aa (.str x),aa (.ref (c.length+1)),aa t,aa v],c3)/\d=(if (dA t||dA v)=true then .aA else .tup [t,v]):=by
  refine⟨_,?_,rfl⟩;unfold et;refine aw (σ1:=[aa (.str x),aa (.ref (c.length+1)),ae,ae]) (c1:=c1) (by erw[e1]) ?_;refine aw (σ1:=[aa (.str x),aa (.ref (c.length+1)),ae,ae]) (c1:=c1) (by erw[bl,decide_eq_false h2,cJ,s1,MZ,ne]) ?_;refine aw (σ1:=[aa (.str x),aa (.ref (c.length+1)),aa t,ae]) (c1:=c2) (by erw[o2,gc,e2]) ?_;refine aw (σ1:=[aa (.str x),aa (.ref (c.length+1)),aa t,aa v]) (c1:=c3) (by erw[cJ,s2,VQ,e3]) ?_;cases h1:dA t with
  |true=>rw[h1]at n1;erw[n1];rfl
  |false=>
   rw[h1]at n1;cases h3:dA v with
   |true=>rw[h3]at n2;erw[n1,n2];rfl
   |false=>rw[h3]at n2;erw[n1,n2];rfl
 obtain⟨d,run,rfl⟩:=run;erw[cy,run]
inductive Sx where
 |S|M|E
 deriving DecidableEq
def fY(s:Sx)(w:Str):Option Sx:=match s with
 |.S=>if w= "any" then aa .E else if w= "not" then aa .S else if df w=true then aa .M else ae
 |.M=>if df w=true then aa .E else ae
 |.E=>if w= "and"\/w= "or" then aa .S else ae
def o_(s:Sx):D->Option Sx
 |.str w=>fY s w
 |.tup _=>if s= .S then aa .E else ae
 |_=>ae
def jD:Sx->List D->Option Sx
 |s,[]=>aa s
 |s,d::r=>(o_ s d).bind λs'=>jD s' r
theorem jL(s:Sx)(d:D)(r:List D):jD s (d::r)=(o_ s d).bind λs'=>jD s' r:=rfl
theorem v_(s:Sx)(a b:List D):jD s (a++b)=(jD s a).bind λs'=>jD s' b:=by
 induction a generalizing s with
 |nil=>rfl
 |cons d a ih=>
  rw[abP,jL,jL];cases o_ s d with
  |none=>rfl
  |some s'=>exact ih s'
def dS(q:Sx×Nat)(w:Str):Option (Sx×Nat):=if w= "(" then(if q.1= .S then aa (.S,q.2+1)else ae)else if w= ")" then(if q.1= .E/\0<q.2 then aa (.E,q.2 - 1)else ae)else(fY q.1 w).map λs=>(s,q.2)
def run:Sx×Nat->List Str->Option (Sx×Nat)
 |q,[]=>aa q
 |q,w::r=>(dS q w).bind λq'=>run q' r
theorem jM(q:Sx×Nat)(w:Str)(r:List Str):run q (w::r)=(dS q w).bind λq'=>run q' r:=rfl
theorem kb(q:Sx×Nat)(a b:List Str):run q (a++b)=(run q a).bind λq'=>run q' b:=by
 induction a generalizing q with
 |nil=>rfl
 |cons d a ih=>
  rw[abP,jM,jM];cases dS q d with
  |none=>rfl
  |some s'=>exact ih s'
theorem B9:df "any" =false:=by decide
theorem B_:df "not" =false:=by decide
theorem u5:df "and" =false:=by decide
theorem zm:df "or" =false:=by decide
theorem M7:df "(" =false:=by decide
theorem M8:df ")" =false:=by decide
theorem gX(h:df x=true)(g:df y=false):x≠y:=by rintro rfl;rw[g]at h;cases h
theorem F_{s s' t:Sx}(h:fY s w=aa t)(g:fY s' w=aa t):s=s':=by
 have ca:∀{u:Str},df u=true->u≠"any"/\u≠"not"/\u≠"and"/\u≠"or":=λh=>⟨gX h B9,gX h B_,gX h u5,gX h zm⟩
 cases s<;>cases s'<;>first|rfl|skip
 all_goals (exfalso;unfold fY at h g;dsimp only at h g)
 .split at g
  .rename_i hf
   obtain⟨n1,n2,n3,n4⟩:=ca hf;rw[if_neg n1,if_neg n2,if_pos hf]at h;cases h;cases g
  .cases g
 .split at g
  .rename_i hf
   rcases hf with rfl|rfl
   .rw[if_neg (by decide),if_neg (by decide),u5]at h;cases h
   .rw[if_neg (by decide),if_neg (by decide),zm]at h;cases h
  .cases g
 .split at h
  .rename_i hf
   obtain⟨n1,n2,n3,n4⟩:=ca hf;rw[if_neg n1,if_neg n2,if_pos hf]at g;cases h;cases g
  .cases h
 .split at h
  .rename_i hf
   obtain⟨n1,n2,n3,n4⟩:=ca hf;rw[if_neg (λz=>z.elim n3 n4)]at g;cases g
  .cases h
 .split at h
  .rename_i hf
   rcases hf with rfl|rfl
   .rw[if_neg (by decide),if_neg (by decide),u5]at g;cases g
   .rw[if_neg (by decide),if_neg (by decide),zm]at g;cases g
  .cases h
 .split at g
  .rename_i hf
   obtain⟨n1,n2,n3,n4⟩:=ca hf;rw[if_neg (λz=>z.elim n3 n4)]at h;cases h
  .cases g
theorem Ga{q q' r:Sx×Nat}(h:dS q w=aa r)(g:dS q' w=aa r):q=q':=by
 obtain⟨s,d⟩:=q;obtain⟨s',d'⟩:=q';unfold dS at h g;dsimp only at h g;split at h
 .rename_i hw
  rw[if_pos hw]at g;split at h
  .split at g
   .rename_i h1 h2
    cases h;have:=congrArg amu (abK g);dsimp only at this;rw[h1,h2,show d=d' by omega]
   .cases g
  .cases h
 .rename_i hw
  rw[if_neg hw]at g;split at h
  .rename_i hc
   rw[if_pos hc]at g;split at h
   .split at g
    .rename_i h1 h2
     cases h;have:=congrArg amu (abK g);dsimp only at this;rw[h1.1,h2.1,show d=d' by omega]
    .cases g
   .cases h
  .rename_i hc
   rw[if_neg hc]at g;obtain⟨t,e1,e2⟩:=adi.mp h;obtain⟨t',e3,e4⟩:=adi.mp g;rw[<-e4]at e2;have h1:t=t':=congrArg Prod.fst e2;have h2:d=d':=congrArg amu e2;subst h1 h2;rw[F_ e1 e3]
theorem D8:∀{b:List Str}{q q' r:Sx×Nat},run q b=aa r->run q' b=aa r->q=q'
 |[],q,q',r,h,g=>by cases h;cases g;rfl
 |w::b,q,q',r,h,g=>by
  unfold run at h g;cases e1:dS q w with
  |none=>rw[e1]at h;cases h
  |some t=>
   cases e2:dS q' w with
   |none=>rw[e2]at g;cases g
   |some t'=>
    rw[e1]at h;rw[e2]at g;have:=D8 (b:=b) h g;subst this;exact Ga e1 e2
theorem M9{a m m' b:List Str}{q r:Sx×Nat}(h:run q (a++m++b)=aa r)(hm:∀p p',run p m=aa p'->run p m'≠aa p'):run q (a++m'++b)≠aa r:=by
 intro g;rw[kb,kb]at h g;cases e:run q a with
 |none=>rw[e]at h;cases h
 |some p=>
  rw[e]at h g;dsimp only[Zu]at h g;cases e1:run p m with
  |none=>rw[e1]at h;cases h
  |some p1=>
   cases e2:run p m' with
   |none=>rw[e2]at g;cases g
   |some p2=>
    rw[e1]at h;rw[e2]at g;have:=D8 (b:=b) h g;subst this;exact hm p p1 e1 e2
theorem lK(h:Wd x):df x=true:=by
 unfold df eR;rw[abw,abw];refine⟨⟨decide_eq_true ⟨h.pos,by have:=h.FR;omega⟩,abD.mpr λk hk=>decide_eq_true (DP h.toW0 k hk).1⟩,?_⟩;rw[decide_eq_false h.free];rfl
theorem u6{s:Sx}{d:Nat}(h:df x=true):dS (s,d) x=(fY s x).map λs=>(s,d):=by
 unfold dS;rw[if_neg (gX h M7),if_neg (gX h M8)]
theorem M_{d:Nat}(h:df x=true):dS (.S,d) x=aa (.M,d):=by
 rw[u6 h];unfold fY;dsimp only
 rw[if_neg (gX h B9),if_neg (gX h B_),if_pos h];rfl
theorem Sj{d:Nat}(h:df x=true):dS (.M,d) x=aa (.E,d):=by
 rw[u6 h];unfold fY;dsimp only
 rw[if_pos h];rfl
theorem Qb{d:Nat}:dS (.S,d) "not" =aa (.S,d):=rfl
theorem Na{d:Nat}:dS (.S,d) "(" =aa (.S,d+1):=rfl
theorem Nc{d:Nat}:dS (.E,d+1) ")" =aa (.E,d):=by
 unfold dS;rw[if_neg (by decide),if_pos rfl,if_pos ⟨rfl,by omega⟩];rfl
theorem VU(k:Nat){d:Nat}:dS (.E,d) (kw k)=aa (.S,d):=by
 match k with
 |0=>rfl
 |_+1=>rfl
theorem Ex.run{k:Nat}{t:D}(h:Ex k n ts is t):∀d,qf.run (.S,d) ts=aa (.E,d):=by
 induction h with
 |is wx wy=>
  intro d;unfold qf.run;rw[M_ (lK wx),Zu];unfold qf.run;rw[Sj (lK wy),Zu];rfl
 |any=>intro d;rfl
 |not _ ih=>
  intro d;unfold qf.run;rw[Qb,Zu];exact ih d
 |par _ ih=>
  intro d;unfold qf.run;rw[Na,Zu,kb,ih,Zu];unfold qf.run;rw[Nc,Zu];rfl
 |up _ _ ih=>exact ih
 |@bin k n ts us is js t u hk h1 h2 oV oW=>
  intro d;rw[kb,kb,oV,Zu];have:qf.run (.E,d) [kw k]=aa (.S,d):=by
   unfold qf.run;rw[VU,Zu];rfl
  rw[this,Zu,oW]
theorem tQ:dA d=true↔d= .aA:=by cases d<;>simp[dA]
theorem Gb(k:Nat)(r:List D):jD .S (aaL k (.str "not")++r)=jD .S r:=by
 induction k with
 |zero=>rfl
 |succ k ih=>
  rw[ab8,abP,jL];have:o_ .S (.str "not")=aa .S:=rfl;rw[this];exact ih
theorem Jy(h:fF is≠.aA):jD .S is=aa .E:=by
 unfold fF at h;split at h
 .rename_i x
  split at h
  .rename_i hx;subst hx;rfl
  .exact absurd rfl h
 .rfl
 .rename_i x y
  split at h
  .rename_i hf
   rw[abw]at hf;obtain⟨f1,f2⟩:=hf;have a1:o_ .S (.str x)=aa .M:=by
    show fY .S x=_;unfold fY;dsimp only
    rw[if_neg (gX f1 B9),if_neg (gX f1 B_),if_pos f1]
   have a2:o_ .M (.str y)=aa .E:=by
    show fY .M y=_;unfold fY;dsimp only
    rw[if_pos f2]
   rw[jL,a1,Zu,jL,a2];rfl
  .exact absurd rfl h
 .exact absurd rfl h
theorem Gd(h:jo is≠.aA):jD .S is=aa .E:=by
 have hs:=(o9 is).1;rw[hs,Gb];refine Jy λe=>h ?_
 unfold jo;rw[e];rfl
theorem r_(hw:o_ .E (.str w)=aa .S):∀{r g:List D},(∀p∈bC w g r,jD .S p=aa .E)->jD .S (g++r)=aa .E
 |[],g,h=>by
  rw[aa5];exact h g (by unfold bC;simp)
 |d::r,g,h=>by
  unfold bC at h;split at h
  .rename_i hd
   have e:=zh hd;subst e;have h1:=h g (aa7 ..);have h2:=r_ hw (r:=r) (g:=[]) λp hp=>h p (aay _ hp)
   rw[v_,h1,Zu,jL,hw,Zu];exact h2
  .have:=r_ hw (r:=r) (g:=g++[d]) h
   rw[agJ]at this;exact this
theorem D9{ps:List (List D)}(h:lI w (ps.map P)≠.aA):∀p∈ps,P p≠.aA:=by
 intro p hp e;cases hq:ps.map P with
 |nil=>
  have:=alg.mp hq;subst this;cases hp
 |cons v vs=>
  rw[hq]at h;unfold lI at h;dsimp only at h;rw[if_pos]at h
  .exact h rfl
  .rw[<-hq]
   exact ahj.mpr ⟨P p,adn.mpr ⟨p,hp,rfl⟩,tQ.mpr e⟩
theorem Nd(k:Nat):o_ .E (.str (kw k))=aa .S:=by
 match k with
 |0=>rfl
 |_+1=>rfl
theorem zo(h:bV g≠.aA):jD .S g=aa .E:=by
 have h1:=D9 (P:=zi) h;refine r_ (Nd 1) (g:=[]) λp hp=>?_
 have h2:=D9 (P:=jo) (h1 p hp);exact r_ (Nd 0) (g:=[]) λq hq=>Gd (h2 q hq)
theorem Ca(g:List D):bV g= .aA\/∃xs,bV g= .tup xs:=by
 have Qc:∀(k:Str) (vs:List D) (v:D),(∃xs,v= .tup xs)->∃xs,fold k v vs= .tup xs:=by
  intro k vs
  induction vs with
  |nil=>intro v h;exact h
  |cons a vs ih=>intro v h;exact ih _ ⟨_,rfl⟩
 have Nf:∀(w:Str) (vs:List D),(∀v∈vs,v= .aA\/∃xs,v= .tup xs)->lI w vs= .aA\/∃xs,lI w vs= .tup xs:=by
  intro w vs h;cases vs with
  |nil=>exact .inl rfl
  |cons v vs=>
   unfold lI;dsimp only
   split
   .exact .inl rfl
   .rename_i hn
    rcases h v (aa7 ..)with e|e
    .exfalso;apply hn;rw[e];rfl
    .exact .inr (Qc w vs v e)
 have th:∀is,jo is= .aA\/∃xs,jo is= .tup xs:=by
  intro is;unfold jo;rcases AX (is.drop (lJ is))with e|⟨xs,e⟩
  .rw[e];exact .inl rfl
  .rw[e];exact .inr (vV ⟨xs,rfl⟩)
 refine Nf _ _ λv hv=>?_
 obtain⟨p,_,rfl⟩:=adn.mp hv;refine Nf _ _ λv hv=>?_
 obtain⟨q,_,rfl⟩:=adn.mp hv;exact th q
theorem se:∀(ts:List Str) (st:List (List D)) (g:List D),cX ts st g≠.aA->∃s,jD .S g=aa s/\(∀q∈st,jD .S q=aa .S)/\run (s,st.length) ts=aa (.E,0)
 |[],[],g,h=>⟨.E,zo h,(λq hq=>by cases hq),rfl⟩
 |[],_::_,g,h=>absurd rfl h
 |w::ts,st,g,h=>by
  by_cases h1:w= "("
  .rw[AY h1]at h
   obtain⟨s,a,b,c⟩:=se ts (g::st) [] h;cases a;refine⟨.S,b g (aa7 ..),λq hq=>b q (aay _ hq),?_⟩;rw[jM,h1,Na,Zu];exact c
  .by_cases h2:w= ")"
   .cases st with
    |nil=>rw[zj h1 h2]at h;exact absurd rfl h
    |cons q st=>
     rw[AZ h1 h2]at h;split at h
     .exact absurd rfl h
     .rename_i hn
      have hp:bV g≠.aA:=λe=>hn (by rw[e];rfl)
      obtain⟨s,a,b,c⟩:=se ts st (q++[bV g]) h;obtain⟨xs,ex⟩:=(Ca g).resolve_left hp;rw[v_]at a;cases eq:jD .S q with
      |none=>rw[eq]at a;cases a
      |some s0=>
       rw[eq,Zu,ex]at a;have a':(o_ s0 (.tup xs)).bind (λs'=>jD s' [])=aa s:=a;cases s0 with
       |S=>
        cases a';refine⟨.E,zo hp,λp hp=>?_,?_⟩
        .rcases aaI.mp hp with rfl|hp
         .exact eq
         .exact b p hp
        .rw[jM,h2,aac,Nc,Zu]
         exact c
       |M=>cases a'
       |E=>cases a'
   .rw[D6 h1 h2]at h
    obtain⟨s,a,b,c⟩:=se ts st (g++[.str w]) h;rw[v_]at a;cases eq:jD .S g with
    |none=>rw[eq]at a;cases a
    |some s0=>
     rw[eq,Zu]at a;have a':(fY s0 w).bind (λs'=>aa s')=aa s:=a;refine⟨s0,rfl,b,?_⟩;rw[jM];unfold dS;rw[if_neg h1,if_neg h2];cases ew:fY s0 w with
     |none=>rw[ew]at a';cases a'
     |some s1=>rw[ew]at a';cases a';exact c
theorem Ng(h:run (.S,0) ts≠aa (.E,0)):cX ts [] []= .aA:=by
 refine Classical.byContradiction λhn=>?_
 obtain⟨s,a,_,c⟩:=se ts [] [] hn;cases a;exact h c
theorem wa:∀{r g:List D},bC w g r≠[]
 |[],g=>by unfold bC;simp
 |d::r,g=>by
  rw[bC.eq_def];dsimp only
  split
  .simp
  .exact wa (r:=r)
inductive Wg:List D->Nat->Prop
 |nil:Wg [] 0
 |str {x:Str}{g:List D}{n:Nat}:asc x->x.length<=9000->Wg g n->Wg (.str x::g) (n+1)
 |tr {t:D}{g:List D}{m n:Nat}:Tr m t->1<=m->Wg g n->Wg (t::g) (m+n)
theorem Wg.app{a:List D}{m:Nat}(h:Wg a n)(g:Wg b m):Wg (a++b) (n+m):=by
 induction h with
 |nil=>rw[ahd];exact g
 |@str x g' n hx hl _ ih=>rw[show n+1+m=(n+m)+1 by omega];exact .str hx hl ih
 |tr ht h1 _ ih=>rw[aj1];exact .tr ht h1 ih
theorem Wg.split{a:List D}:∀{n:Nat},Wg (a++b) n->∃i j,Wg a i/\Wg b j/\i+j=n:=by
 induction a with
 |nil=>intro n h;exact⟨0,n,.nil,h,by omega⟩
 |cons d a ih=>
  intro n h;rw[abP]at h;cases h with
  |str hx hl h=>obtain⟨i,j,h1,h2,h3⟩:=ih h;exact⟨i+1,j,.str hx hl h1,h2,by omega⟩
  |tr ht h1 h=>obtain⟨i,j,g1,g2,g3⟩:=ih h;exact⟨_+i,j,.tr ht h1 g1,g2,by omega⟩
theorem Wg.len(h:Wg g n):g.length<=n:=by
 induction h with
 |nil=>exact aat _
 |str _ _ _ ih=>rw[aac];omega
 |tr _ h1 _ ih=>rw[aac];omega
theorem Wg.im(h:Wg g n)(hn:n<=40):∀d∈g,Im d:=by
 induction h with
 |nil=>intro d hd;cases hd
 |str hx hl _ ih=>
  intro d hd;rcases aaI.mp hd with rfl|hd
  .exact .str hx hl
  .exact ih (by omega) d hd
 |tr ht h1 _ ih=>
  intro d hd;rcases aaI.mp hd with rfl|hd
  .exact .tr (ht.mono (by omega))
  .exact ih (by omega) d hd
def Nw(n:Nat)(d:D):Prop:=d= .aA\/(Tr n d/\1<=n)
theorem Nw.nt(h:Nw n d)(hn:n<=40):NT d:=by
 rcases h with rfl|⟨h,_⟩
 .exact .aA
 .exact .tr (h.mono hn)
theorem Nw.mono{m:Nat}(h:Nw n d)(hn:n<=m):Nw m d:=h.imp id λh=>⟨h.1.mono hn,by omega⟩
theorem A1(h:df x=true):Wd x:=by
 unfold df eR at h;simp only[abw,decide_eq_true_eq,abD,ajQ,decide_eq_false_iff_not]at h;obtain⟨⟨⟨h1,h2⟩,h3⟩,h4⟩:=h;refine⟨⟨abD.mpr λk hk=>?_,h1,by omega⟩,h4⟩;have hm:=h3 k hk;have ha:∀k∈sg "abcdefghijklmnopqrstuvwxyz",97<=k/\k<=122:=by decide
 exact decide_eq_true (ha k hm)
theorem Qe(h:Wg is n):Nw n (fF is):=by
 unfold fF;split
 .rename_i x
  split
  .cases h with
   |str _ _ h=>cases h;exact .inr ⟨.any,aat _⟩
   |tr ht _ _=>obtain⟨xs,e⟩:=fH ht;cases e
  .exact .inl rfl
 .cases h with
  |tr ht h1 h=>cases h;exact .inr ⟨ht.mono (by omega),by omega⟩
 .rename_i x y
  split
  .rename_i hf
   rw[abw]at hf;cases h with
   |str _ _ h=>exact .inr ⟨.is (A1 hf.1) (A1 hf.2),by omega⟩
   |tr ht _ _=>obtain⟨xs,e⟩:=fH ht;cases e
  .exact .inl rfl
 .exact .inl rfl
theorem Nh{t:D}(h:Tr n t)(k:Nat):Tr (k+n) (om k t):=by
 induction k with
 |zero=>rw[ahd];exact h
 |succ k ih=>rw[show k+1+n=(k+n)+1 by omega];exact .not ih
theorem Wg.aby{k:Nat}(h:Wg (aaL k (.str "not")++g) n):∃j,Wg g j/\k+j=n:=by
 induction k generalizing n with
 |zero=>exact⟨n,h,by omega⟩
 |succ k ih=>
  rw[ab8,abP]at h;cases h with
  |str _ _ h=>obtain⟨j,h1,h2⟩:=ih h;exact⟨j,h1,by omega⟩
  |tr ht _ _=>obtain⟨xs,e⟩:=fH ht;cases e
theorem D_(h:Wg is n):Nw n (jo is):=by
 have hs:=(o9 is).1;unfold jo;generalize lJ is=k at hs;rw[hs]at h;obtain⟨j,h1,h2⟩:=h.aby;rcases Qe h1 with e|⟨e,ej⟩
 .rw[e];exact .inl rfl
 .obtain⟨xs,ex⟩:=fH e
  rw[ex]at e |-
  exact .inr ⟨h2 ▸ Nh e k,by omega⟩
theorem u7{w:Str}:∀{r g:List D}{n:Nat},Wg (g++r) n->∀p∈bC w g r,∃i,Wg p i/\i+((bC w g r).length - 1)<=n
 |[],g,n,h,p,hp=>by
  have e:bC w g []=[g]:=by unfold bC;rfl
  rw[e]at hp |-
  rw[aaq.mp hp];rw[aa5]at h;exact⟨n,h,by simp⟩
 |d::r,g,n,h,p,hp=>by
  by_cases hd:lG w d=true
  .have e:bC w g (d::r)=g::bC w [] r:=by rw[bC.eq_def];dsimp only;rw[if_pos hd]
   have ew:=zh hd;rw[e]at hp |-
   obtain⟨i,j,h1,h2,h3⟩:=h.split;rw[ew]at h2;have hlen: 1<=(bC w [] r).length:=alT λz=>absurd (agN.mp z) wa
   cases h2 with
   |@str _ _ j' _ _ h2=>
    have ih:=u7 (w:=w) (r:=r) (g:=[]) h2;rcases aaI.mp hp with rfl|hp
    .refine⟨i,h1,?_⟩
     obtain⟨q,hq⟩:∃q,q∈bC w [] r:=aiQ hlen;obtain⟨iq,_,h5⟩:=ih q hq;rw[aac];omega
    .obtain⟨iq,h4,h5⟩:=ih p hp
     refine⟨iq,h4,?_⟩;rw[aac];omega
   |tr ht _ _=>obtain⟨xs,e⟩:=fH ht;cases e
  .have e:bC w g (d::r)=bC w (g++[d]) r:=by rw[bC.eq_def];dsimp only;rw[if_neg hd]
   rw[e]at hp |-
   exact u7 (w:=w) (r:=r) (g:=g++[d]) (by rw[agJ];exact h) p hp
theorem Ea{k:Nat}(hk:k<2):∀{vs:List D}{v:D}{a:Nat},Tr a v->(∀x∈vs,Tr a x)->Tr (a+vs.length) (fold (kw k) v vs)
 |[],v,a,h,_=>h
 |x::vs,v,a,h,hx=>by
  have h1:Tr (a+1) (.tup [.str (kw k),v,x]):=by
   match k,hk with
   |0,_=>exact .and h (hx x (aa7 ..))
   |1,_=>exact .or h (hx x (aa7 ..))
  have:=Ea hk (vs:=vs) h1 λy hy=>(hx y (aay _ hy)).mono (by omega)
  rw[aac,show a+(vs.length+1)=a+1+vs.length by omega];exact this
theorem VW{k:Nat}(hk:k<2){vs:List D}(h:∀v∈vs,Nw a v):Nw (a+(vs.length - 1)) (lI (kw k) vs):=by
 cases vs with
 |nil=>exact .inl rfl
 |cons v vs=>
  unfold lI;dsimp only
  split
  .exact .inl rfl
  .rename_i hn
   have ht:∀x∈v::vs,Tr a x/\1<=a:=λx hx=>(h x hx).resolve_left λe=>hn (ahj.mpr ⟨x,hx,tQ.mpr e⟩)
   have h1:=ht v (aa7 ..);refine .inr ⟨?_,by omega⟩;rw[aac,Nat.add_sub_cancel];exact Ea hk h1.1 λx hx=>(ht x (aay _ hx)).1
theorem Eb{k:Nat}(hk:k<2)(hP:∀is n,Wg is n->Nw n (P is))(h:Wg is n):Nw n (lI (kw k) ((bC (kw k) [] is).map P)):=by
 have hp:=u7 (w:=kw k) (r:=is) (g:=[]) h;have kf: 1<=(bC (kw k) [] is).length:=alT λz=>absurd (agN.mp z) wa
 have fW:(bC (kw k) [] is).length - 1<=n:=by
  obtain⟨q,hq⟩:=aiQ kf;obtain⟨i,_,h5⟩:=hp q hq;omega
 have:=VW (a:=n - ((bC (kw k) [] is).length - 1)) hk (vs:=(bC (kw k) [] is).map P) λv hv=>by
  obtain⟨p,hpm,rfl⟩:=adn.mp hv;obtain⟨i,h4,h5⟩:=hp p hpm;exact(hP p i h4).mono (by omega)
 rw[aaE,Nat.sub_add_cancel fW]at this;exact this
theorem Ec(h:Wg is n):Nw n (zi is):=Eb (by decide) (λ_ _=>D_) h
theorem A2(h:Wg is n):Nw n (bV is):=Eb (by decide) (λ_ _=>Ec) h
theorem HK(h:Wg g n)(hn:n<=40):HJ g:=by
 refine⟨λd hd=>(h.im hn d hd).it,by have:=h.len;omega,λp hp=>?_⟩;obtain⟨i,h1,h2⟩:=u7 (w:=kw 1) (r:=g) (g:=[]) h p hp;refine⟨⟨λd hd=>(h1.im (by omega) d hd).it,by have:=h1.len;omega,λq hq=>?_⟩,(Ec h1).nt (by omega)⟩;obtain⟨j,g1,g2⟩:=u7 (w:=kw 0) (r:=p) (g:=[]) h1 q hq;exact⟨⟨g1.im (by omega),by have:=g1.len;omega⟩,(D_ g1).nt (by omega)⟩
inductive Ws:List (List D)->Nat->Prop
 |nil:Ws [] 0
 |cons {g:List D}{st:List (List D)}{n m:Nat}:Wg g n->Ws st m->Ws (g::st) (n+m)
theorem sf:∀(ts:List Str) (st:List (List D)) (g:List D) (n m:Nat),(∀w∈ts,asc w/\w.length<=9000)->Wg g n->Ws st m->n+m+nb ts<=40->st.length+ts.length<=4000->jV ts st g
 |[],[],g,n,m,_,hg,_,hn,_=>HK hg (by omega)
 |[],_::_,_,_,_,_,_,_,_,_=>agA
 |w::ts,st,g,n,m,hw,hg,hs,hn,hl=>by
  have VX:=hw w (aa7 ..);have VY:∀v∈ts,asc v/\v.length<=9000:=λv hv=>hw v (aay _ hv)
  rw[aac]at hl;rw[yY]at hn;have gl:=hg.len;rw[jV.eq_def];dsimp only
  refine⟨mK VX.1,by omega,by omega,?_⟩
  by_cases h1:w= "("
  .rw[if_pos h1]
   exact sf ts (g::st) [] 0 (n+m) VY .nil (.cons hg hs) (by omega) (by rw[aac];omega)
  .rw[if_neg h1]
   by_cases h2:w= ")"
   .rw[if_pos h2]
    refine⟨HK hg (by omega),(A2 hg).nt (by omega),?_⟩;cases hs with
    |nil=>exact agA
    |@cons q zQ i j hq hs=>
     refine⟨by have:=hq.len;omega,λkf=>?_⟩;rcases A2 hg with e|⟨e,e1⟩
     .rw[e]at kf;cases kf
     .exact sf ts zQ (q++[bV g]) (i+(n+0)) j VY (hq.app (.tr e e1 .nil)) hs (by omega) (by rw[aac]at hl;omega)
   .rw[if_neg h2]
    have hb:jC w=false:=by simp[jC,h1,h2]
    rw[PZ hb]at hn;exact sf ts st (g++[.str w]) (n+1) m VY (hg.app (.str VX.1 VX.2 .nil)) hs (by omega) (by omega)
theorem Ge(hw:∀w∈ts,asc w/\w.length<=9000)(hn:nb ts<=40)(hl:ts.length<=4000):jV ts [] []:=sf ts [] [] 0 0 hw .nil .nil (by omega) (by simpa using hl)
theorem sh{s:XS}{σ':Qm.Env}(h:s σ c=aa (.nx,σ',c')):mX s σ c=aa (.nx,σ',c'):=by
 unfold mX;rw[h];rfl
theorem zp{g:XG}{body:XS}(J:Nat->Qm.Env->Cells->Prop)(tl:List D):∀(ds:List D) (k:Nat) (σ:Qm.Env) (c:Cells),(∀i d σ c',ds[i]? =aa d->J (k+i) σ c'->∃σ1 c1 σ2 c2,g d σ c'=aa (σ1,c1)/\body σ1 c1=aa (.nx,σ2,c2)/\J (k+i+1) σ2 c2)->J k σ c->
  ∃σ' c',bY [] g body (ds++tl) σ c=bY [] g body tl σ' c'/\J (k+ds.length) σ' c'
 |[],k,σ,c,_,h=>⟨σ,c,rfl,h⟩
 |d::ds,k,σ,c,hs,h=>by
  obtain⟨σ1,c1,σ2,c2,e1,ee,h2⟩:=hs 0 d σ c rfl h;obtain⟨σ',c',e3,h3⟩:=zp J tl ds (k+1) σ2 c2 (λi d' τ c' hd hJ=>by
   have:=hs (i+1) d' τ c' (by rw[akd];exact hd) (by rw[show k+(i+1)=k+1+i by omega];exact hJ);rw[show k+(i+1)=k+1+i by omega]at this;exact this) h2
  refine⟨σ',c',?_,by rw[aac,show k+(ds.length+1)=k+1+ds.length by omega];exact h3⟩;rw[abP,gW fw e1 ee,e3]
structure Rd(x:Str)(v:Option D):Prop where
 len:x.length<=3000
 nl: 10∉sg x
 em:(fQ (bK (sg x))).isEmpty=v.isNone
 rd:∀d,v=aa d->∀c,∃c',cy [.str x] c=aa (d,c')/\c <+:c'
noncomputable def mZ(κ:Nat->Nat):XS:=(cu (mV (av dM [] (af (e2 aK (eV 2) (eV 3)) aj)))
   (ax (mX (aE 4 (av cy [] (af (e2 aK (eV 2) (eV 3)) aj))))
   (ax (cu (tV (e2 ik (eV 4) (eC .aA)))
   (uS (Dl (κ 6) (κ 0) ["row"] (af (e2 bc (eV 3) (eC (.int 1))) aj)))
   bz)
   (mX (de (eM bI (eV 1) (af (eV 4) aj))))))
   bz)
theorem Ni{e:XE}(h:e σ c=aa (.ref n,c'))(hn:c'[n]? =aa (.lst xs)):mV e σ c=aa (!xs.isEmpty,c'):=by
 unfold mV;rw[h,Zu];dsimp only
 rw[bp hn];rfl
theorem Ee(a b:Nat)(lo:Int):eU lo (a+b)=eU lo a++eU (lo+a) b:=by
 unfold eU;rw[List.range_add,agF,ajx]
 congr 1
 refine ali λk _=>?_
 show D.int _=D.int _;rw[amO]
 congr 1
 omega
variable{κ:Nat->Nat}
theorem A3{X:D}{xs:List Str}{B R:Nat}{v:Option D}{rr:Option D}(hR:c'[R]? =aa (.lst (xs.map D.str)))(hB:c'[B]? =aa (.lst ys))(hBR:B≠R)(hx:xs[i]? =aa x)(hv:Rd x v)(Qf:ys.length<=1000):
  ∃c2,c' <+:c2/\((v=ae/\mZ κ [aa X,aa (.ref B),aa (.ref R),aa (.int (0+(i:Int))),rr] c'=aa (.nx,[aa X,aa (.ref B),aa (.ref R),aa (.int (0+(i:Int))),rr],c2))\/
   (∃d,v=aa d/\dA d=false/\mZ κ [aa X,aa (.ref B),aa (.ref R),aa (.int (0+(i:Int))),rr] c'=aa (.nx,[aa X,aa (.ref B),aa (.ref R),aa (.int (0+(i:Int))),aa d],c2.set B (.lst (ys++[d]))))\/
   (v=aa .aA/\mZ κ [aa X,aa (.ref B),aa (.ref R),aa (.int (0+(i:Int))),rr] c'=aa (.rt (.tup [.aA,.aA,.aA,.ref c2.length]),[aa X,aa (.ref B),aa (.ref R),aa (.int (0+(i:Int))),aa .aA],c2++[.exc (κ 6) (κ 0) [("row",.int (0+(i:Int)+1))]]))):=by
 have sR:=aB hR;have ai:eI (xs.map D.str) (0+(i:Int))=aa (.str x):=by
  rw[ajy];exact gP (by rw[aa6,hx];rfl)
 obtain⟨z,e1⟩:=BN (c:=c') hv.len;have q1:(c'++[z,Cell.lst ((fQ (bK (sg x))).map λp=>.str (i_ p))])[c'.length+1]? =aa (.lst ((fQ (bK (sg x))).map λp=>.str (i_ p))):=by simp
 have t1:=Ni (e:=av dM [] (af (e2 aK (eV 2) (eV 3)) aj)) (σ:=[aa X,aa (.ref B),aa (.ref R),aa (.int (0+(i:Int))),rr]) (c:=c') (by erw[cJ,sR,ai,e1]) q1;rw[List.isEmpty_map,hv.em]at t1;generalize Bg:c'++[z,Cell.lst ((fQ (bK (sg x))).map λp=>.str (i_ p))]=c2 at t1;have p2:c' <+:c2:=⟨_,Bg⟩;cases v with
 |none=>
  refine⟨c2,p2,.inl ⟨rfl,?_⟩⟩;unfold mZ;rw[oa,t1];rfl
 |some d=>
  obtain⟨c3,e3,p3⟩:=hv.rd d rfl c2;have R2:=a_ p2 hR;have B3:=a_ p3 (a_ p2 hB);have sR2:=aB R2;have lB:=bp B3;have s4:mX (aE 4 (av cy [] (af (e2 aK (eV 2) (eV 3)) aj))) [aa X,aa (.ref B),aa (.ref R),aa (.int (0+(i:Int))),rr] c2=aa (.nx,[aa X,aa (.ref B),aa (.ref R),aa (.int (0+(i:Int))),aa d],c3):=sh (by erw[cJ,sR2,ai,e3]);have gn:=qP (d:=d) (c:=c3);refine⟨c3,p2.trans p3,.inr ?_⟩;cases hd:dA d with
  |false=>
   rw[hd]at gn;have ap:=dR (y:=d) B3 (by omega);refine .inl ⟨d,rfl,hd,?_⟩;unfold mZ;rw[oa,t1,Zu];dsimp only
   rw[if_pos (show(!(aa d).isNone)=true from rfl)];refine aw s4 ?_;refine aw (σ1:=[aa X,aa (.ref B),aa (.ref R),aa (.int (0+(i:Int))),aa d]) (c1:=c3) (by erw[gn]) ?_;exact sh (by erw[lB,ap])
  |true=>
   rw[hd]at gn;have ed:=tQ.mp hd;subst ed;refine .inr ⟨rfl,?_⟩;unfold mZ;rw[oa,t1,Zu];dsimp only
   rw[if_pos (show(!(aa D.aA).isNone)=true from rfl)];refine aw s4 ?_;have rs:uS (Dl (κ 6) (κ 0) ["row"] (af (e2 bc (eV 3) (eC (.int 1))) aj)) [aa X,aa (.ref B),aa (.ref R),aa (.int (0+(i:Int))),aa .aA] c3=aa (.rt (.tup [.aA,.aA,.aA,.ref c3.length]),[aa X,aa (.ref B),aa (.ref R),aa (.int (0+(i:Int))),aa .aA],c3++[.exc (κ 6) (κ 0) [("row",.int (0+(i:Int)+1))]]):=by
    unfold uS Dl;have:af (e2 bc (eV 3) (eC (.int 1))) aj [aa X,aa (.ref B),aa (.ref R),aa (.int (0+(i:Int))),aa .aA] c3=aa ([.int (0+(i:Int)+1)],c3):=by erw[]
    rw[this];rfl
   rw[lz,oa];have ht:tV (e2 ik (eV 4) (eC .aA)) [aa X,aa (.ref B),aa (.ref R),aa (.int (0+(i:Int))),aa .aA] c3=aa (true,c3):=by erw[gn]
   rw[ht,Zu];dsimp only
   rw[if_pos rfl,rs];rfl
variable{vs:List (Option D)}
theorem A4{xs:List Str}(I:Nat)(h:xs.length=vs.length)(hr:∀(i:Nat) x v,xs[i]? =aa x->vs[i]? =aa v->Rd x v)(hn:xs≠[])(hl:xs.length<=900)(ht:(ab3 "\n" xs).length<=100000)(hI:I<=xs.length)(hg:∀i,i<I->vs[i]?≠aa (aa .aA)):
  ∃(kk rr:Option D) (c':Cells),c'[c.length+1]? =aa (.lst (xs.map D.str))/\c'[c.length]? =aa (.lst ((vs.take I).filterMap id))/\Kq [] c c'/\
   ∀r,bY [] (aM 3) (mZ κ) (eU (I:Int) (xs.length - I)) [aa (.str (ab3 "\n" xs)),aa (.ref c.length),aa (.ref (c.length+1)),kk,rr] c'=r->ax (jc (dZ (af (eB bA (af (eV 2) aj)) aj)) (aM 3) (mZ κ)) (yS (eV 1)) [aa (.str (ab3 "\n" xs)),aa (.ref c.length),aa (.ref (c.length+1)),ae,ae] (c++[.lst []]++[.lst (xs.map D.str)])=(r.bind λp=>match p.1 with|.nx=>yS (eV 1) p.2.1 p.2.2|_=>aa p):=by
 generalize ab3 "\n" xs=X;generalize iw:c++[Cell.lst []]++[Cell.lst (xs.map D.str)]=c1;have R1:c1[c.length+1]? =aa (.lst (xs.map D.str)):=by rw[<-iw];simp
 have B1:c1[c.length]? =aa (.lst []):=by rw[<-iw];simp
 have p1:c <+:c1:=⟨[.lst [],.lst (xs.map D.str)],by rw[<-iw];simp⟩;have bl:bA [.ref (c.length+1)] c1=aa (.int xs.length,c1):=by rw[eo,aB R1];simp
 have hrg:dZ (af (eB bA (af (eV 2) aj)) aj) [aa (.str X),aa (.ref c.length),aa (.ref (c.length+1)),ae,ae] c1=aa (⟨eU 0 (xs.length:Int).toNat,[]⟩,c1):=rR (j:=xs.length) (by erw[bl]) (by omega);have er:eU 0 (xs.length:Int).toNat=eU 0 I++eU (I:Int) (xs.length - I):=by
  rw[aht];have:=Ee I (xs.length - I) 0;rw[show I+(xs.length - I)=xs.length by omega,ajy]at this;exact this
 obtain⟨σ',c',ee,kk,rr,rfl,hR,hB,hk⟩:=zp (g:=aM 3) (body:=mZ κ) (λi σ c'=>∃kk rr,σ=[aa (.str X),aa (.ref c.length),aa (.ref (c.length+1)),kk,rr]/\c'[c.length+1]? =aa (.lst (xs.map D.str))/\c'[c.length]? =aa (.lst ((vs.take i).filterMap id))/\Kq [] c c') (eU (I:Int) (xs.length - I)) (eU 0 I) 0 [aa (.str X),aa (.ref c.length),aa (.ref (c.length+1)),ae,ae] c1 (by
   rintro i d σ c' hd ⟨kk,rr,rfl,hR,hB,hk⟩;obtain⟨hi,rfl⟩:=rS hd;rw[ahd]at hB |-
   have Ft:i<xs.length:=by omega
   have hx:xs[i]? =aa xs[i]:=aav Ft;have Jz:vs[i]? =aa (vs[i]'(by omega)):=aav (by omega);generalize xs[i]=x at hx;generalize (vs[i]'(by omega))=v at Jz;have Ef:=hr i x v hx Jz;have etk:(vs.take (i+1)).filterMap id=(vs.take i).filterMap id++v.toList:=by
    rw[amR,Jz,akJ];cases v<;>rfl
   have Qf:((vs.take i).filterMap id).length<=1000:=by
    refine ab2 (ajY _ _) ?_;rw[ahz];omega
   obtain⟨c2,p2,Gf⟩:=A3 (κ:=κ) (X:=.str X) (rr:=rr) hR hB (by omega) hx Ef Qf;have R2:=a_ p2 hR;have B2:=a_ p2 hB;rcases Gf with⟨rfl,e⟩|⟨d,rfl,hnd,e⟩|⟨rfl,e⟩
   .refine⟨_,c',_,c2,rfl,e,_,_,rfl,R2,?_,hk.trans (Kq.pre p2)⟩
    rw[etk,B2];simp
   .refine⟨_,c',_,_,rfl,e,_,_,rfl,?_,?_,?_⟩
    .rw[aal,if_neg (by omega)];exact R2
    .rw[etk,aal,if_pos rfl,if_pos (cU B2)];simp
    .exact(hk.trans (Kq.pre p2)).oj (aat _)
   .exact absurd Jz (hg i hi)) ⟨ae,ae,rfl,R1,by simpa using B1,Kq.pre p1⟩
 rw[qJ,ahd]at hB;refine⟨kk,rr,c',hR,hB,hk,λr hr=>?_⟩;rw[lz,lE hrg,er,ee,hr];rfl
theorem wM{xs:List Str}(hn:xs≠[])(FW:∀x∈xs,10∉sg x)(ht:(ab3 "\n" xs).length<=100000)
  (h:ax (jc (dZ (af (eB bA (af (eV 2) aj)) aj)) (aM 3) (mZ κ)) (yS (eV 1)) [aa (.str (ab3 "\n" xs)),aa (.ref c.length),aa (.ref (c.length+1)),ae,ae] (c++[.lst []]++[.lst (xs.map D.str)])=r):bJ κ [.str (ab3 "\n" xs)] c=r.bind fin:=by
 have fn:("\n":Str)=⟨#[10]⟩:=rfl;have sp:agx (ab3 "\n" xs) "\n" =xs:=by
  rw[fn];exact DO hn FW
 have ms:mz (.str (ab3 "\n" xs)) [.str "\n"] (c++[.lst []])=aa (.ref (c.length+1),c++[.lst []]++[.lst (xs.map D.str)]):=by
  show(if ("\n":Str).length≠0/\(ab3 "\n" xs).length<=100000 then aa (D.ref (c++[Cell.lst []]).length,c++[Cell.lst []]++[Cell.lst ((agx (ab3 "\n" xs) "\n").map D.str)])else ae)=_;rw[if_pos ⟨by decide,ht⟩,sp];simp
 generalize ab3 "\n" xs=X at ms h;have run:jh κ [aa (.str X),ae,ae,ae,ae] c=r:=by
  unfold jh;refine aw (σ1:=[aa (.str X),aa (.ref c.length),ae,ae,ae]) (c1:=c++[.lst []]) (sh (by erw[iz])) ?_;refine aw (σ1:=[aa (.str X),aa (.ref c.length),aa (.ref (c.length+1)),ae,ae]) (c1:=c++[.lst []]++[.lst (xs.map D.str)]) (sh (by erw[ki,iu,ms])) ?_;exact h
 rw[bJ,dB,if_pos (show [D.str X].length=1 from rfl)]
 congr 1
theorem Nj{xs:List Str}(h:xs.length=vs.length)(hr:∀(i:Nat) x v,xs[i]? =aa x->vs[i]? =aa v->Rd x v):∀x∈xs,10∉sg x:=λx hx=>by
 obtain⟨i,hi,rfl⟩:=akT.mp hx;exact(hr i xs[i] (vs[i]'(by omega)) (aav hi) (aav (by omega))).nl
theorem Gg{xs:List Str}(h:xs.length=vs.length)(hr:∀(i:Nat) x v,xs[i]? =aa x->vs[i]? =aa v->Rd x v)(hn:xs≠[])(hl:xs.length<=900)(ht:(ab3 "\n" xs).length<=100000)(hg:∀i:Nat,vs[i]?≠aa (aa .aA)):
  ∃c',bJ κ [.str (ab3 "\n" xs)] c=aa (.ref c.length,c')/\c'[c.length]? =aa (.lst (vs.filterMap id))/\c <+:c':=by
 obtain⟨kk,rr,c',hR,hB,hk,run⟩:=A4 (κ:=κ) (c:=c) xs.length h hr hn hl ht (aat _) λi _=>hg i
 have e:=run (aa (.nx,[aa (.str (ab3 "\n" xs)),aa (.ref c.length),aa (.ref (c.length+1)),kk,rr],c')) (by
  rw[Nat.sub_self];show bY [] _ _ [] _ _=_;rw[bY,if_pos fw])
 have b:=wM (κ:=κ) hn (Nj h hr) ht e;refine⟨c',?_,by rw[hB,h,amq],hk.lH⟩;rw[b];rfl
theorem JA{xs:List Str}(I:Nat)(h:xs.length=vs.length)(hr:∀(i:Nat) x v,xs[i]? =aa x->vs[i]? =aa v->Rd x v)(hl:xs.length<=900)(ht:(ab3 "\n" xs).length<=100000)(hI:vs[I]? =aa (aa .aA))(hg:∀i,i<I->vs[i]?≠aa (aa .aA)):
  ∃n c',bJ κ [.str (ab3 "\n" xs)] c=aa (.tup [.aA,.aA,.aA,.ref n],c')/\c'[n]? =aa (.exc (κ 6) (κ 0) [("row",.int ((I:Int)+1))])/\c <+:c':=by
 have hIl:I<xs.length:=by have:=(aan.mp hI).1;omega
 have hn:xs≠[]:=by rintro rfl;simp at hIl
 have hx:xs[I]? =aa xs[I]:=aav hIl;have Ef:=hr I _ _ hx hI;obtain⟨kk,rr,c',hR,hB,hk,run⟩:=A4 (κ:=κ) (c:=c) I h hr hn hl ht (by omega) hg;have Qf:((vs.take I).filterMap id).length<=1000:=by
  refine ab2 (ajY _ _) ?_;rw[ahz];omega
 obtain⟨c2,p2,Gf⟩:=A3 (κ:=κ) (X:=.str (ab3 "\n" xs)) (rr:=rr) hR hB (by omega) hx Ef Qf;rcases Gf with⟨e,_⟩|⟨d,e,hnd,_⟩|⟨_,e⟩
 .cases e
 .cases e;cases hnd
 .have er:eU (I:Int) (xs.length - I)= .int (0+(I:Int))::eU ((I:Int)+1) (xs.length - I - 1):=by
   have:=Ee 1 (xs.length - I - 1) (I:Int);rw[show 1+(xs.length - I - 1)=xs.length - I by omega]at this;rw[this,ajy];rfl
  have e2:=run (aa (.rt (.tup [.aA,.aA,.aA,.ref c2.length]),[aa (.str (ab3 "\n" xs)),aa (.ref c.length),aa (.ref (c.length+1)),aa (.int (0+(I:Int))),aa .aA],c2++[.exc (κ 6) (κ 0) [("row",.int (0+(I:Int)+1))]])) (by
   rw[er,bY,if_pos fw];have g1:aM 3 (.int (0+(I:Int))) [aa (.str (ab3 "\n" xs)),aa (.ref c.length),aa (.ref (c.length+1)),kk,rr] c'=aa ([aa (.str (ab3 "\n" xs)),aa (.ref c.length),aa (.ref (c.length+1)),aa (.int (0+(I:Int))),rr],c'):=rfl;rw[g1,Zu];dsimp only
   rw[e];rfl)
  have b:=wM (κ:=κ) hn (Nj h hr) ht e2;refine⟨c2.length,c2++[.exc (κ 6) (κ 0) [("row",.int (0+(I:Int)+1))]],?_,?_,hk.lH.trans (p2.trans (abn _ _))⟩
  .rw[b]
   rfl
  .rw[aG,ajy]
def qQ:List (List Str):=[[":"],["#"],[";"],["["],["="],["A"],["_"],["~"],["\t"],["(",")"],["("],[")"]]
def wb:List Str:=["and","or","not","any"]
def sF:List Str:=["Ab","a1","abcdefghi","a-b","a.b","a~b","a_b"]
def si:List Str:=["-0","00","07","3/1","4/2","1/0","+3","1/-2","1.5","--3","1/2/3","/3","3/","-","0/5","03/7","3/07","-03","any","1_0","1/+2","1 /2","+1"]
def six:List Str:=["(",")","and","or","not","any"]
inductive Rep(w:Str):List Str->Prop
 |br:jC w=true->Rep w []
 |out:w∉six->Rep w []
 |kept {k:Str}:w∉six->k∈wb->Rep w [k]
 |bad {k:Str}:w∉six->k∈sF->Rep w [k]
 |nine:w∉six->Rep w [cx w 9]
inductive tR(ts:List Str)(N:Str):List Str->Prop
 |w0 {m:List Str}:m∈([[],["="],[";"],["::"],["is"]]:List (List Str))->tR ts N (ts++m++[N])
 |ins {i:Nat}{m:List Str}:i<=(ts++[(":":Str),N]).length->m∈qQ->tR ts N ((ts++[(":":Str),N]).take i++m++(ts++[(":":Str),N]).drop i)
 |w2a:tR ts N (ts++[(":":Str)])
 |w2b:tR ts N [(":":Str),N]
 |w3 {z:Str}:z∈si->tR ts N (ts++[(":":Str)]++[z])
 |rep {i:Nat}{w:Str}{m:List Str}:ts[i]? =aa w->Rep w m->tR ts N ((ts++[(":":Str),N]).take i++m++(ts++[(":":Str),N]).drop (i+1))
 |w7 {k:Str}:k∈(["any","and","or","not","(",")","abc","3"]:List Str)->tR ts N (ts++[k]++[(":":Str),N])
 |w8 {k:Str}:k∈(["any",")",":","3","x","and","("]:List Str)->tR ts N (ts++[(":":Str),N]++[k])
def Bd(ws:List Str):Prop:=(∃(us:List Str) (y z:Str),ws=us++[y,z]/\y≠":")\/∃(us:List Str) (z:Str),ws=us++[(":":Str),z]/\nb us<=40/\us.length<=4000/\(run (.S,0) us≠aa (.E,0)\/qO z (vZ z) (v9 z)= .aA)
theorem Bd.rd{ws:List Str}(h:Bd ws)(hw:fQ (bK (sg x))=ws.map sg)(hl:x.length<=3000)(hn: 10∉sg x)(ha:∀w∈ws,asc w/\w.length<=9000):Rd x (aa .aA):=by
 have kf:(fQ (bK (sg x))).isEmpty=(aa D.aA).isNone:=by
  rw[hw];rcases h with⟨us,y,z,rfl,_⟩|⟨us,z,rfl,_⟩<;>simp
 refine⟨hl,hn,kf,λd e c=>?_⟩;cases e;rcases h with⟨us,y,z,rfl,hy⟩|⟨us,z,rfl,h1,h2,h3⟩
 .exact D7 hl hw (mK (ha y (by simp)).1) hy
 .have hz:=ha z (by simp)
  obtain⟨c',e,p⟩:=Jx (c:=c) hl hw (Ge (λw hw=>ha w (by simp[hw])) h1 h2) hz.1 hz.2;refine⟨c',?_,p⟩;rw[e,if_pos];rcases h3 with h3|h3
  .rw[Ng h3];rfl
  .rw[h3,show dA D.aA=true from rfl,Bool.or_true]
theorem ie{x y:Int}{z:Str}(h:(if y=1 then(if x<0 then [45] else [])++qL x.natAbs else((if x<0 then [45] else [])++qL x.natAbs)++[47]++((if y<0 then [45] else [])++qL y.natAbs))≠sg z):TT x y≠z:=by
 rintro rfl;apply h;unfold TT;split
 .rw[mY]
 .rw[dO,dO,mY,mY];rfl
theorem dj{z:Str}(h:¬(eR qN (vZ z) 6=true/\eR qN (v9 z) 6=true/\dv (v9 z)≠0)):qO z (vZ z) (v9 z)= .aA:=by
 unfold qO;rw[if_neg h]
theorem fZ{z:Str}{x y:Int}(hx:(if abY z "-" =true then -(dv (vZ z):Int)else dv (vZ z))=x)(hy:(dv (v9 z):Int)=y)(h:TT (My.nm x y) (My.dn x y)≠z):qO z (vZ z) (v9 z)= .aA:=by
 unfold qO;split
 .rw[hx,hy,if_neg h]
 .rfl
theorem Gh:∀z∈si,z≠"1 /2"->qO z (vZ z) (v9 z)= .aA:=by
 intro z hz h12;simp only[si,aaI,abl,or_false]at hz;rcases hz with rfl|rfl|rfl|rfl|rfl|rfl|rfl|rfl|rfl|rfl|rfl|rfl|rfl|rfl|rfl|rfl|rfl|rfl|rfl|rfl|rfl|rfl|rfl
 .exact fZ (x:=0) (y:=1) (by decide +kernel) (by decide +kernel) (ie (by decide +kernel))
 .exact fZ (x:=0) (y:=1) (by decide +kernel) (by decide +kernel) (ie (by decide +kernel))
 .exact fZ (x:=7) (y:=1) (by decide +kernel) (by decide +kernel) (ie (by decide +kernel))
 .exact fZ (x:=3) (y:=1) (by decide +kernel) (by decide +kernel) (ie (by decide +kernel))
 .exact fZ (x:=4) (y:=2) (by decide +kernel) (by decide +kernel) (ie (by decide +kernel))
 .exact dj (by decide +kernel)
 .exact dj (by decide +kernel)
 .exact dj (by decide +kernel)
 .exact dj (by decide +kernel)
 .exact dj (by decide +kernel)
 .exact dj (by decide +kernel)
 .exact dj (by decide +kernel)
 .exact dj (by decide +kernel)
 .exact dj (by decide +kernel)
 .exact fZ (x:=0) (y:=5) (by decide +kernel) (by decide +kernel) (ie (by decide +kernel))
 .exact fZ (x:=3) (y:=7) (by decide +kernel) (by decide +kernel) (ie (by decide +kernel))
 .exact fZ (x:=3) (y:=7) (by decide +kernel) (by decide +kernel) (ie (by decide +kernel))
 .exact fZ (x:=-3) (y:=1) (by decide +kernel) (by decide +kernel) (ie (by decide +kernel))
 .exact dj (by decide +kernel)
 .exact dj (by decide +kernel)
 .exact dj (by decide +kernel)
 .exact absurd rfl h12
 .exact dj (by decide +kernel)
theorem Ex.tok{k:Nat}{t:D}(h:Ex k n ts is t):∀w∈ts,Wd w\/w∈six:=by
 induction h with
 |is wx wy=>
  intro w hw;simp only[aaI,abl,or_false]at hw;rcases hw with rfl|rfl
  .exact .inl wx
  .exact .inl wy
 |any=>intro w hw;rw[aaq.mp hw];exact .inr (by simp[six])
 |not _ ih=>
  intro w hw;rcases aaI.mp hw with rfl|hw
  .exact .inr (by simp[six])
  .exact ih w hw
 |par _ ih=>
  intro w hw;rcases aaI.mp hw with rfl|hw
  .exact .inr (by simp[six])
  .rcases abc.mp hw with hw|hw
   .exact ih w hw
   .rw[aaq.mp hw];exact .inr (by simp[six])
 |up _ _ ih=>exact ih
 |@bin k n ts us is js t u hk _ _ oV oW=>
  intro w hw;simp only[abc,aaq]at hw;rcases hw with(hw|rfl)|hw
  .exact oV w hw
  .exact .inr (match k with
    |0=>by simp[six,kw]
    |_+1=>by simp[six,kw])
  .exact oW w hw
theorem u9(h:df w=false)(hn:w∉six)(p:Sx×Nat):dS p w=ae:=by
 simp only[six,aaI,abl,or_false,not_or]at hn;obtain⟨n1,n2,n3,n4,n5,n6⟩:=hn;unfold dS;rw[if_neg n1,if_neg n2];obtain⟨s,d⟩:=p;cases s with
 |S=>unfold fY;dsimp only;rw[if_neg n6,if_neg n5,h];rfl
 |M=>unfold fY;dsimp only;rw[h];rfl
 |E=>unfold fY;dsimp only;rw[if_neg (λz=>z.elim n3 n4)];rfl
theorem gw(p:Sx×Nat)(w:Str):run p [w]=dS p w:=by
 rw[jM];cases dS p w with
 |none=>rfl
 |some q=>rfl
theorem Eg{a b:List Str}(h:df w=false)(hn:w∉six)(q:Sx×Nat):run q (a++[w]++b)=ae:=by
 rw[kb,kb];cases run q a with
 |none=>rfl
 |some p=>rw[Zu,gw,u9 h hn];rfl
theorem Gi{p p':Sx×Nat}(hb:jC w=true)(h:dS p w=aa p'):p'≠p:=by
 unfold jC at hb;simp only[ajc,beq_iff_eq]at hb;unfold dS at h;intro e;rcases hb with rfl|rfl
 .rw[if_pos rfl]at h
  split at h
  .cases h
   have:=congrArg amu e;dsimp only at this;omega
  .cases h
 .rw[if_neg (by decide),if_pos rfl]at h
  split at h
  .rename_i hc
   cases h;have:=congrArg amu e;dsimp only at this;omega
  .cases h
structure Good(ts:List Str)(N:Str):Prop where
 run:qf.run (.S,0) ts=aa (.E,0)
 nb:nb ts<=38
 len:ts.length<=110
 tok:∀w∈ts,Wd w\/w∈six
 ne:ts≠[]
 num:N≠":"
 nas:asc N
 ntx:zb N
 nl:N.length<=16
theorem tS:∀m∈qQ,(∃w,m=[w]/\df w=false/\w∉six/\w≠":")\/m=[(":":Str)]\/m=[("(":Str),(")":Str)]\/m=[("(":Str)]\/m=[(")":Str)]:=by
 intro m hm;simp only[qQ,aaI,abl,or_false]at hm;rcases hm with rfl|rfl|rfl|rfl|rfl|rfl|rfl|rfl|rfl|rfl|rfl|rfl
 .exact .inr (.inl rfl)
 all_goals first
  |exact .inl ⟨_,rfl,by decide +kernel,by decide +kernel,by decide +kernel⟩
  |exact .inr (.inr (.inl rfl))
  |exact .inr (.inr (.inr (.inl rfl)))
  |exact .inr (.inr (.inr (.inr rfl)))
theorem JB:∀m∈qQ,∀p,run p m≠aa p:=by
 intro m hm p;rcases tS m hm with⟨w,rfl,h1,h2,_⟩|rfl|rfl|rfl|rfl
 .rw[gw,u9 h1 h2];exact nofun
 .rw[gw,u9 (by decide +kernel) (by decide +kernel)];exact nofun
 .obtain⟨s,d⟩:=p
  rw[jM];unfold dS;rw[if_pos rfl];dsimp only
  split
  .rw[Zu,gw]
   unfold dS;rw[if_neg (by decide),if_pos rfl,if_neg (λz=>nomatch z.1)];exact nofun
  .exact nofun
 .rw[gw];intro e;exact Gi (by decide) e rfl
 .rw[gw];intro e;exact Gi (by decide) e rfl
theorem Eh:∀m∈qQ,nb m<=1/\m.length<=2:=by decide +kernel
variable{N:Str}
theorem Qg(G:Good ts N){m:List Str}(hi:i<=(ts++[(":":Str),N]).length)(hm:m∈qQ):Bd ((ts++[(":":Str),N]).take i++m++(ts++[(":":Str),N]).drop i):=by
 have hnb:=Eh m hm;have g1:=G.nb;have g2:=G.len;rw[aaf]at hi;simp only[aac,aam]at hi
 by_cases h1:i<=ts.length
 .rw[aiR h1,aiS h1]
  refine .inr ⟨ts.take i++m++ts.drop i,N,by simp,?_,?_,.inl ?_⟩
  .have e:=congrArg nb (ag2 i ts)
   rw[ib]at e;rw[ib,ib];omega
  .have e:=congrArg aic (ag2 i ts)
   rw[aaf]at e;rw[aaf,aaf];omega
  .have h:=G.run
   refine M9 (m:=[]) (by rw[aa5,ag2];exact h) λp p' e e'=>?_
   cases e;exact JB m hm p e'
 .have hc:i=ts.length+1\/i=ts.length+2:=by omega
  rcases hc with rfl|rfl
  .have e1:(ts++[(":":Str),N]).take (ts.length+1)=ts++[(":":Str)]:=by rw[ams,agQ (by omega)];simp
   have e2:(ts++[(":":Str),N]).drop (ts.length+1)=[N]:=by rw[akk,air (by omega)];simp
   rw[e1,e2];rcases tS m hm with⟨w,rfl,_,_,h3⟩|rfl|rfl|rfl|rfl
   .exact .inl ⟨ts++[(":":Str)],w,N,by simp,h3⟩
   .refine .inr ⟨ts++[(":":Str)],N,by simp,?_,by rw[aaf];simp;omega,.inl ?_⟩
    .rw[ib];have:=j_ ":";omega
    .have:=Eg (a:=ts) (b:=[]) (w:=":") (by decide +kernel) (by decide +kernel) (.S,0)
     rw[aa5]at this;rw[this];exact nofun
   .exact .inl ⟨ts++[(":":Str),("(":Str)],")",N,by simp,by decide⟩
   .exact .inl ⟨ts++[(":":Str)],"(",N,by simp,by decide⟩
   .exact .inl ⟨ts++[(":":Str)],")",N,by simp,by decide⟩
  .have e1:(ts++[(":":Str),N]).take (ts.length+2)=ts++[(":":Str),N]:=agQ (by simp)
   have e2:(ts++[(":":Str),N]).drop (ts.length+2)=[]:=air (by simp);rw[e1,e2,aa5];rcases tS m hm with⟨w,rfl,_,_,h3⟩|rfl|rfl|rfl|rfl
   .exact .inl ⟨ts++[(":":Str)],N,w,by simp,G.num⟩
   .exact .inl ⟨ts++[(":":Str)],N,":",by simp,G.num⟩
   .exact .inl ⟨ts++[(":":Str),N],"(",")",by simp,by decide⟩
   .exact .inl ⟨ts++[(":":Str)],N,"(",by simp,G.num⟩
   .exact .inl ⟨ts++[(":":Str)],N,")",by simp,G.num⟩
theorem JC{k:Str}(hf:df w=true)(hk:k∈wb)(p p':Sx×Nat)(h:run p [w]=aa p'):run p [k]≠aa p':=by
 rw[gw]at h |-
 obtain⟨s,d⟩:=p;simp only[wb,aaI,abl,or_false]at hk;cases s with
 |S=>
  rw[M_ hf]at h;cases h;rcases hk with rfl|rfl|rfl|rfl<;>exact nofun
 |M=>rcases hk with rfl|rfl|rfl|rfl<;>exact nofun
 |E=>
  rw[u6 hf]at h;unfold fY at h;dsimp only at h;rw[if_neg (λz=>z.elim (gX hf u5) (gX hf zm))]at h;cases h
theorem Gj(hf:df w=true){p p':Sx×Nat}(h:run p [w]=aa p'):p'≠p:=by
 rw[gw]at h;obtain⟨s,d⟩:=p;cases s with
 |S=>rw[M_ hf]at h;cases h;exact nofun
 |M=>rw[Sj hf]at h;cases h;exact nofun
 |E=>
  rw[u6 hf]at h;unfold fY at h;dsimp only at h;rw[if_neg (λz=>z.elim (gX hf u5) (gX hf zm))]at h;cases h
theorem A5(h:Wd w): 9<=(cx w 9).length/\(cx w 9).length<=72:=by
 have h1:=h.pos;have h2:=h.FR;have e:(sg (cx w 9)).length=9*(sg w).length:=by
  rw[xI];simp only[aaL,ajX,List.flatten_nil,aaf,aam];omega
 rw[cR,cR]at e;omega
theorem Gk(h:Wd w):df (cx w 9)=false/\cx w 9∉six:=by
 have hl:=A5 h;constructor
 .unfold df eR
  rw[decide_eq_false (by omega)];rfl
 .intro hm
  have h8:∀x∈six,x.length<=3:=by decide +kernel
  have:=h8 _ hm;omega
theorem Gm:∀k∈sF,df k=false/\k∉six:=by decide +kernel
theorem Qh(G:Good ts N){m:List Str}(hi:ts[i]? =aa w)(hr:Rep w m):Bd ((ts++[(":":Str),N]).take i++m++(ts++[(":":Str),N]).drop (i+1)):=by
 have Jo:=(aan.mp hi).1;have e0:ts=ts.take i++[w]++ts.drop (i+1):=by
  have:=ag2 i ts;rw[agY Jo,(aan.mp hi).2]at this;rw[agJ];exact this.symm
 rw[aiR (by omega),aiS (by omega)];have g1:=G.nb;have g2:=G.len;have hnm:nb m<=1/\m.length<=1:=by
  cases hr with
  |br _=>exact⟨ab7 _,ab7 _⟩
  |out _=>exact⟨ab7 _,ab7 _⟩
  |kept _ _=>exact⟨j_ _,aat _⟩
  |bad _ _=>exact⟨j_ _,aat _⟩
  |nine _=>exact⟨j_ _,aat _⟩
 refine .inr ⟨ts.take i++m++ts.drop (i+1),N,by simp,?_,?_,.inl ?_⟩
 .have e:=congrArg nb e0
  rw[ib,ib]at e;rw[ib,ib];omega
 .have e:=congrArg aic e0
  rw[aaf,aaf]at e;rw[aaf,aaf];omega
 .have h:=G.run
  rw[e0]at h;have hw:w∉six->Wd w:=λhn=>(G.tok w (aa8 hi)).resolve_right hn
  refine M9 h λp p' e e'=>?_
  cases hr with
  |br hb=>cases e';rw[gw]at e;exact Gi hb e rfl
  |out hn=>cases e';exact Gj (lK (hw hn)) e rfl
  |kept hn hk=>exact JC (lK (hw hn)) hk p p' e e'
  |bad hn hk=>
   obtain⟨b1,b2⟩:=Gm _ hk;rw[gw,u9 b1 b2]at e';cases e'
  |nine hn=>
   obtain⟨b1,b2⟩:=Gk (hw hn);rw[gw,u9 b1 b2]at e';cases e'
def abE:List Str:=["=",";","is",":","#","[","A","_","~","\t","(",")","and","or","not","any"]
def abF:List Str:=["abc","3","x","Ab","a1","abcdefghi","a-b","a.b","a~b","a_b","-0","00","07","3/1","4/2","1/0"]
def abG:List Str:=["+3","1/-2","1.5","--3","1/2/3","/3","3/","-","0/5","03/7","3/07","-03","1_0","1/+2","+1"]
def z5:List Str:=abE++abF++abG
theorem Cb:∀x∈z5,zb x/\asc x/\x.length<=16:=by
 have h1:∀x∈z5,(sg x).all (λk=>decide (k<128))=true/\x.length<=16/\sg x≠[]/\(fR x=false->∀k∈sg x,sgn k=false/\k≠32)/\10∉sg x:=by decide +kernel
 intro x hx;obtain⟨a1,a2,a3,a4,a5⟩:=h1 x hx;have as:asc x:=λk hk=>by simpa using abD.mp a1 k hk
 exact⟨⟨mK as,a2,a3,a4,a5⟩,as,a2⟩
theorem VZ(h:W0 x):zb x:=by
 have hl:∀k∈sg x,97<=k/\k<=122:=λk hk=>by simpa using abD.mp h.lt k hk
 refine⟨h.ok,by have:=h.FR;omega,λe=>?_,λ_ k hk=>?_,λhm=>by have:=hl 10 hm;omega⟩
 .have:=h.pos
  rw[<-cR,e]at this;exact absurd this (by decide)
 .have:=hl k hk
  refine⟨?_,by omega⟩;simp only[sgn,ah3,beq_eq_false_iff_ne];omega
theorem Qi(h:W0 x):asc x:=λk hk=>by
 have: 97<=k/\k<=122:=by simpa using abD.mp h.lt k hk
 omega
theorem Nk:∀x∈six,x∈z5:=by decide +kernel
theorem HL(h:Wd w\/w∈six):zb w/\asc w/\w.length<=16:=by
 rcases h with h|h
 .exact⟨VZ h.toW0,Qi h.toW0,by have:=h.FR;omega⟩
 .exact Cb w (Nk w h)
structure Pc(x:Str):Prop where
 tx:Tx x
 one:toks x=[sg x]
 as:asc x
 len:x.length<=72
theorem Pc.of(h:zb x)(ha:asc x):Pc x:=⟨h.tx,AS h,ha,by have:=h.len;omega⟩
theorem Pc.nine(h:Wd w):Pc (cx w 9):=by
 have hl:=A5 h;have hm:∀k∈sg (cx w 9),97<=k/\k<=122:=λk hk=>by
  rw[xI]at hk;obtain⟨l,h1,h2⟩:=List.mem_flatten.mp hk;rw[agp h1]at h2;simpa using abD.mp h.lt k h2
 have as:asc (cx w 9):=λk hk=>by have:=hm k hk;omega
 have ne:sg (cx w 9)≠[]:=λe=>by
  have:=cR (cx w 9);rw[e]at this;simp at this;omega
 have hs:fR (cx w 9)=false:=by
  cases e:fR (cx w 9)with
  |false=>rfl
  |true=>
   obtain⟨k,h1,_⟩:=mH e;have:=cR (cx w 9);rw[h1]at this;simp at this;omega
 have wd:∀k∈sg (cx w 9),sgn k=false/\k≠32:=λk hk=>by
  have:=hm k hk;refine⟨?_,by omega⟩;simp only[sgn,ah3,beq_eq_false_iff_ne];omega
 have Jm: 32∉sg (cx w 9):=λz=>(wd 32 z).2 rfl
 have ap:bK (sg (cx w 9))=sg (cx w 9):=o7 λk hk=>(wd k hk).1
 have one:toks (cx w 9)=[sg (cx w 9)]:=by unfold toks;rw[ap,rT Jm ne]
 refine⟨⟨mK as,?_,λl hl=>?_,λz=>by have:=hm 10 z;omega⟩,one,as,hl.2⟩
 .rw[hs]
  cases hb:ll (cx w 9) "():" with
  |false=>rfl
  |true=>
   exfalso;obtain⟨i,h1,h2⟩:=(ajW ("():":Str) (cx w 9)).mp hb;rw[akj,beq_iff_eq]at h2;cases hq:sg (cx w 9)with
   |nil=>exact ne hq
   |cons k r=>
    have hk:=hm k (by rw[hq];simp);have hmm:k∈(("():":Str).cps.toList.drop i).take (cx w 9).length:=by rw[h2];show k∈sg (cx w 9);rw[hq];simp
    have:=ahp (ah2 hmm);have e:("():":Str).cps.toList=[40,41,58]:=rfl;rw[e]at this;simp only[aaI,abl,or_false]at this;omega
 .rw[one,ap]
  rcases hl hs with rfl|⟨r,rfl⟩
  .rw[aa5,rT Jm ne];rfl
  .rw[jJ Jm ne,oY];rfl
theorem V0:Tx "::":=by
 refine⟨fD (by decide),by decide +kernel,λl hl=>?_,by decide⟩;have hs:fR "::" =false:=by decide
 have e:bK (sg "::")=[32,58,32,32,58,32]:=by decide
 have e2:toks "::" =[[58],[58]]:=by decide
 rw[e2,e];show fQ (32::([58]++32::(32::([58]++32::l))))=_;rw[oY,jJ (by decide) (by decide),oY,jJ (by decide) (by decide)];rfl
theorem V1:Tx "1 /2":=by
 refine⟨fD (by decide),by decide +kernel,λl hl=>?_,by decide⟩;have hs:fR "1 /2" =false:=by decide
 have e:bK (sg "1 /2")=[49,32,47,50]:=by decide
 have e2:toks "1 /2" =[[49],[47,50]]:=by decide
 rw[e2,e];show fQ ([49]++32::([47,50]++l))=_;rw[jJ (by decide) (by decide)];rcases hl hs with rfl|⟨r,rfl⟩
 .rw[aa5,rT (by decide) (by decide)];rfl
 .rw[jJ (by decide) (by decide),oY];rfl
theorem kP:∀{ss:List Str},(∀p∈ss,Pc p)->ss.flatMap toks=ss.map sg
 |[],_=>rfl
 |p::ss,h=>by
  rw[al7,(h p (aa7 ..)).one,kP λq hq=>h q (aay _ hq)];rfl
def sl(ss:List Str):Nat:=(ss.map (·.length)).sum
theorem u_(a b:List Str):sl (a++b)=sl a+sl b:=by simp[sl]
variable{ss:List Str}
theorem qR(h:∀p∈ss,p.length<=n):sl ss<=n*ss.length:=by
 induction ss with
 |nil=>exact ab7 _
 |cons p ss ih=>
  have h1:=h p (aa7 ..);have h2:=ih λq hq=>h q (aay _ hq)
  have:sl (p::ss)=p.length+sl ss:=by simp[sl]
  rw[this,aac,Nat.mul_add];omega
structure Sb(ss:List Str):Prop where
 tx:∀p∈ss,Tx p
 len:sl ss+2*ss.length<=2900
 bd:∃ws,ss.flatMap toks=ws.map sg/\Bd ws/\∀w∈ws,asc w/\w.length<=9000
theorem Sb.of(h:∀p∈ss,Pc p)(hl:sl ss+2*ss.length<=2900)(hb:Bd ss):Sb ss:=
 ⟨λp hp=>(h p hp).tx,hl,ss,kP h,hb,λw hw=>⟨(h w hw).as,by have:=(h w hw).len;omega⟩⟩
theorem qS:∀x∈(":":Str)::wb++sF,x∈z5:=by decide +kernel
theorem Nl:∀m∈qQ,∀x∈m,x∈z5:=by decide +kernel
theorem Qj:∀x∈(["any","and","or","not","(",")","abc","3"]:List Str),x∈z5:=by decide +kernel
theorem Qk:∀x∈(["any",")",":","3","x","and","("]:List Str),x∈z5:=by decide +kernel
theorem Ql:∀x∈si,x= "1 /2"\/x∈z5:=by decide +kernel
theorem Qn:∀m∈([[],["="],[";"],["::"],["is"]]:List (List Str)),m=[("::":Str)]\/(m.length<=1/\(∀x∈m,x∈z5/\x≠":")):=by decide +kernel
theorem Qo:∀x∈(["any","and","or","not","(",")","abc","3"]:List Str),dS (.E,0) x≠aa (.E,0):=by decide +kernel
section
variable{ts:List Str}{N:Str}
theorem Good.pc(G:Good ts N):∀p∈ts++[(":":Str),N],Pc p/\p.length<=16:=by
 intro p hp;rcases abc.mp hp with hp|hp
 .obtain⟨h1,h2,h3⟩:=HL (G.tok p hp)
  exact⟨.of h1 h2,h3⟩
 .simp only[aaI,abl,or_false]at hp
  rcases hp with rfl|rfl
  .obtain⟨h1,h2,h3⟩:=Cb ":" (qS _ (by simp))
   exact⟨.of h1 h2,h3⟩
  .exact⟨.of G.ntx G.nas,G.nl⟩
theorem pb{x:Str}(h:x∈z5):Pc x:=let ⟨h1,h2,_⟩:=Cb x h;.of h1 h2
theorem Qp{A B m:List Str}(G:Good ts N)(hA:∀p∈A,p∈ts++[(":":Str),N])(hB:∀p∈B,p∈ts++[(":":Str),N])(hl:A.length+B.length<=112)(hm:m.length<=2)(hp:∀p∈m,Pc p):sl (A++m++B)+2*(A++m++B).length<=2900:=by
 have a:=qR (n:=16) λp hp=>(G.pc p (hA p hp)).2
 have b:=qR (n:=16) λp hp=>(G.pc p (hB p hp)).2
 have c:=qR (n:=72) λp h=>(hp p h).len
 rw[u_,u_,aaf,aaf];omega
theorem qT{A B m:List Str}(G:Good ts N)(hA:∀p∈A,p∈ts++[(":":Str),N])(hB:∀p∈B,p∈ts++[(":":Str),N])(hl:A.length+B.length<=112)(hm:m.length<=2)(hp:∀p∈m,Pc p)(hb:Bd (A++m++B)):Sb (A++m++B):=by
 refine .of (λp h=>?_) (Qp G hA hB hl hm hp) hb;rcases abc.mp h with h|h
 .rcases abc.mp h with h|h
  .exact(G.pc p (hA p h)).1
  .exact hp p h
 .exact(G.pc p (hB p h)).1
theorem Ei(G:Good ts N):∃(us:List Str) (y:Str),ts=us++[y]/\y≠":":=by
 obtain⟨us,y,e⟩:∃(us:List Str) (y:Str),ts=us++[y]:=⟨ts.dropLast,ts.getLast G.ne,(List.dropLast_concat_getLast G.ne).symm⟩;refine⟨us,y,e,λhy=>?_⟩;have h:=G.tok y (by rw[e];simp);rw[hy]at h;rcases h with h|h
 .exact gX (lK h) (y:=":") (by decide +kernel) rfl
 .exact absurd h (by decide +kernel)
theorem Ej(G:Good ts N):nb (ts++[(":":Str)])<=40/\(ts++[(":":Str)]).length<=4000/\run (.S,0) (ts++[(":":Str)])≠aa (.E,0):=by
 refine⟨by rw[ib];have:=j_ ":";have:=G.nb;omega,by rw[aaf];have:=G.len;simp;omega,?_⟩;have:=Eg (a:=ts) (b:=[]) (w:=":") (by decide +kernel) (by decide +kernel) (.S,0);rw[aa5]at this;rw[this];exact nofun
theorem tR.sb{ss:List Str}(h:tR ts N ss)(G:Good ts N):Sb ss:=by
 have g1:=G.nb;have g2:=G.len;have zq:∀p∈ts,p∈ts++[(":":Str),N]:=λp hp=>aiT _ hp
 have Ek:∀p∈[N],p∈ts++[(":":Str),N]:=λp hp=>by rw[aaq.mp hp];simp
 have memC:∀p∈ts++[(":":Str)],p∈ts++[(":":Str),N]:=λp hp=>by
  rcases abc.mp hp with hp|hp
  .exact zq p hp
  .rw[aaq.mp hp];simp
 have tk:∀(P:List Str) i,∀p∈P.take i,p∈P:=λP i p hp=>ah2 hp
 have dk:∀(P:List Str) i,∀p∈P.drop i,p∈P:=λP i p hp=>ahp hp
 have lt:∀i,((ts++[(":":Str),N]).take i).length+((ts++[(":":Str),N]).drop i).length<=112:=λi=>by
  have e:=congrArg aic (ag2 i (ts++[(":":Str),N]));rw[aaf,aaf]at e;simp only[aac,aam]at e;omega
 cases h with
 |@w0 m hm=>
  rcases Qn m hm with rfl|⟨hl,hx⟩
  .refine⟨λp hp=>?_,?_,ts++[(":":Str),(":":Str),N],?_,?_,λw hw=>?_⟩
   .rcases abc.mp hp with hp|hp
    .rcases abc.mp hp with hp|hp
     .exact(G.pc p (zq p hp)).1.tx
     .rw[aaq.mp hp];exact V0
    .exact(G.pc p (Ek p hp)).1.tx
   .have a:=qR (n:=16) λp hp=>(G.pc p (zq p hp)).2
    have b:=qR (n:=16) λp hp=>(G.pc p (Ek p hp)).2
    have c:sl [("::":Str)]=2:=by decide
    rw[u_,u_,c];simp only[aaf,aac,aam]at b |-
    omega
   .rw[ajh,ajh,kP λp hp=>(G.pc p (zq p hp)).1,kP λp hp=>(G.pc p (Ek p hp)).1]
    have e:List.flatMap toks [("::":Str)]=[sg ":",sg ":"]:=by decide
    rw[e];simp
   .obtain⟨c1,c2,c3⟩:=Ej G
    exact .inr ⟨ts++[(":":Str)],N,by simp,c1,c2,.inl c3⟩
   .have:w∈ts++[(":":Str),N]:=by
     simp only[abc,aaI,abl,or_false]at hw |-
     rcases hw with h|h|h|h
     .exact .inl h
     .exact .inr (.inl h)
     .exact .inr (.inl h)
     .exact .inr (.inr h)
    have h:=(G.pc w this).1;exact⟨h.as,by have:=h.len;omega⟩
  .refine qT G zq Ek (by simp;omega) (by omega) (λp hp=>pb (hx p hp).1) ?_
   match m,hl,hx with
   |[],_,_=>
    obtain⟨us,y,e,hy⟩:=Ei G;rw[aa5,e];exact .inl ⟨us,y,N,by simp,hy⟩
   |[y],_,hx=>exact .inl ⟨ts,y,N,by simp,(hx y (by simp)).2⟩
 |@ins i m hi hm=>
  exact qT G (tk _ _) (dk _ _) (lt i) (Eh m hm).2 (λp hp=>pb (Nl m hm p hp)) (Qg G hi hm)
 |w2a=>
  have:=qT (A:=ts) (B:=[]) (m:=[(":":Str)]) G zq (λp hp=>by cases hp) (by simp;omega) (by simp) (λp hp=>by rw[aaq.mp hp];exact pb (qS _ (by simp))) (by
   obtain⟨us,y,e,hy⟩:=Ei G;rw[aa5,e];exact .inl ⟨us,y,":",by simp,hy⟩)
  rw[aa5]at this;exact this
 |w2b=>
  have:=qT (A:=[]) (B:=[N]) (m:=[(":":Str)]) G (λp hp=>by cases hp) Ek (by simp) (by simp) (λp hp=>by rw[aaq.mp hp];exact pb (qS _ (by simp))) (.inr ⟨[],N,rfl,ab7 _,ab7 _,.inl (by exact nofun)⟩);exact this
 |@w3 z hz=>
  rcases Ql z hz with rfl|hp
  .refine⟨λp hp=>?_,?_,ts++[(":":Str),"1","/2"],?_,?_,λw hw=>?_⟩
   .rcases abc.mp hp with hp|hp
    .exact(G.pc p (memC p hp)).1.tx
    .rw[aaq.mp hp];exact V1
   .have a:=qR (n:=16) λp hp=>(G.pc p (memC p hp)).2
    have c:sl [("1 /2":Str)]=4:=by decide
    rw[u_,c];simp only[aaf,aac,aam]at a |-
    omega
   .rw[ajh,kP λp hp=>(G.pc p (memC p hp)).1]
    have e:List.flatMap toks [("1 /2":Str)]=[sg "1",sg "/2"]:=by decide
    rw[e];simp
   .exact .inl ⟨ts++[(":":Str)],"1","/2",by simp,by decide⟩
   .rw[show ts++[(":":Str),"1","/2"]=(ts++[(":":Str)])++([("1":Str),("/2":Str)]:List Str)by simp]at hw
    rcases abc.mp hw with h|h
    .have h:=(G.pc w (memC w h)).1
     exact⟨h.as,by have:=h.len;omega⟩
    .simp only[aaI,abl,or_false]at h
     have h8:∀w∈(["1","/2"]:List Str),(sg w).all (λk=>decide (k<128))=true/\w.length<=9000:=by decide +kernel
     have h9:=h8 w (by simpa using h);exact⟨λk hk=>by simpa using abD.mp h9.1 k hk,h9.2⟩
  .have:=qT (A:=ts++[(":":Str)]) (B:=[]) (m:=[z]) G memC (λp hp=>by cases hp) (by simp;omega) (by simp) (λp hp'=>by rw[aaq.mp hp'];exact pb hp) (by
    rw[aa5];refine .inr ⟨ts,z,by simp,by omega,by omega,.inr (Gh z hz λe=>?_)⟩;rw[e]at hp;exact absurd hp (by decide +kernel))
   rw[aa5]at this;exact this
 |@rep i w m hi hr=>
  have Jo:=(aan.mp hi).1;have hw:w∉six->Wd w:=λhn=>(G.tok w (aa8 hi)).resolve_right hn
  refine qT G (tk _ _) (dk _ _) ?_ ?_ (λp hp=>?_) (Qh G hi hr)
  .have:=lt i
   have e:((ts++[(":":Str),N]).drop (i+1)).length<=((ts++[(":":Str),N]).drop i).length:=by rw[ag6,ag6];omega
   omega
  .cases hr<;>simp
  .cases hr with
   |br _=>cases hp
   |out _=>cases hp
   |kept _ hk=>rw[aaq.mp hp];exact pb (qS _ (by simp[hk]))
   |bad _ hk=>rw[aaq.mp hp];exact pb (qS _ (by simp[hk]))
   |nine hn=>rw[aaq.mp hp];exact .nine (hw hn)
 |@w7 k hk=>
  refine qT G zq (λp hp=>?_) (by simp;omega) (by simp) (λp hp=>by rw[aaq.mp hp];exact pb (Qj k hk)) (.inr ⟨ts++[k],N,by simp,?_,by rw[aaf];simp;omega,.inl ?_⟩)
  .exact abz _ hp
  .rw[ib];have:=j_ k;omega
  .rw[kb,G.run,Zu,gw]
   exact Qo k hk
 |@w8 k hk=>
  have:=qT (A:=ts++[(":":Str),N]) (B:=[]) (m:=[k]) G (λp hp=>hp) (λp hp=>by cases hp) (by simp;omega) (by simp) (λp hp=>by rw[aaq.mp hp];exact pb (Qk k hk)) (by
   rw[aa5];exact .inl ⟨ts++[(":":Str)],N,k,by simp,G.num⟩)
  rw[aa5]at this;exact this
end
def gy(a:XE)(σ:Qm.Env)(c:Cells)(xs:List Str):Prop:=∀c1,c <+:c1->∃n c',a σ c1=aa (.ref n,c')/\c'[n]? =aa (.lst (xs.map D.str))/\c1 <+:c'
def sG(a:XE)(σ:Qm.Env)(c:Cells)(x:Str):Prop:=∀c1,c <+:c1->∃c',a σ c1=aa (.str x,c')/\c1 <+:c'
def fT(a:XE)(σ:Qm.Env)(c:Cells)(i:Int):Prop:=∀c1,c <+:c1->a σ c1=aa (.int i,c1)
section
variable{a b:XE}{σ:Qm.Env}{c:Cells}{xs ys:List Str}{x y:Str}{i j:Int}
theorem gy.up{c':Cells}(h:gy a σ c xs)(p:c <+:c'):gy a σ c' xs:=λc1 p1=>h c1 (p.trans p1)
theorem f_{g:G2}{p q:D×Cells}{c:Cells}(h1:a σ c=aa p)(h2:b σ p.2=aa q):e2 g a b σ c=g p.1 q.1 q.2:=by
 unfold e2;rw[h1,Zu,h2,Zu]
theorem gf(h1:gy a σ c xs)(h2:gy b σ c ys)(hl:xs.length+ys.length<=10000):gy (e2 bc a b) σ c (xs++ys):=λc1 p1=>by
 obtain⟨n,c2,e1,q1,p2⟩:=h1 c1 p1;obtain⟨m,c3,Fn,q2,p3⟩:=h2 c2 (p1.trans p2);have q1':=a_ p3 q1;have ga:=h_ (c:=c3) q1' q2 (by rw[aaE,aaE];exact hl);refine⟨c3.length,c3++[.lst (xs.map D.str++ys.map D.str)],?_,?_,p2.trans (p3.trans (abn _ _))⟩
 .rw[f_ e1 Fn];exact ga
 .rw[aG,agF]
theorem HM:gy (aL aj) σ c []:=λc1 _=>⟨c1.length,c1++[.lst []],by erw[iz],aG,abn _ _⟩
theorem jq(h:sG a σ c x):gy (aL (af a aj)) σ c [x]:=λc1 p1=>by
 obtain⟨c2,e1,p2⟩:=h c1 p1;refine⟨c2.length,c2++[.lst [.str x]],?_,aG,p2.trans (abn _ _)⟩;have l1: 1<=dJ:=cW (by decide);erw[e1,l1]
theorem mL:sG (eC (.str x)) σ c x:=λc1 _=>⟨c1,rfl,aba _⟩
theorem A6:fT (eC (.int i)) σ c i:=λ_ _=>rfl
theorem oq{k:Nat}(h:σ[k]? =aa (aa (.int i))):fT (eV k) σ c i:=λc1 _=>by
 unfold eV;rw[h];rfl
theorem HN(h:fT a σ c i):fT (e1 ez a) σ c (-i):=λc1 p=>by
 unfold e1;rw[h c1 p];rfl
theorem Cc(h1:fT a σ c i)(h2:fT b σ c j)(hj: 0<j):fT (e2 cG a b) σ c (i % j):=λc1 p=>by
 rw[f_ (h1 c1 p) (h2 c1 p)];exact yV hj
theorem Qq(h1:fT a σ c i)(h2:fT b σ c j)(hj: 0<j)(hb:My.Bd 8900 j):fT (e2 eK a b) σ c (i / j):=λc1 p=>by
 rw[f_ (h1 c1 p) (h2 c1 p)];exact mB hj hb
theorem Qr(h1:fT a σ c i)(h2:fT b σ c j):fT (e2 bc a b) σ c (i+j):=λc1 p=>by
 rw[f_ (h1 c1 p) (h2 c1 p)];rfl
theorem wc(h1:gy a σ c xs)(h2:fT b σ c i)(h0: 0<=i)(hi:i<xs.length):∃x∈xs,sG (e2 aK a b) σ c x:=by
 have hn:i.toNat<xs.length:=by omega
 refine⟨xs[i.toNat],ahk hn,λc1 p1=>?_⟩;obtain⟨n,c2,e1,q1,p2⟩:=h1 c1 p1;refine⟨c2,?_,p2⟩;rw[f_ e1 (h2 c2 (p1.trans p2))];dsimp only
 have qF:eI (xs.map D.str) i=aa (.str xs[i.toNat]):=by
  have:=gP (xs:=xs.map D.str) (n:=i.toNat) (x:=.str xs[i.toNat]) (by rw[aa6,aav hn];rfl);rwa[show((i.toNat:Nat):Int)=i by omega]at this
 rw[cJ,aB q1];simp only[Zu,qt,qF]
inductive Cs:XA->List Str->Prop
 |nil:Cs aj []
 |cons {x:Str}{r:XA}{xs:List Str}:Cs r xs->Cs (af (eC (.str x)) r) (x::xs)
theorem Cs.run{r:XA}(h:Cs r xs)(c1:Cells):r σ c1=aa (xs.map D.str,c1):=by
 induction h with
 |nil=>rfl
 |cons _ ih=>
  unfold af;rw[show eC (.str _) σ c1=aa (.str _,c1)from rfl,Zu,ih];rfl
theorem tT{r:XA}(h:Cs r xs)(hl:xs.length<=10000):gy (aL r) σ c xs:=λc1 _=>by
 refine⟨c1.length,c1++[.lst (xs.map D.str)],?_,aG,abn _ _⟩;unfold aL;rw[h.run,Zu];dsimp only
 rw[if_pos (by rw[aaE];exact cW hl)]
def HP(r:XA)(σ:Qm.Env)(c:Cells)(xp:List (List Str)):Prop:=∀c1,c <+:c1->∃(ns:List Nat) (c':Cells),r σ c1=aa (ns.map D.ref,c')/\ns.length=xp.length/\(∀(i:Nat) n xs,ns[i]? =aa n->xp[i]? =aa xs->c'[n]? =aa (.lst (xs.map D.str)))/\c1 <+:c'
theorem Cd:HP aj σ c []:=λc1 _=>⟨[],c1,rfl,rfl,(λi n xs h=>by simp at h),aba _⟩
variable{xp:List (List Str)}
theorem gY{r:XA}(h:gy a σ c xs)(g:HP r σ c xp):HP (af a r) σ c (xs::xp):=λc1 p1=>by
 obtain⟨n,c2,e1,q1,p2⟩:=h c1 p1;obtain⟨ns,c3,ee,hl,q2,p3⟩:=g c2 (p1.trans p2);refine⟨n::ns,c3,?_,by simp[hl],λi m ys h1 h2=>?_,p2.trans p3⟩
 .unfold af
  rw[e1,Zu,ee,Zu];rfl
 .cases i with
  |zero=>cases h1;cases h2;exact a_ p3 q1
  |succ i=>exact q2 i m ys (by simpa using h1) (by simpa using h2)
theorem Ce{r:XA}(h1:HP r σ c xp)(h2:fT b σ c i)(h0: 0<=i)(hi:i<xp.length)(hl:xp.length<=10000):∃xs∈xp,gy (e2 aK (aL r) b) σ c xs:=by
 have hn:i.toNat<xp.length:=by omega
 refine⟨xp[i.toNat],ahk hn,λc1 p1=>?_⟩;obtain⟨ns,c2,ee,hlen,q2,p2⟩:=h1 c1 p1;have hm:i.toNat<ns.length:=by omega
 have el:aL r σ c1=aa (.ref c2.length,c2++[.lst (ns.map D.ref)]):=by
  unfold aL;rw[ee,Zu];dsimp only
  rw[if_pos (by rw[aaE,hlen];exact cW hl)]
 refine⟨ns[i.toNat],c2++[.lst (ns.map D.ref)],?_,bu (q2 i.toNat _ _ (aav hm) (aav hn)),p2.trans (abn _ _)⟩;rw[f_ el (h2 _ (p1.trans (p2.trans (abn _ _))))];dsimp only
 have qF:eI (ns.map D.ref) i=aa (.ref ns[i.toNat]):=by
  have:=gP (xs:=ns.map D.ref) (n:=i.toNat) (x:=.ref ns[i.toNat]) (by rw[aa6,aav hm];rfl);rwa[show((i.toNat:Nat):Int)=i by omega]at this
 rw[cJ,aB aG];simp only[Zu,qt,qF]
theorem xK{s k:Nat}{P:List Str}{lo hi:XO}{l h:Option Int}(tI:σ[k]? =aa (aa (.ref s)))(hs:c[s]? =aa (.lst (P.map D.str)))(ZW:∀c1,c <+:c1->lo σ c1=aa (l,c1))(hhi:∀c1,c <+:c1->hi σ c1=aa (h,c1)):gy (eH cN (eV k) lo hi) σ c (Qm.cutD P l h):=λc1 p1=>by
 refine⟨c1.length,c1++[.lst ((Qm.cutD P l h).map D.str)],?_,aG,abn _ _⟩;have ev:eV k σ c1=aa (.ref s,c1):=by unfold eV;rw[tI];rfl
 unfold eH;rw[ev,Zu,ZW c1 p1,Zu,hhi c1 p1,Zu];dsimp only
 rw[kO (a_ p1 hs)];unfold Qm.cutD;rw[aaE,List.map_take,List.map_drop]
theorem xM{c:Cells}:∀c1,c <+:c1->bU σ c1=aa (ae,c1):=λ_ _=>rfl
theorem xN(h:fT a σ c i):∀c1,c <+:c1->bF a σ c1=aa (aa i,c1):=λc1 p=>jK (h c1 p)
theorem Qs{α:Type}{P:List α}{n:Nat}(h:n<=P.length):Qm.cutD P ae (aa (n:Int))=P.take n:=by
 unfold Qm.cutD Qm.yq;dsimp only
 rw[if_neg (by omega),amS,Nat.sub_zero,aht,Nat.min_eq_left h]
theorem JD{α:Type}{P:List α}{n:Nat}(h:n<=P.length)(h0: 0<n):Qm.cutD P ae (aa (-(n:Int)))=P.take (P.length - n):=by
 unfold Qm.cutD Qm.yq;dsimp only
 rw[if_pos (by omega),amS,Nat.sub_zero]
 congr 1
 omega
theorem El{α:Type}{P:List α}{n:Nat}(h:n<=P.length)(h0: 0<n):Qm.cutD P (aa (-(n:Int))) ae=P.drop (P.length - n):=by
 unfold Qm.cutD Qm.yq;dsimp only
 rw[if_pos (by omega)];have:(-(n:Int)+(P.length:Int)).toNat=P.length - n:=by omega
 rw[this];refine agQ ?_;rw[ag6];omega
end
noncomputable def Qt:XS:=(bj (e2 bc (e2 bc (eH cN (eV 1) bU (bF (e1 ez (eC (.int 2))))) (e2 aK (aL (af (aL aj) (af (aL (af (eC (.str "=")) aj)) (af (aL (af (eC (.str ";")) aj)) (af (aL (af (eC (.str "::")) aj)) (af (aL (af (eC (.str "is")) aj)) (af (aL aj) aj))))))) (e2 cG (eV 3) (eC (.int 6))))) (eH cN (eV 1) (bF (e1 ez (eC (.int 1)))) bU)))
noncomputable def Qu:XS:=(bj (av dH [] (af (eV 1) (af (eV 4) (af (eC (.str ":")) aj)))))
noncomputable def Qv:XS:=(bj (e2 aK (aL (af (eH cN (eV 1) bU (bF (e1 ez (eC (.int 1))))) (af (eH cN (eV 1) (bF (e1 ez (eC (.int 2)))) bU) aj))) (e2 cG (eV 3) (eC (.int 2)))))
noncomputable def Qw:XS:=(ax (aE 8 (aL (af (eC (.str "-0")) (af (eC (.str "00")) (af (eC (.str "07")) (af (eC (.str "3/1")) (af (eC (.str "4/2")) (af (eC (.str "1/0")) (af (eC (.str "+3")) (af (eC (.str "1/-2")) (af (eC (.str "1.5")) (af (eC (.str "--3")) (af (eC (.str "1/2/3")) (af (eC (.str "/3")) (af (eC (.str "3/")) (af (eC (.str "-")) (af (eC (.str "0/5")) aj))))))))))))))))) (bj (e2 bc (eH cN (eV 1) bU (bF (e1 ez (eC (.int 1))))) (aL (af (e2 aK (e2 bc (eV 8) (aL (af (eC (.str "03/7")) (af (eC (.str "3/07")) (af (eC (.str "-03")) (af (eC (.str "any")) (af (eC (.str "1_0")) (af (eC (.str "1/+2")) (af (eC (.str "1 /2")) (af (eC (.str "+1")) aj)))))))))) (e2 cG (eV 3) (eC (.int 23)))) aj)))))
noncomputable def Qx:XS:=(ax (aE 9 (e2 aK (eV 7) (e2 cG (eV 3) (eB bA (af (eV 7) aj))))) (bj (e2 bc (eH cN (eV 1) bU (bF (eV 9))) (eH cN (eV 1) (bF (e2 bc (eV 9) (eC (.int 1)))) bU))))
noncomputable def Qy:XS:=(ax (aE 10 (e2 aK (eV 6) (e2 cG (eV 3) (eB bA (af (eV 6) aj))))) (bj (e2 bc (e2 bc (eH cN (eV 1) bU (bF (eV 10))) (aL (af (e2 aK (aL (af (eC (.str "and")) (af (eC (.str "or")) (af (eC (.str "not")) (af (eC (.str "any")) aj))))) (e2 cG (e2 eK (eV 3) (eC (.int 64))) (eC (.int 4)))) aj))) (eH cN (eV 1) (bF (e2 bc (eV 10) (eC (.int 1)))) bU))))
noncomputable def Qz:XS:=(ax (aE 10 (e2 aK (eV 6) (e2 cG (eV 3) (eB bA (af (eV 6) aj))))) (ax (aE 11 (e2 aK (aL (af (eC (.str "Ab")) (af (eC (.str "a1")) (af (eC (.str "abcdefghi")) (af (e2 gM (e2 aK (eV 1) (eV 10)) (eC (.int 9))) (af (eC (.str "a-b")) (af (eC (.str "a.b")) (af (eC (.str "a~b")) (af (eC (.str "a_b")) aj))))))))) (e2 cG (e2 eK (eV 3) (eC (.int 64))) (eC (.int 8))))) (bj (e2 bc (e2 bc (eH cN (eV 1) bU (bF (eV 10))) (aL (af (eV 11) aj))) (eH cN (eV 1) (bF (e2 bc (eV 10) (eC (.int 1)))) bU)))))
noncomputable def QB:XS:=(bj (av dH [] (af (eV 1) (af (eV 5) (af (e2 aK (aL (af (eC (.str "any")) (af (eC (.str "and")) (af (eC (.str "or")) (af (eC (.str "not")) (af (eC (.str "(")) (af (eC (.str ")")) (af (eC (.str "abc")) (af (eC (.str "3")) aj))))))))) (e2 cG (eV 3) (eC (.int 8)))) aj)))))
noncomputable def QC:XS:=(bj (e2 bc (eV 1) (aL (af (e2 aK (aL (af (eC (.str "any")) (af (eC (.str ")")) (af (eC (.str ":")) (af (eC (.str "3")) (af (eC (.str "x")) (af (eC (.str "and")) (af (eC (.str "(")) aj)))))))) (e2 cG (eV 3) (eC (.int 7)))) aj))))
noncomputable def QD:XS:=(bj (av dH [] (af (eV 1) (af (eV 4) (af (e2 aK (aL (af (eC (.str "#")) (af (eC (.str ";")) (af (eC (.str "[")) (af (eC (.str "=")) (af (eC (.str "A")) (af (eC (.str "_")) (af (eC (.str "~")) (af (eC (.str "	")) aj))))))))) (e2 cG (eV 3) (eC (.int 8)))) aj)))))
noncomputable def HQ:XS:=(ax (aE 10 (e2 aK (eV 6) (e2 cG (eV 3) (eB bA (af (eV 6) aj))))) (bj (e2 bc (eH cN (eV 1) bU (bF (eV 10))) (eH cN (eV 1) (bF (e2 bc (eV 10) (eC (.int 1)))) bU))))
noncomputable def SF:XS:=(bj (e2 bc (e2 bc (eH cN (eV 1) bU (bF (eV 4))) (e2 aK (aL (af (aL (af (eC (.str "(")) (af (eC (.str ")")) aj))) (af (aL (af (eC (.str "(")) aj)) (af (aL (af (eC (.str ")")) aj)) aj)))) (e2 cG (e2 eK (eV 3) (eC (.int 64))) (eC (.int 3))))) (eH cN (eV 1) (bF (eV 4)) bU)))
noncomputable def QF:XS:=(ax (cu (tV (e2 cO (eV 2) (eC (.int 0)))) Qt bz) (ax (cu (tV (e2 cO (eV 2) (eC (.int 1)))) Qu bz) (ax (cu (tV (e2 cO (eV 2) (eC (.int 2)))) Qv bz) (ax (cu (tV (e2 cO (eV 2) (eC (.int 3)))) Qw bz) (ax (cu (dI (tV (e2 cO (eV 2) (eC (.int 4)))) (tV (e2 gG (eV 7) (aL aj)))) Qx bz) (ax (cu (dI (tV (e2 cO (eV 2) (eC (.int 5)))) (tV (e2 gG (eV 6) (aL aj)))) Qy bz) (ax (cu (dI (tV (e2 cO (eV 2) (eC (.int 6)))) (tV (e2 gG (eV 6) (aL aj)))) Qz bz) (ax (cu (tV (e2 cO (eV 2) (eC (.int 7)))) QB bz) (ax (cu (tV (e2 cO (eV 2) (eC (.int 8)))) QC bz) (ax (cu (tV (e2 cO (eV 2) (eC (.int 9)))) QD bz) (ax (cu (dI (tV (e2 cO (eV 2) (eC (.int 10)))) (tV (e2 gG (eV 6) (aL aj)))) HQ bz) SF)))))))))))
theorem Gn:gC=(ax (aE 2 (av au [] (af (eV 0) (af (eC (.int 12)) aj)))) (ax (aE 3 (av au [] (af (eV 0) (af (e2 qv (eC (.int 10)) (eC (.int 6))) aj)))) (ax (aE 4 (e2 cG (eV 3) (e2 bc (eB bA (af (eV 1) aj)) (eC (.int 1))))) (ax (aE 5 (e2 iC (eB bA (af (eV 1) aj)) (eC (.int 2)))) (ax (aE 6 (eJ (dZ (af (eV 5) aj)) [ae,aa 1] (aM 0) (tV (e2 rK (e2 aK (eV 1) (eV 0)) (dc (af (eC (.str "(")) (af (eC (.str ")")) (af (eC (.str "and")) (af (eC (.str "or")) (af (eC (.str "not")) (af (eC (.str "any")) aj))))))))) (eV 0))) (ax (aE 7 (eJ (dZ (af (eV 5) aj)) [ae,aa 1] (aM 0) (tV (e2 wI (e2 aK (eV 1) (eV 0)) (eC (.str "()")))) (eV 0))) QF)))))):=by
 unfold gC QF SF Qt Qu Qv Qw Qx Qy Qz QB QC QD HQ;rfl
section
variable{a b:XE}{σ:Qm.Env}{c:Cells}{xs ys:List Str}{x y:Str}{i j:Int}
def HR(r:XA)(σ:Qm.Env)(c:Cells)(xs:List Str):Prop:=∀c1,c <+:c1->∃c',r σ c1=aa (xs.map D.str,c')/\c1 <+:c'
theorem QH:HR aj σ c []:=λc1 _=>⟨c1,rfl,aba _⟩
theorem kc{r:XA}(h:sG a σ c x)(g:HR r σ c xs):HR (af a r) σ c (x::xs):=λc1 p1=>by
 obtain⟨c2,e1,p2⟩:=h c1 p1;obtain⟨c3,ee,p3⟩:=g c2 (p1.trans p2);refine⟨c3,?_,p2.trans p3⟩;unfold af;rw[e1,Zu,ee,Zu];rfl
theorem V2{r:XA}(h:HR r σ c xs)(hl:xs.length<=10000):gy (aL r) σ c xs:=λc1 p1=>by
 obtain⟨c2,e1,p2⟩:=h c1 p1;refine⟨c2.length,c2++[.lst (xs.map D.str)],?_,aG,p2.trans (abn _ _)⟩;unfold aL;rw[e1,Zu];dsimp only
 rw[if_pos (by rw[aaE];exact cW hl)]
theorem Sk{k s:Nat}(tI:σ[k]? =aa (aa (.ref s)))(hs:c[s]? =aa (.lst (xs.map D.str))):gy (eV k) σ c xs:=λc1 p=>⟨s,c1,by unfold eV;rw[tI];rfl,a_ p hs,aba _⟩
theorem Sl{k:Nat}(tI:σ[k]? =aa (aa (.str x))):sG (eV k) σ c x:=λc1 _=>⟨c1,by unfold eV;rw[tI];rfl,aba _⟩
theorem QJ(h:sG a σ c x)(hl:x.length<=1000):sG (e2 gM a (eC (.int 9))) σ c (cx x 9):=λc1 p1=>by
 obtain⟨c2,e1,p2⟩:=h c1 p1;refine⟨c2,?_,p2⟩;rw[f_ (b:=eC (.int 9)) (q:=(.int 9,c2)) e1 rfl];exact rY (by decide) (by decide) hl
def nt(k:Nat):D:=.int k
theorem QK{k s:Nat}{ds:List D}(tI:σ[k]? =aa (aa (.ref s)))(hs:c[s]? =aa (.lst ds)):fT (eB bA (af (eV k) aj)) σ c (ds.length:Int):=λc1 p=>by
 have ev:eV k σ c1=aa (.ref s,c1):=by unfold eV;rw[tI];rfl
 have bl:=eo (x:=.ref s) (c:=c1);rw[aB (a_ p hs)]at bl;unfold eB af;rw[ev,Zu];show(aa ([D.ref s],c1)).bind _=_;rw[Zu];exact bl
theorem V3{k s:Nat}{ks:List Nat}(tI:σ[k]? =aa (aa (.ref s)))(hs:c[s]? =aa (.lst (ks.map nt)))(h2:fT b σ c i)(h0: 0<=i)(hi:i<ks.length):∃m∈ks,fT (e2 aK (eV k) b) σ c (m:Int):=by
 have hn:i.toNat<ks.length:=by omega
 refine⟨ks[i.toNat],ahk hn,λc1 p=>?_⟩;have ev:eV k σ c1=aa (.ref s,c1):=by unfold eV;rw[tI];rfl
 rw[f_ ev (h2 c1 p)];dsimp only
 have qF:eI (ks.map nt) i=aa (.int (ks[i.toNat]:Nat)):=by
  have:=gP (xs:=ks.map nt) (n:=i.toNat) (x:=nt ks[i.toNat]) (by rw[aa6,aav hn];rfl);rwa[show((i.toNat:Nat):Int)=i by omega]at this
 rw[cJ,aB (a_ p hs)];simp only[Zu,qt,qF]
theorem V4{k s m:Nat}(tI:σ[k]? =aa (aa (.ref s)))(hs:c[s]? =aa (.lst (xs.map D.str)))(h2:fT b σ c (m:Int))(hm:xs[m]? =aa x):sG (e2 aK (eV k) b) σ c x:=λc1 p=>by
 have ev:eV k σ c1=aa (.ref s,c1):=by unfold eV;rw[tI];rfl
 refine⟨c1,?_,aba _⟩;rw[f_ ev (h2 c1 p)];dsimp only
 have qF:eI (xs.map D.str) (m:Int)=aa (.str x):=gP (by rw[aa6,hm];rfl);rw[cJ,aB (a_ p hs)];simp only[Zu,qt,qF]
theorem Nm{w n:Nat}{ks:List Nat}{c:Cells}(h:c[w]? =aa (.lst (ks.map nt)))(hn:c[n]? =aa (.lst [])):gG (.ref w) (.ref n) c=aa (.bl (decide (ks≠[])),c):=by
 have o:∀ks:List Nat,omap (data c 5) (ks.map nt)=aa (ks.map λ(k:Nat)=>PyData.int (k:Int)):=by
  intro ks
  induction ks with
  |nil=>rfl
  |cons k ks ih=>
   rw[abk];unfold omap;rw[show data c 5 (nt k)=aa (.int k)from rfl,Zu,ih];rfl
 have:vH (.ref w) (.ref n) c=(data c 6 (.ref w)).bind λd=>(data c 6 (.ref n)).bind λe=>aa (@decide (d=e) (adp _)):=rfl
 unfold gG;rw[this,kN h (o ks),kN hn (show omap (data c 5) []=aa [] from rfl)];simp
end
def Res(ts:List Str)(N:Str)(σ:Qm.Env)(c:Cells)(f:XS):Prop:=∃s' ss σ' c',f σ c=aa (.rt (.ref s'),σ',c')/\c'[s']? =aa (.lst (ss.map D.str))/\tR ts N ss/\c <+:c'
theorem Res.ret{e:XE}(h:gy e σ c ss)(hs:tR ts N ss):Res ts N σ c (bj e):=by
 obtain⟨n,c',e1,q1,p1⟩:=h c (aba _);refine⟨n,ss,σ,c',?_,q1,hs,p1⟩;rw[oQ,e1];rfl
theorem Res.set{c1:Cells}{k:Nat}{e:XE}{f:XS}(h:e σ c=aa (d,c1))(p:c <+:c1)(hr:Res ts N (σ.set k (aa d)) c1 f):Res ts N σ c (ax (aE k e) f):=by
 obtain⟨s',ss,σ',c',e1,q1,hs,p1⟩:=hr;refine⟨s',ss,σ',c',?_,q1,hs,p.trans p1⟩;refine aw (σ1:=σ.set k (aa d)) (c1:=c1) ?_ e1;rw[jI,h];rfl
theorem Res.zr{T:XT}{A R:XS}{t:Bool}(h:T σ c=aa (t,c1))(p:c <+:c1)(hA:t=true->Res ts N σ c1 A)(hR:Res ts N σ c1 R):Res ts N σ c (ax (cu T A bz) R):=by
 cases t with
 |true=>
  obtain⟨s',ss,σ',c',e1,q1,hs,p1⟩:=hA rfl;refine⟨s',ss,σ',c',?_,q1,hs,p.trans p1⟩;rw[lz,oa,h,Zu];dsimp only
  rw[if_pos rfl,e1];rfl
 |false=>
  obtain⟨s',ss,σ',c',e1,q1,hs,p1⟩:=hR;refine⟨s',ss,σ',c',?_,q1,hs,p.trans p1⟩;rw[lz,oa,h,Zu];dsimp only
  rw[if_neg abh];exact e1
theorem qU{g k:Int}(h:σ[2]? =aa (aa (.int g))):∃t,tV (e2 cO (eV 2) (eC (.int k))) σ c=aa (t,c):=by
 refine⟨decide (g=k),?_⟩;have ev:eV 2 σ c=aa (.int g,c):=by unfold eV;rw[h];rfl
 have ge:cO (.int g) (.int k) c=aa (.bl (decide (g=k)),c):=by
  have:vH (.int g) (.int k) c=(data c 6 (.int g)).bind λd=>(data c 6 (.int k)).bind λe=>aa (@decide (d=e) (adp _)):=rfl
  unfold cO;rw[this,show data c 6 (.int g)=aa (.int g)from rfl,show data c 6 (.int k)=aa (.int k)from rfl];simp
 unfold tV;rw[f_ (q:=(.int k,c)) ev rfl];dsimp only
 rw[ge];rfl
theorem xO{g k:Int}{v w:Nat}{ks:List Nat}(h:σ[2]? =aa (aa (.int g)))(hw:σ[v]? =aa (aa (.ref w)))(hc:c[w]? =aa (.lst (ks.map nt))):∃t c1,dI (tV (e2 cO (eV 2) (eC (.int k)))) (tV (e2 gG (eV v) (aL aj))) σ c=aa (t,c1)/\c <+:c1/\(t=true->ks≠[]):=by
 obtain⟨t,e⟩:=qU (c:=c) (k:=k) h;unfold dI;rw[e,Zu];dsimp only
 cases t with
 |false=>exact⟨false,c,by rw[if_neg abh],aba _,λh=>by cases h⟩
 |true=>
  rw[if_pos rfl];have ev:eV v σ c=aa (.ref w,c):=by unfold eV;rw[hw];rfl
  have el:aL aj σ c=aa (.ref c.length,c++[.lst []]):=by erw[iz]
  refine⟨decide (ks≠[]),c++[.lst []],?_,abn _ _,λh=>of_decide_eq_true h⟩;unfold tV;rw[f_ ev el];dsimp only
  rw[Nm (bu hc) aG];rfl
structure Cn(ts:List Str)(N:Str)(s W B A:Nat)(cell:Int)(wr br:List Nat)(σ:Qm.Env)(c:Cells):Prop where
 v1:σ[1]? =aa (aa (.ref s))
 v3:σ[3]? =aa (aa (.int cell))
 v4:σ[4]? =aa (aa (.int (A:Int)))
 v5:σ[5]? =aa (aa (.int (ts.length:Int)))
 v6:σ[6]? =aa (aa (.ref W))
 v7:σ[7]? =aa (aa (.ref B))
 len:σ.length=12
 s:c[s]? =aa (.lst ((ts++[(":":Str),N]).map D.str))
 w:c[W]? =aa (.lst (wr.map nt))
 b:c[B]? =aa (.lst (br.map nt))
 wr:∀k∈wr,∃x,ts[k]? =aa x/\x∉six
 br:∀k∈br,∃x,ts[k]? =aa x/\jC x=true
 at_:A<=(ts++[(":":Str),N]).length
 c0: 0<=cell
 G:Good ts N
section
variable{ts:List Str}{N:Str}{s W B A:Nat}{cell:Int}{wr br:List Nat}{σ:Qm.Env}{c c1:Cells}
theorem Cn.up(h:Cn ts N s W B A cell wr br σ c)(p:c <+:c1):Cn ts N s W B A cell wr br σ c1:=
 ⟨h.v1,h.v3,h.v4,h.v5,h.v6,h.v7,h.len,a_ p h.s,a_ p h.w,a_ p h.b,h.wr,h.br,h.at_,h.c0,h.G⟩
theorem Cn.ky(h:Cn ts N s W B A cell wr br σ c):(ts++[(":":Str),N]).length=ts.length+2/\ts.length<=110:=⟨by simp,h.G.len⟩
theorem mod_lt(h:Cn ts N s W B A cell wr br σ c){k:Int}(hk: 0<k):fT (e2 cG (eV 3) (eC (.int k))) σ c (cell % k)/\0<=cell % k/\cell % k<k:=
 ⟨Cc (oq h.v3) A6 hk,agE _ (by omega),adm _ hk⟩
theorem Gp(h:Cn ts N s W B A cell wr br σ c){k:Int}(hk: 0<k):fT (e2 cG (e2 eK (eV 3) (eC (.int 64))) (eC (.int k))) σ c (cell / 64 % k)/\0<=cell / 64 % k/\cell / 64 % k<k:=
 ⟨Cc (Qq (oq h.v3) A6 (by decide) (My.Bd.mono (wK (i:=64) (by decide)) (by decide))) A6 hk,agE _ (by omega),adm _ hk⟩
theorem Gq{k i:Nat}(hk:σ[k]? =aa (aa (.ref s)))(hs:c[s]? =aa (.lst ((ts++[(":":Str),N]).map D.str))){e:XE}(he:fT e σ c (i:Int))(hi:i<=(ts++[(":":Str),N]).length):gy (eH cN (eV k) bU (bF e)) σ c ((ts++[(":":Str),N]).take i):=by
 have:=xK hk hs xM (xN he);rw[Qs hi]at this;exact this
theorem Gr{k i:Nat}(hk:σ[k]? =aa (aa (.ref s)))(hs:c[s]? =aa (.lst ((ts++[(":":Str),N]).map D.str))){e:XE}(he:fT e σ c (i:Int))(hi:i<=(ts++[(":":Str),N]).length):gy (eH cN (eV k) (bF e) bU) σ c ((ts++[(":":Str),N]).drop i):=by
 have:=xK hk hs (xN he) xM;rw[rW hi]at this;exact this
theorem Cf{n:Nat}(h:Cn ts N s W B A cell wr br σ c)(hn:n<=2)(h0: 0<n):gy (eH cN (eV 1) bU (bF (e1 ez (eC (.int (n:Int)))))) σ c ((ts++[(":":Str),N]).take (ts.length+2 - n)):=by
 have:=xK h.v1 h.s xM (xN (HN (A6 (i:=(n:Int)))));rw[JD (by rw[h.ky.1];omega) h0,h.ky.1]at this;exact this
theorem HS{n:Nat}(h:Cn ts N s W B A cell wr br σ c)(hn:n<=2)(h0: 0<n):gy (eH cN (eV 1) (bF (e1 ez (eC (.int (n:Int))))) bU) σ c ((ts++[(":":Str),N]).drop (ts.length+2 - n)):=by
 have:=xK h.v1 h.s (xN (HN (A6 (i:=(n:Int))))) xM;rw[El (by rw[h.ky.1];omega) h0,h.ky.1]at this;exact this
theorem Em:(ts++[(":":Str),N]).take ts.length=ts:=by simp
theorem A7:(ts++[(":":Str),N]).take (ts.length+1)=ts++[(":":Str)]:=by rw[ams,agQ (by omega)];simp
theorem En:(ts++[(":":Str),N]).drop ts.length=[(":":Str),N]:=by simp
theorem JE:(ts++[(":":Str),N]).drop (ts.length+1)=[N]:=by rw[akk,air (by omega)];simp
theorem jW(P:List Str)(i:Nat):(P.take i).length<=P.length/\(P.drop i).length<=P.length:=⟨by rw[ahz];omega,by rw[ag6];omega⟩
theorem Cg{e x:XE}{i:Nat}{p:Str}(h:Cn ts N s W B A cell wr br σ c)(he:fT e σ c (i:Int))(hi:i<=(ts++[(":":Str),N]).length)(hx:sG x σ c p):gy (av dH [] (af (eV 1) (af e (af x aj)))) σ c ((ts++[(":":Str),N]).take i++[p]++(ts++[(":":Str),N]).drop i):=λc1 p1=>by
 obtain⟨c2,Fn,p2⟩:=hx c1 p1;have nP:=a_ (p1.trans p2) h.s;have hP:=h.ky;have tl:=jW (ts++[(":":Str),N]) i;have L:gy (e2 bc (e2 bc (eH cN (eV 0) bU (bF (eV 1))) (aL (af (eV 2) aj))) (eH cN (eV 0) (bF (eV 1)) bU)) [aa (.ref s),aa (.int (i:Int)),aa (.str p)] c2 ((ts++[(":":Str),N]).take i++[p]++(ts++[(":":Str),N]).drop i):=
  gf (gf (Gq (k:=0) rfl nP (oq (k:=1) rfl) hi) (jq (Sl (k:=2) rfl)) (by simp only[aac,aam];omega)) (Gr (k:=0) rfl nP (oq (k:=1) rfl) hi) (by simp only[aaf,aac,aam]at *;omega)
 obtain⟨n,c3,e3,q3,p3⟩:=L c2 (aba _);refine⟨n,c3,?_,q3,p2.trans p3⟩;have ev:eV 1 σ c1=aa (.ref s,c1):=by unfold eV;rw[h.v1];rfl
 unfold av af;rw[ev,Zu,he c1 p1,Zu,Fn,Zu];show(aa ([D.ref s,.int (i:Int),.str p],c2)).bind _=_;rw[Zu];dsimp only
 rw[aa5,dH,dB,if_pos (show [D.ref s,D.int (i:Int),D.str p].length=3 from rfl)];show(lD [aa (.ref s),aa (.int (i:Int)),aa (.str p)] c2).bind fin=_;unfold lD;rw[oQ,e3];rfl
theorem abH(h:Cn ts N s W B A cell wr br σ c):Res ts N σ c Qt:=by
 obtain⟨m1,m2,m3⟩:=mod_lt h (k:=6) (by decide);obtain⟨m,hm,L⟩:=Ce (gY HM (gY (jq (mL (x:="="))) (gY (jq (mL (x:=";"))) (gY (jq (mL (x:="::"))) (gY (jq (mL (x:="is"))) (gY HM Cd)))))) m1 m2 (by simpa using m3) (by decide);have a:=Cf (n:=2) h (by decide) (by decide);have b:=HS (n:=1) h (by decide) (by decide);rw[show ts.length+2 - 2=ts.length by omega,Em]at a;rw[show ts.length+2 - 1=ts.length+1 by omega,JE]at b;have hl:=h.ky.2;have hm1:m.length<=1:=by
  simp only[aaI,abl,or_false]at hm;rcases hm with rfl|rfl|rfl|rfl|rfl|rfl<;>decide
 unfold Qt;refine Res.ret (gf (gf a L (by omega)) b (by rw[aaf];simp;omega)) (.w0 ?_);simp only[aaI,abl,or_false]at hm |-
 rcases hm with rfl|rfl|rfl|rfl|rfl|rfl<;>simp
theorem abI(h:Cn ts N s W B A cell wr br σ c):Res ts N σ c Qu:=by
 unfold Qu;exact Res.ret (Cg h (oq h.v4) h.at_ mL) (.ins h.at_ (by simp[qQ]))
theorem abJ(h:Cn ts N s W B A cell wr br σ c):Res ts N σ c Qv:=by
 obtain⟨m1,m2,m3⟩:=mod_lt h (k:=2) (by decide);have a:=Cf (n:=1) h (by decide) (by decide);have b:=HS (n:=2) h (by decide) (by decide);rw[show ts.length+2 - 1=ts.length+1 by omega,A7]at a;rw[show ts.length+2 - 2=ts.length by omega,En]at b;obtain⟨m,hm,L⟩:=Ce (gY a (gY b Cd)) m1 m2 (by simpa using m3) (by simp);unfold Qv;refine Res.ret L ?_;simp only[aaI,abl,or_false]at hm;rcases hm with rfl|rfl
 .exact .w2a
 .exact .w2b
def wrA:List Str:=["-0","00","07","3/1","4/2","1/0","+3","1/-2","1.5","--3","1/2/3","/3","3/","-","0/5"]
def wrB:List Str:=["03/7","3/07","-03","any","1_0","1/+2","1 /2","+1"]
theorem QL:wrA++wrB=si:=by decide +kernel
theorem abM(h:Cn ts N s W B A cell wr br σ c):Res ts N σ c Qw:=by
 unfold Qw;have L8:gy _ σ c wrA:=tT (.cons (.cons (.cons (.cons (.cons (.cons (.cons (.cons (.cons (.cons (.cons (.cons (.cons (.cons (.cons .nil))))))))))))))) (by decide);obtain⟨n,c1,e1,q1,p1⟩:=L8 c (aba _);refine Res.set e1 p1 ?_;have v8:(σ.set 8 (aa (.ref n)))[8]? =aa (aa (.ref n)):=by rw[ab0 (by rw[h.len];decide)]
 have vs:∀j,j≠8->(σ.set 8 (aa (.ref n)))[j]? =σ[j]? :=λj hj=>abt (ahb hj)
 have h':Cn ts N s W B A cell wr br (σ.set 8 (aa (.ref n))) c1:=by
  have h:=h.up p1;exact⟨(vs 1 (by decide)).trans h.v1,(vs 3 (by decide)).trans h.v3,(vs 4 (by decide)).trans h.v4,(vs 5 (by decide)).trans h.v5,(vs 6 (by decide)).trans h.v6,(vs 7 (by decide)).trans h.v7,by rw[abB];exact h.len,h.s,h.w,h.b,h.wr,h.br,h.at_,h.c0,h.G⟩
 obtain⟨m1,m2,m3⟩:=mod_lt h' (k:=23) (by decide);have La:=gf (Sk v8 q1) (tT (xs:=wrB) (.cons (.cons (.cons (.cons (.cons (.cons (.cons (.cons .nil)))))))) (by decide)) (by decide);rw[QL]at La;obtain⟨z,hz,S⟩:=wc La m1 m2 (by rw[show(si.length:Int)=23 by decide];exact m3);have a:=Cf (n:=1) h' (by decide) (by decide);rw[show ts.length+2 - 1=ts.length+1 by omega,A7]at a;have hl:=h.ky.2;exact Res.ret (gf a (jq S) (by simp;omega)) (.w3 hz)
theorem xP{v k W':Nat}{ks:List Nat}(hv:σ[v]? =aa (aa (.ref W')))(hw:c[W']? =aa (.lst (ks.map nt)))(h:Cn ts N s W B A cell wr br σ c)(kf:ks≠[]):∃m∈ks,fT (e2 aK (eV v) (e2 cG (eV 3) (eB bA (af (eV v) aj)))) σ c (m:Int):=by
 have hp: 0<ks.length:=alh.mpr kf;have I:=Cc (oq h.v3) (QK hv hw) (by rw[aaE];omega);rw[aaE]at I;exact V3 hv hw I (agE _ (by omega)) (adm _ (by omega))
theorem Cn.put(h:Cn ts N s W B A cell wr br σ c)(k:Nat)(d:D)(hk: 8<=k):Cn ts N s W B A cell wr br (σ.set k (aa d)) c:=by
 have vs:∀j,j≠k->(σ.set k (aa d))[j]? =σ[j]? :=λj hj=>abt (ahb hj)
 exact⟨(vs 1 (by omega)).trans h.v1,(vs 3 (by omega)).trans h.v3,(vs 4 (by omega)).trans h.v4,(vs 5 (by omega)).trans h.v5,(vs 6 (by omega)).trans h.v6,(vs 7 (by omega)).trans h.v7,by rw[abB];exact h.len,h.s,h.w,h.b,h.wr,h.br,h.at_,h.c0,h.G⟩
theorem Cn.got(h:Cn ts N s W B A cell wr br σ c){k:Nat}{d:D}(hk:k<12):(σ.set k (aa d))[k]? =aa (aa d):=by rw[ab0 (by rw[h.len];exact hk)]
theorem vb(h:Cn ts N s W B A cell wr br σ c){k i:Nat}(hv:σ[k]? =aa (aa (.int (i:Int))))(hi:i<ts.length):gy (eH cN (eV 1) bU (bF (eV k))) σ c ((ts++[(":":Str),N]).take i)/\gy (eH cN (eV 1) (bF (e2 bc (eV k) (eC (.int 1)))) bU) σ c ((ts++[(":":Str),N]).drop (i+1)):=
 ⟨Gq h.v1 h.s (oq hv) (by rw[h.ky.1];omega),Gr (i:=i+1) h.v1 h.s (by rw[amO];exact Qr (oq hv) A6) (by rw[h.ky.1];omega)⟩
theorem abN(h:Cn ts N s W B A cell wr br σ c)(hb:br≠[]):Res ts N σ c Qx:=by
 unfold Qx;obtain⟨m,hm,I⟩:=xP (k:=0) h.v7 h.b h hb;obtain⟨x,hx,tU⟩:=h.br m hm;have hi:=(aan.mp hx).1;refine Res.set (I c (aba _)) (aba _) ?_;obtain⟨a,b⟩:=vb (h.put 9 (.int (m:Int)) (by decide)) (h.got (by decide)) hi;have hl:=h.ky;have tl:=jW (ts++[(":":Str),N]) m;have V5:=jW (ts++[(":":Str),N]) (m+1);have:=tR.rep (N:=N) hx (.br tU);rw[aa5]at this;exact Res.ret (gf a b (by omega)) this
theorem V6(h:Cn ts N s W B A cell wr br σ c)(hb:wr≠[]):Res ts N σ c HQ:=by
 unfold HQ;obtain⟨m,hm,I⟩:=xP (k:=0) h.v6 h.w h hb;obtain⟨x,hx,tU⟩:=h.wr m hm;have hi:=(aan.mp hx).1;refine Res.set (I c (aba _)) (aba _) ?_;obtain⟨a,b⟩:=vb (h.put 10 (.int (m:Int)) (by decide)) (h.got (by decide)) hi;have hl:=h.ky;have tl:=jW (ts++[(":":Str),N]) m;have V5:=jW (ts++[(":":Str),N]) (m+1);have:=tR.rep (N:=N) hx (.out tU);rw[aa5]at this;exact Res.ret (gf a b (by omega)) this
theorem abO(h:Cn ts N s W B A cell wr br σ c)(hb:wr≠[]):Res ts N σ c Qy:=by
 unfold Qy;obtain⟨m,hm,I⟩:=xP (k:=0) h.v6 h.w h hb;obtain⟨x,hx,tU⟩:=h.wr m hm;have hi:=(aan.mp hx).1;refine Res.set (I c (aba _)) (aba _) ?_;have h':=h.put 10 (.int (m:Int)) (by decide);obtain⟨a,b⟩:=vb h' (h.got (by decide)) hi;obtain⟨m1,m2,m3⟩:=Gp h' (k:=4) (by decide);obtain⟨z,hz,S⟩:=wc (tT (xs:=wb) (.cons (.cons (.cons (.cons .nil)))) (by decide)) m1 m2 (by rw[show(wb.length:Int)=4 by decide];exact m3);have hl:=h.ky;have tl:=jW (ts++[(":":Str),N]) m;have V5:=jW (ts++[(":":Str),N]) (m+1);exact Res.ret (gf (gf a (jq S) (by simp only[aac,aam];omega)) b (by rw[aaf];simp only[aac,aam];omega)) (.rep hx (.kept tU hz))
theorem abQ(h:Cn ts N s W B A cell wr br σ c)(hb:wr≠[]):Res ts N σ c Qz:=by
 unfold Qz;obtain⟨m,hm,I⟩:=xP (k:=0) h.v6 h.w h hb;obtain⟨x,hx,tU⟩:=h.wr m hm;have hi:=(aan.mp hx).1;have wx:Wd x:=(h.G.tok x (aa8 hx)).resolve_right tU;refine Res.set (I c (aba _)) (aba _) ?_;have h':=h.put 10 (.int (m:Int)) (by decide);obtain⟨m1,m2,m3⟩:=Gp h' (k:=8) (by decide);have hxP:(ts++[(":":Str),N])[m]? =aa x:=by rw[abi hi];exact hx
 have Sx9:sG (e2 gM (e2 aK (eV 1) (eV 10)) (eC (.int 9))) (σ.set 10 (aa (.int (m:Int)))) c (cx x 9):=QJ (V4 h'.v1 h'.s (oq (h.got (by decide))) hxP) (by have:=wx.FR;omega);obtain⟨z,hz,S⟩:=wc (V2 (kc (mL (x:="Ab")) (kc (mL (x:="a1")) (kc (mL (x:="abcdefghi")) (kc Sx9 (kc (mL (x:="a-b")) (kc (mL (x:="a.b")) (kc (mL (x:="a~b")) (kc (mL (x:="a_b")) QH)))))))) (by simp)) m1 m2 (by simpa using m3);obtain⟨c2,Fn,p2⟩:=S c (aba _);refine Res.set Fn p2 ?_;have h2:=(h'.up p2).put 11 (.str z) (by decide);have v10:((σ.set 10 (aa (.int (m:Int)))).set 11 (aa (.str z)))[10]? =aa (aa (.int (m:Int))):=by rw[abt (by decide)];exact h.got (by decide)
 obtain⟨a,b⟩:=vb h2 v10 hi;have v11:((σ.set 10 (aa (.int (m:Int)))).set 11 (aa (.str z)))[11]? =aa (aa (.str z)):=h'.got (by decide);have hl:=h.ky;have tl:=jW (ts++[(":":Str),N]) m;have V5:=jW (ts++[(":":Str),N]) (m+1);refine Res.ret (gf (gf a (jq (Sl v11)) (by simp only[aac,aam];omega)) b (by rw[aaf];simp only[aac,aam];omega)) (.rep hx ?_);simp only[aaI,abl,or_false]at hz;rcases hz with rfl|rfl|rfl|rfl|rfl|rfl|rfl|rfl
 .exact .bad tU (by simp[sF])
 .exact .bad tU (by simp[sF])
 .exact .bad tU (by simp[sF])
 .exact .nine tU
 .exact .bad tU (by simp[sF])
 .exact .bad tU (by simp[sF])
 .exact .bad tU (by simp[sF])
 .exact .bad tU (by simp[sF])
def l7:List Str:=["any","and","or","not","(",")","abc","3"]
def l8:List Str:=["any",")",":","3","x","and","("]
def l9:List Str:=["#",";","[","=","A","_","~","\t"]
theorem abR(h:Cn ts N s W B A cell wr br σ c):Res ts N σ c QB:=by
 unfold QB;obtain⟨m1,m2,m3⟩:=mod_lt h (k:=8) (by decide);obtain⟨z,hz,S⟩:=wc (tT (xs:=l7) (.cons (.cons (.cons (.cons (.cons (.cons (.cons (.cons .nil)))))))) (by decide)) m1 m2 (by rw[show(l7.length:Int)=8 by decide];exact m3);have L:=Cg h (oq h.v5) (by rw[h.ky.1];omega) S;rw[Em,En]at L;exact Res.ret L (.w7 hz)
theorem abS(h:Cn ts N s W B A cell wr br σ c):Res ts N σ c QC:=by
 unfold QC;obtain⟨m1,m2,m3⟩:=mod_lt h (k:=7) (by decide);obtain⟨z,hz,S⟩:=wc (tT (xs:=l8) (.cons (.cons (.cons (.cons (.cons (.cons (.cons .nil))))))) (by decide)) m1 m2 (by rw[show(l8.length:Int)=7 by decide];exact m3);have hl:=h.ky;exact Res.ret (gf (Sk h.v1 h.s) (jq S) (by simp only[aaf,aac,aam];omega)) (.w8 hz)
theorem abT(h:Cn ts N s W B A cell wr br σ c):Res ts N σ c QD:=by
 unfold QD;obtain⟨m1,m2,m3⟩:=mod_lt h (k:=8) (by decide);obtain⟨z,hz,S⟩:=wc (tT (xs:=l9) (.cons (.cons (.cons (.cons (.cons (.cons (.cons (.cons .nil)))))))) (by decide)) m1 m2 (by rw[show(l9.length:Int)=8 by decide];exact m3);refine Res.ret (Cg h (oq h.v4) h.at_ S) (.ins h.at_ ?_);simp only[l9,aaI,abl,or_false]at hz;rcases hz with rfl|rfl|rfl|rfl|rfl|rfl|rfl|rfl<;>simp[qQ]
theorem abU(h:Cn ts N s W B A cell wr br σ c):Res ts N σ c SF:=by
 unfold SF;obtain⟨m1,m2,m3⟩:=Gp h (k:=3) (by decide);obtain⟨m,hm,L⟩:=Ce (gY (tT (xs:=["(",")"]) (.cons (.cons .nil)) (by decide)) (gY (jq (mL (x:="("))) (gY (jq (mL (x:=")"))) Cd))) m1 m2 (by simpa using m3) (by decide);have hl:=h.ky;have tl:=jW (ts++[(":":Str),N]) A;have hm2:m.length<=2/\m∈qQ:=by
  simp only[aaI,abl,or_false]at hm;rcases hm with rfl|rfl|rfl<;>exact⟨by decide,by simp[qQ]⟩
 exact Res.ret (gf (gf (Gq h.v1 h.s (oq h.v4) h.at_) L (by omega)) (Gr h.v1 h.s (oq h.v4) h.at_) (by rw[aaf];omega)) (.ins h.at_ hm2.2)
theorem V7{g:Int}(h:Cn ts N s W B A cell wr br σ c)(h2:σ[2]? =aa (aa (.int g))):Res ts N σ c QF:=by
 unfold QF;obtain⟨t,e⟩:=qU (c:=c) (k:=0) h2;refine Res.zr e (aba _) (λ_=>abH h) ?_;obtain⟨t,e⟩:=qU (c:=c) (k:=1) h2;refine Res.zr e (aba _) (λ_=>abI h) ?_;obtain⟨t,e⟩:=qU (c:=c) (k:=2) h2;refine Res.zr e (aba _) (λ_=>abJ h) ?_;obtain⟨t,e⟩:=qU (c:=c) (k:=3) h2;refine Res.zr e (aba _) (λ_=>abM h) ?_;obtain⟨t,c1,e,p,hp⟩:=xO (k:=4) h2 h.v7 h.b;have h:=h.up p;refine Res.zr e p (λz=>abN h (hp z)) ?_;obtain⟨t,c2,e,p,hp⟩:=xO (k:=5) h2 h.v6 h.w;have h:=h.up p;refine Res.zr e p (λz=>abO h (hp z)) ?_;obtain⟨t,c3,e,p,hp⟩:=xO (k:=6) h2 h.v6 h.w;have h:=h.up p;refine Res.zr e p (λz=>abQ h (hp z)) ?_;obtain⟨t,e⟩:=qU (c:=c3) (k:=7) h2;refine Res.zr e (aba _) (λ_=>abR h) ?_;obtain⟨t,e⟩:=qU (c:=c3) (k:=8) h2;refine Res.zr e (aba _) (λ_=>abS h) ?_;obtain⟨t,e⟩:=qU (c:=c3) (k:=9) h2;refine Res.zr e (aba _) (λ_=>abT h) ?_;obtain⟨t,c4,e,p,hp⟩:=xO (k:=10) h2 h.v6 h.w;have h:=h.up p;exact Res.zr e p (λz=>V6 h (hp z)) (abU h)
end
theorem QM:∀w∈six,w.cps.all (λk=>decide (k<1114112))=true:=by
 have h:∀w∈six,w.cps.toList.all (λk=>decide (k<1114112))=true:=by decide +kernel
 exact λw hw=>fD (h w hw)
theorem Ci{ws:List Str}(hx:x.cps.all (λk=>decide (k<1114112))=true)(h:∀w∈ws,w.cps.all (λk=>decide (k<1114112))=true):rK (.str x) (.tup (ws.map D.str)) c=aa (.bl (!decide (x∈ws)),c):=by
 unfold rK Lo;rw[tG,Zu,cq hx,Zu,tH ws h];simp
theorem QN(h:Wd x\/x∈six):ll x "()" =jC x:=by
 rcases h with h|h
 .have hb:jC x=false:=by
   unfold jC;simp only[ah3,beq_eq_false_iff_ne];exact⟨gX (lK h) M7,gX (lK h) M8⟩
  rw[hb];cases hq:ll x "()" with
  |false=>rfl
  |true=>
   exfalso;obtain⟨i,h1,h2⟩:=(ajW ("()":Str) x).mp hq;rw[akj,beq_iff_eq]at h2;cases hs:sg x with
   |nil=>
    have:=h.pos;rw[<-cR,hs]at this;exact absurd this (by decide)
   |cons k r=>
    have hk: 97<=k/\k<=122:=by simpa using abD.mp h.lt k (by show k∈sg x;rw[hs];simp)
    have hm:k∈(("()":Str).cps.toList.drop i).take x.length:=by rw[h2];show k∈sg x;rw[hs];simp
    have:=ahp (ah2 hm);have e:("()":Str).cps.toList=[40,41]:=rfl;rw[e]at this;simp only[aaI,abl,or_false]at this;omega
 .have h1:∀x∈six,ll x "()" =jC x:=by decide +kernel
  exact h1 x h
theorem QP(n:Nat):eU 0 n=(agz n).map nt:=by
 unfold eU;refine ali λk _=>?_
 show D.int _=D.int _;rw[ajy]
theorem QQ{k:Nat}(hk:k<ts.length):∃x,ts[k]? =aa x/\(ts++[(":":Str),N])[k]? =aa x:=⟨ts[k],aav hk,by rw[abi hk,aav hk]⟩
theorem Nn(h:Lf l m c)(hs:c[s]? =aa (.lst ((ts++[(":":Str),N]).map D.str)))(V8:s≠l)(G:Good ts N):
  ∃s' ss c',cE [.ref l,.ref s] c=aa (.ref s',c')/\c'[s']? =aa (.lst (ss.map D.str))/\tR ts N ss/\Lf l m c'/\Kq [l] c c':=by
 obtain⟨g,c1,e1,g0,g1,p1,k1⟩:=fE h (k:=12) (by decide) (by decide);have pw6:qv (.int 10) (.int 6) c1=aa (.int 1000000,c1):=by unfold qv;rw[BK,if_pos (by decide)];rfl
 obtain⟨cell,c2,yX,Np,QR,p2,k2⟩:=fE p1 (k:=1000000) (by decide) (by decide);have JF:=k1.trans k2;have s2:c2[s]? =aa (.lst ((ts++[(":":Str),N]).map D.str)):=JF.get hs (by simpa using V8);have hl:=G.len;have jZ:((ts++[(":":Str),N]).map D.str).length=ts.length+2:=by simp
 have bl:bA [.ref s] c2=aa (.int ((ts.length+2:Nat):Int),c2):=by rw[eo,aB s2,Zu,jZ]
 have AI:(0:Int)<((ts.length+2:Nat):Int)+1:=by omega
 have md:=yV (i:=cell) (c:=c2) AI;obtain⟨A,hA⟩:∃A:Nat,cell % (((ts.length+2:Nat):Int)+1)=(A:Int):=⟨(cell % (((ts.length+2:Nat):Int)+1)).toNat,by have:=agE cell (show((ts.length+2:Nat):Int)+1≠0 by omega);omega⟩;have hA2:A<=ts.length+2:=by have:=adm cell AI;omega
 have en:((ts.length+2:Nat):Int) - 2=(ts.length:Int):=by omega
 -- oF words Se are written
 have HU:∀k∈agz ts.length,∃x,ts[k]? =aa x/\(Wd x\/x∈six)/\∀c',c2 <+:c'->aK (.ref s) (nt k) c'=aa (.str x,c'):=λk hk=>by
  obtain⟨x,h1,h2⟩:=QQ (N:=N) (aiA.mp hk);refine⟨x,h1,G.tok x (aa8 h1),λc' p=>?_⟩;have qF:eI ((ts++[(":":Str),N]).map D.str) (k:Int)=aa (.str x):=gP (by rw[aa6,h2];rfl);show aK (.ref s) (.int (k:Int)) c'=_;rw[cJ,aB (a_ p s2),Zu,qF];rfl
 let bw:Nat->Bool:=λk=>match ts[k]? with
  |some x=>!decide (x∈six)
  |none=>false
 let bb:Nat->Bool:=λk=>match ts[k]? with
  |some x=>jC x
  |none=>false
 have hir:∀σ':Qm.Env,σ'[5]? =aa (aa (.int (ts.length:Int)))->∀c',dZ (af (eV 5) aj) σ' c'=aa (⟨(agz ts.length).map nt,[]⟩,c'):=λσ' tI c'=>by
  have:=rR (a:=af (eV 5) aj) (σ:=σ') (c:=c') (c':=c') (j:=(ts.length:Int)) (by
   have ev:eV 5 σ' c'=aa (.int (ts.length:Int),c'):=by unfold eV;rw[tI];rfl
   unfold af;rw[ev];rfl) (by omega)
  rw[aht,QP]at this;exact this
 have abW:∀(τ:Qm.Env) (c':Cells),dc (af (eC (.str "(")) (af (eC (.str ")")) (af (eC (.str "and")) (af (eC (.str "or")) (af (eC (.str "not")) (af (eC (.str "any")) aj)))))) τ c'=aa (.tup (six.map D.str),c'):=λτ c'=>by
  have l6: 6<=dJ:=cW (by decide);erw[l6];rfl
 have cw:∀σ':Qm.Env,σ'[5]? =aa (aa (.int (ts.length:Int)))->σ'[1]? =aa (aa (.ref s))->eJ (dZ (af (eV 5) aj)) [ae,aa 1] (aM 0) (tV (e2 rK (e2 aK (eV 1) (eV 0)) (dc (af (eC (.str "(")) (af (eC (.str ")")) (af (eC (.str "and")) (af (eC (.str "or")) (af (eC (.str "not")) (af (eC (.str "any")) aj))))))))) (eV 0) σ' c2=aa (.ref c2.length,c2++[.lst (((agz ts.length).filter bw).map nt)]):=λσ' h5 h1=>
  y0 (e:=nt) (x:=ae) (ρ:=[aa (.ref s)]) bw nt (hir σ' h5 c2) (by simp[uC,h1]) fw (λk hk c' p=>by
   obtain⟨x,hx,ht,hg⟩:=HU k hk;have g1:=hg c' p;have V9:bw k= !decide (x∈six):=by show(match ts[k]? with|some x=>!decide (x∈six)|none=>false)=_;rw[hx]
   have gn:=Ci (c:=c') (HL ht).1.ok QM;rw[V9];unfold tV;have ei:e2 aK (eV 1) (eV 0) [aa (nt k),aa (.ref s)] c'=aa (.str x,c'):=by
    rw[f_ (p:=(.ref s,c')) (q:=(nt k,c')) rfl rfl];exact g1
   rw[f_ ei (abW _ c')];dsimp only
   rw[gn];rfl) (λk hk c' p=>rfl) (by rw[ajZ];omega)
 have p3:c2 <+:c2++[Cell.lst (((agz ts.length).filter bw).map nt)]:=abn _ _;generalize QU:c2++[Cell.lst (((agz ts.length).filter bw).map nt)]=c3 at p3 cw;have cb:∀σ':Qm.Env,σ'[5]? =aa (aa (.int (ts.length:Int)))->σ'[1]? =aa (aa (.ref s))->eJ (dZ (af (eV 5) aj)) [ae,aa 1] (aM 0) (tV (e2 wI (e2 aK (eV 1) (eV 0)) (eC (.str "()")))) (eV 0) σ' c3=aa (.ref c3.length,c3++[.lst (((agz ts.length).filter bb).map nt)]):=λσ' h5 h1=>
  y0 (e:=nt) (x:=ae) (ρ:=[aa (.ref s)]) bb nt (hir σ' h5 c3) (by simp[uC,h1]) fw (λk hk c' p=>by
   obtain⟨x,hx,ht,hg⟩:=HU k hk;have g1:=hg c' (p3.trans p);have V_:bb k=jC x:=by show(match ts[k]? with|some x=>jC x|none=>false)=_;rw[hx]
   rw[V_];unfold tV;have ei:e2 aK (eV 1) (eV 0) [aa (nt k),aa (.ref s)] c'=aa (.str x,c'):=by
    rw[f_ (p:=(.ref s,c')) (q:=(nt k,c')) rfl rfl];exact g1
   rw[f_ (q:=(.str "()",c')) ei rfl];dsimp only
   rw[show wI (.str x) (.str "()") c'=aa (.bl (ll x "()"),c')from rfl,QN ht];rfl) (λk hk c' p=>rfl) (by rw[ajZ];omega)
 have p4:c3 <+:c3++[Cell.lst (((agz ts.length).filter bb).map nt)]:=abn _ _;have cn:Cn ts N s c2.length c3.length A cell ((agz ts.length).filter bw) ((agz ts.length).filter bb) [aa (.ref l),aa (.ref s),aa (.int g),aa (.int cell),aa (.int (A:Int)),aa (.int (ts.length:Int)),aa (.ref c2.length),aa (.ref c3.length),ae,ae,ae,ae] (c3++[Cell.lst (((agz ts.length).filter bb).map nt)]):=by
  refine⟨rfl,rfl,rfl,rfl,rfl,rfl,rfl,a_ (p3.trans p4) s2,a_ p4 (by rw[<-QU];exact aG),aG,λk hk=>?_,λk hk=>?_,by rw[aaf];simp;omega,Np,G⟩
  .obtain⟨h1,h2⟩:=ai5.mp hk
   obtain⟨x,hx,_⟩:=HU k h1;refine⟨x,hx,λhm=>?_⟩;have V9:bw k= !decide (x∈six):=by show(match ts[k]? with|some x=>!decide (x∈six)|none=>false)=_;rw[hx]
   rw[V9,decide_eq_true hm]at h2;cases h2
  .obtain⟨h1,h2⟩:=ai5.mp hk
   obtain⟨x,hx,_⟩:=HU k h1;have V_:bb k=jC x:=by show(match ts[k]? with|some x=>jC x|none=>false)=_;rw[hx]
   exact⟨x,hx,by rw[<-V_];exact h2⟩
 obtain⟨s',ss,σ',c',er,q',s_,p5⟩:=V7 cn (g:=g) rfl;have pp:c2 <+:c':=p3.trans (p4.trans p5);refine⟨s',ss,c',?_,q',s_,p2.keep (Kq.pre (S:=[]) pp) (by simp),JF.trans (Kq.pre pp)⟩;have run:gC [aa (.ref l),aa (.ref s),ae,ae,ae,ae,ae,ae,ae,ae,ae,ae] c=aa (.rt (.ref s'),σ',c'):=by
  rw[Gn];refine aw (σ1:=[aa (.ref l),aa (.ref s),aa (.int g),ae,ae,ae,ae,ae,ae,ae,ae,ae]) (c1:=c1) (by erw[e1]) ?_;refine aw (σ1:=[aa (.ref l),aa (.ref s),aa (.int g),aa (.int cell),ae,ae,ae,ae,ae,ae,ae,ae]) (c1:=c2) (by erw[pw6,yX]) ?_;refine aw (σ1:=[aa (.ref l),aa (.ref s),aa (.int g),aa (.int cell),aa (.int (A:Int)),ae,ae,ae,ae,ae,ae,ae]) (c1:=c2) (by rw[hA]at md;erw[bl,md]) ?_;refine aw (σ1:=[aa (.ref l),aa (.ref s),aa (.int g),aa (.int cell),aa (.int (A:Int)),aa (.int (ts.length:Int)),ae,ae,ae,ae,ae,ae]) (c1:=c2) (by erw[bl,en]) ?_;refine aw (σ1:=[aa (.ref l),aa (.ref s),aa (.int g),aa (.int cell),aa (.int (A:Int)),aa (.int (ts.length:Int)),aa (.ref c2.length),ae,ae,ae,ae,ae]) (c1:=c3) (by rw[jI,cw _ rfl rfl];rfl) ?_;refine aw (σ1:=[aa (.ref l),aa (.ref s),aa (.int g),aa (.int cell),aa (.int (A:Int)),aa (.int (ts.length:Int)),aa (.ref c2.length),aa (.ref c3.length),ae,ae,ae,ae]) (c1:=c3++[Cell.lst (((agz ts.length).filter bb).map nt)]) (by rw[jI,cb _ rfl rfl];rfl) ?_;exact er
 erw[cE,run]
def KJ(κ:Nat->Nat):Prop:=∀i j,i<11->j<11->κ i=κ j->i=j
theorem Nq{C' C S:Nat}{fs:List (Str×D)}(h:c[n]? =aa (.exc C S fs)):j7 C' [.ref n,.adr C'] c=aa (.bl (decide (C'=C)||decide (C'=S)),c):=by
 unfold j7;dsimp only
 rw[h];dsimp only
 rw[if_pos rfl]
theorem Wa{C S:Nat}{fs:List (Str×D)}(h:c[n]? =aa (.exc C S fs)):Dm [.ref n,.ty "ValueError"] c=aa (.bl true,c):=by
 unfold Dm;dsimp only
 rw[h];dsimp only
 rw[if_pos rfl]
theorem QV(xq:KJ κ){j:Nat}{fs:List (Str×D)}(h:c[n]? =aa (.exc (κ 6) (κ 0) fs))(hj:j<11)(h6:j≠6)(h0:j≠0):j7 (κ j) [.ref n,.adr (κ j)] c=aa (.bl false,c):=by
 rw[Nq h,decide_eq_false λe=>h6 (xq j 6 hj (by decide) e),decide_eq_false λe=>h0 (xq j 0 hj (by decide) e)];rfl
theorem Nr{fs:List (Str×D)}(h:c[n]? =aa (.exc (κ 6) (κ 0) fs)):j7 (κ 6) [.ref n,.adr (κ 6)] c=aa (.bl true,c):=by
 rw[Nq h,decide_eq_true rfl];rfl
theorem Wb(xq:KJ κ){fs:List (Str×D)}(h:c[n]? =aa (.exc (κ 6) (κ 0) fs)):∃c',gR κ [.ref n] c=aa (.bl true,c')/\c <+:c':=by
 have l4: 4<=dJ:=cW (by decide);have l1: 1<=dJ:=cW (by decide);have no:∀(c':Cells),c <+:c'->∀j,j<11->j≠6->j≠0->j7 (κ j) [.ref n,.adr (κ j)] c'=aa (.bl false,c'):=λc' p j hj h6 h0=>QV xq (a_ p h) hj h6 h0
 have r0:=aba c;generalize iw:c++[Cell.lst [.bl false,.bl false,.bl false,.bl false]]=c1;have p1:c <+:c1:=⟨_,iw⟩;have q1:c1[c.length]? =aa (.lst [.bl false,.bl false,.bl false,.bl false]):=by rw[<-iw];exact aG
 generalize Bg:c1++[Cell.lst [.bl false,.bl false,.bl false,.bl false]]=c2;have p2:c1 <+:c2:=⟨_,Bg⟩;have q2:c2[c1.length]? =aa (.lst [.bl false,.bl false,.bl false,.bl false]):=by rw[<-Bg];exact aG
 have g1:=h_ (c:=c2) (a_ p2 q1) q2 (by decide);generalize QU:c2++[Cell.lst ([.bl false,.bl false,.bl false,.bl false]++[.bl false,.bl false,.bl false,.bl false])]=c3 at g1;have p3:c2 <+:c3:=⟨_,QU⟩;have q3:c3[c2.length]? =aa (.lst ([.bl false,.bl false,.bl false,.bl false]++[.bl false,.bl false,.bl false,.bl false])):=by rw[<-QU];exact aG
 have QX:c <+:c3:=p1.trans (p2.trans p3);generalize Eo:c3++[Cell.lst [.bl false]]=c4;have p4:c3 <+:c4:=⟨_,Eo⟩;have q4:c4[c3.length]? =aa (.lst [.bl false]):=by rw[<-Eo];exact aG
 have g2:=h_ (c:=c4) (a_ p4 q3) q4 (by decide);generalize hc5:c4++[Cell.lst ([.bl false,.bl false,.bl false,.bl false]++[.bl false,.bl false,.bl false,.bl false]++[.bl false])]=c5 at g2;have p5:c4 <+:c5:=⟨_,hc5⟩;have q5:c5[c4.length]? =aa (.lst ([.bl false,.bl false,.bl false,.bl false]++[.bl false,.bl false,.bl false,.bl false]++[.bl false])):=by rw[<-hc5];exact aG
 have an:Lp [.ref c4.length] c5=aa (.bl false,c5):=by
  show(cj (.ref c4.length) c5).bind _=_;rw[bp q5];rfl
 refine⟨c5,?_,QX.trans (p4.trans p5)⟩;have run:j9 κ [aa (.ref n),ae] c=aa (.rt (.bl true),[aa (.ref n),aa (.ref c2.length)],c5):=by
  unfold j9;refine aw (σ1:=[aa (.ref n),aa (.ref c.length)]) (c1:=c1) (by
   erw[no c r0 1 (by decide) (by decide) (by decide),no c r0 8 (by decide) (by decide) (by decide),no c r0 3 (by decide) (by decide) (by decide),no c r0 10 (by decide) (by decide) (by decide),l4,iw]) ?_
  refine aw (σ1:=[aa (.ref n),aa (.ref c2.length)]) (c1:=c3) (by
   erw[no c1 p1 7 (by decide) (by decide) (by decide),no c1 p1 5 (by decide) (by decide) (by decide),no c1 p1 9 (by decide) (by decide) (by decide),no c1 p1 4 (by decide) (by decide) (by decide),l4,Bg,g1]) ?_
  have y:=Nr (a_ QX h);have v:=Wa (a_ QX h);have n2:=no c3 QX 2 (by decide) (by decide) (by decide);erw[y,v,n2,l1,Eo,g2,an]
 erw[gR,run]
theorem QZ(xq:KJ κ){X:Str}{i:Int}(e1:bJ κ [.str X] c=aa (.tup [.aA,.aA,.aA,.ref n],c1))(q1:c1[n]? =aa (.exc (κ 6) (κ 0) [("row",.int i)]))(p1:c <+:c1):∃c',du κ [.str X] c=aa (.int i,c')/\c <+:c':=by
 obtain⟨c2,yX,p2⟩:=Wb xq q1;have xf:Hm "row" (.ref n) c2=aa (.int i,c2):=by
  unfold Hm;dsimp only
  rw[a_ p2 q1];rfl
 have tr:Hx (bJ κ) (κ 0) 1 2 (af (eV 0) aj) [aa (.str X),aa .aA,ae] c=aa (.nx,[aa (.str X),aa (.ref n),ae],c1):=by
  unfold Hx;have:af (eV 0) aj [aa (.str X),aa .aA,ae] c=aa ([.str X],c):=rfl;rw[this,Zu];dsimp only
  rw[e1,Zu];show(match c1[n]? with
   |some (.exc _ S' _)=>if S'=κ 0 then aa (Fl.nx,([aa (D.str X),aa .aA,ae].set 1 (aa (.ref n))).set 2 ae,c1)else ae
   |_=>ae)=_
  rw[q1];dsimp only
  rw[if_pos rfl];rfl
 have gi:ik (.ref n) .aA c1=aa (.bl false,c1):=rfl;have b1:qx [.int i,.ty "int"] c2=aa (.bl true,c2):=rfl;have b2:qx [.int i,.ty "bool"] c2=aa (.bl false,c2):=rfl;refine⟨c2,?_,p1.trans p2⟩;have run:iJ κ [aa (.str X),ae,ae] c=aa (.rt (.int i),[aa (.str X),aa (.ref n),ae],c2):=by
  unfold iJ;refine aw (σ1:=[aa (.str X),aa .aA,ae]) (c1:=c) rfl ?_;refine aw tr ?_;refine aw (σ1:=[aa (.str X),aa (.ref n),ae]) (c1:=c2) (by erw[gi,yX]) ?_;refine aw (σ1:=[aa (.str X),aa (.ref n),ae]) (c1:=c2) (by erw[IS,xf,b1,b2]) ?_;erw[IS,xf]
 erw[du,run]
structure Bq(ns:List Int)(xs:List Str)(vs:List (Option D))(ps ds:List Nat)(c:Cells):Prop where
 s0:c[0]? =aa (.ro (ns.map D.int))
 r1:c[1]? =aa (.lst (xs.map D.str))
 p2:c[2]? =aa (.lst (ps.map nt))
 m3:c[3]? =aa (.lst (ds.map D.ref))
 len:xs.length=vs.length
 rows:∀(j:Nat) x v,xs[j]? =aa x->vs[j]? =aa v->Rd x v
 pd:ps.length=ds.length
 pl:∀p∈ps,p<xs.length
 inc:ps.Pairwise (·< ·)
 sm:∀d∈ds,4<=d/\∃ts N,c[d]? =aa (.lst ((ts++[(":":Str),N]).map D.str))/\Good ts N
section
variable{ns:List Int}{xs:List Str}{vs:List (Option D)}{ps ds:List Nat}{c c':Cells}
theorem Bq.lt(h:Bq ns xs vs ps ds c): 3<c.length:=cU h.m3
theorem Bq.dlt(h:Bq ns xs vs ps ds c):∀d∈ds,d<c.length:=λd hd=>by
 obtain⟨_,ts,N,h1,_⟩:=h.sm d hd;exact cU h1
theorem Bq.keep{S:List Nat}(h:Bq ns xs vs ps ds c)(k:Kq S c c')(hs:∀x∈S,4<=x/\x∉ds):Bq ns xs vs ps ds c':=by
 have no:∀i,i<4->i∉S:=λi hi hm=>by have:=(hs i hm).1;omega
 refine⟨k.get h.s0 (no 0 (by decide)),k.get h.r1 (no 1 (by decide)),k.get h.p2 (no 2 (by decide)),k.get h.m3 (no 3 (by decide)),h.len,h.rows,h.pd,h.pl,h.inc,λd hd=>?_⟩;obtain⟨h4,ts,N,h1,G⟩:=h.sm d hd;exact⟨h4,ts,N,k.get h1 λhm=>(hs d hm).2 hd,G⟩
theorem Ep{α β:Type}{R:α->β->Prop}{xs:List α}{vs:List β}{x:α}{v:β}(hl:xs.length=vs.length)(h:∀(j:Nat) x v,xs[j]? =aa x->vs[j]? =aa v->R x v)(hx:R x v):∀(j:Nat) y w,(xs++[x])[j]? =aa y->(vs++[v])[j]? =aa w->R y w:=by
 intro j y w h1 h2
 by_cases hj:j<xs.length
 .rw[abi hj]at h1
  rw[abi (by omega)]at h2;exact h j y w h1 h2
 .have h3:=(aan.mp h1).1
  rw[aaf,ahm]at h3;obtain rfl:j=xs.length:=by omega
  rw[agP (aat _)]at h1;rw[hl,agP (aat _)]at h2;simp at h1 h2;subst h1 h2;exact hx
theorem Bq.row(h:Bq ns xs vs ps ds c){x:Str}{v:Option D}(hx:Rd x v):Bq ns (xs++[x]) (vs++[v]) ps ds (c.set 1 (.lst (xs.map D.str++[.str x]))):=by
 have hl:=h.lt;refine⟨?_,?_,?_,?_,by simp[h.len],Ep h.len h.rows hx,h.pd,λp hp=>by have:=h.pl p hp;rw[aaf];omega,h.inc,λd hd=>?_⟩
 .rw[aal,if_neg (by decide)];exact h.s0
 .rw[aal,if_pos rfl,if_pos (by omega)];simp
 .rw[aal,if_neg (by decide)];exact h.p2
 .rw[aal,if_neg (by decide)];exact h.m3
 .obtain⟨h4,ts,N,h1,G⟩:=h.sm d hd
  exact⟨h4,ts,N,by rw[aal,if_neg (by omega)];exact h1,G⟩
theorem JG(n:Nat)(hn:n<=3000):Rd (cx " " n) ae:=by
 refine⟨by rw[uX (jj n)];exact hn,?_,?_,λd e=>by cases e⟩
 .rw[jj];intro hm;have:=agp hm;omega
 .rw[jj,mG]
  have:=uV n [];rw[aa5]at this;rw[this];rfl
theorem Q0{l:Nat}{m:Int}{q0 q2 q3 q4 q6 q7 q8 q9 xr:Option D}(h:Bq ns xs vs ps ds c)(hl:Lf l m c)(h4: 4<=l)(hd:l∉ds)(hN:xs.length<=1000):∃mP yU c',cu (tV (e2 cO (av au [] (af (eV 5) (af (eC (.int 5)) aj))) (eC (.int 0)))) (de (eM bI (eV 1) (af (e2 gM (eC (.str " ")) (av au [] (af (eV 5) (af (eC (.int 3)) aj)))) aj))) bz [q0,aa (.ref 1),q2,q3,q4,aa (.ref l),q6,q7,q8,q9,xr] c
  =aa (.nx,[q0,aa (.ref 1),q2,q3,q4,aa (.ref l),q6,q7,q8,q9,xr],c')/\Bq ns mP yU ps ds c'/\Lf l m c'/\xs.length<=mP.length/\mP.length<=xs.length+1/\yU.filterMap id=vs.filterMap id/\c.length<=c'.length:=by
 obtain⟨g,c1,e1,_,_,p1,k1⟩:=fE hl (k:=5) (by decide) (by decide);have b1:=h.keep k1 (by simpa using⟨h4,hd⟩)
 by_cases hg:g=0
 .subst hg
  obtain⟨g2,c2,e2,Vr,g21,p2,k2⟩:=fE p1 (k:=3) (by decide) (by decide);have b2:=b1.keep k2 (by simpa using⟨h4,hd⟩);have m2:=rY (c:=c2) (a:=" ") Vr (by omega) (by decide);have l1:=bp b1.r1;have ap:=dR (y:=.str (cx " " g2.toNat)) b2.r1 (by rw[aaE];omega);refine⟨xs++[cx " " g2.toNat],vs++[ae],_,?_,b2.row (JG _ (by omega)),p2.keep (Kq.set (S:=[1]) (by simp)) (by simp;omega),by simp,by simp,by simp,by rw[abB];have:=k1.len;have:=k2.len;omega⟩;erw[e1,l1,e2,m2,ap]
 .exact⟨xs,vs,c1,by erw[e1,hg],b1,p1,aat _,amJ _,rfl,k1.len⟩
theorem Q1{x y:Int}:TT x y≠":":=λe=>by
 have h: 58∈sg (TT x y):=by rw[e];decide
 have:=uY h;omega
theorem Nt{n:Nat}{ts:List Str}{is:List D}{t:D}{a b:Int}(h:Ex 2 n ts is t)(hb:Nb a b)(hn:nb ts<=38)(hl:ts.length<=110):Good ts (TT a b):=by
 refine⟨h.run 0,hn,hl,h.tok,λe=>?_,Q1,λk hk=>?_,BV hb,by have:=BU hb;omega⟩
 .have:=h.run 0
  rw[e]at this;cases this
 .have:=uY hk;omega
theorem Nu{n:Nat}{ts:List Str}{is:List D}{t:D}{a b:Int}{x:Str}(h:Ex 2 n ts is t)(hn:n<=40)(hb:Nb a b)(G:Good ts (TT a b))(hw:fQ (bK (sg x))=(ts++[(":":Str),TT a b]).flatMap toks)(hl:x.length<=3000)(FW: 10∉sg x):Rd x (aa (rl (t,a,b))):=by
 rw[kP λp hp=>(G.pc p hp).1]at hw;refine⟨hl,FW,by rw[hw];simp,λd e c=>?_⟩;cases e;exact VP hl hw h hn (by have:=G.len;omega) hb
noncomputable def HV:XS:=(ax (aE 5 (av eE [] (af (eV 0) (af (eV 4) aj))))
   (ax (aE 6 (av fq [] (af (eV 5) aj)))
   (ax (cu (tV (e2 cO (av au [] (af (eV 5) (af (eC (.int 5)) aj))) (eC (.int 0))))
   (de (eM bI (eV 1) (af (e2 gM (eC (.str " ")) (av au [] (af (eV 5) (af (eC (.int 3)) aj)))) aj)))
   bz)
   (ax (de (eM bI (eV 2) (af (eB bA (af (eV 1) aj)) aj)))
   (ax (de (eM bI (eV 3) (af (e2 bc (e2 aK (av dG [] (af (eV 5) (af (aL aj) (af (eC (.int 6)) (af (eC (.str "or")) aj))))) (eC (.int 0))) (aL (af (eC (.str ":")) (af (av cQ [] (af (eV 6) aj)) aj)))) aj)))
   (de (eM bI (eV 1) (af (av cm [] (af (eV 5) (af (e2 aK (eV 3) (e1 ez (eC (.int 1)))) aj))) aj))))))))
theorem JH{k:Int}{q5 q6 q7 q8 q9 xr:Option D}(h:Bq ns xs vs ps ds c)(k0: 0<=k)(k1:k<1000)(hx:xs.length<=500):
  ∃mP yU Wc Q2 c' r5 r6,HV [aa (.ref 0),aa (.ref 1),aa (.ref 2),aa (.ref 3),aa (.int k),q5,q6,q7,q8,q9,xr] c=aa (.nx,[aa (.ref 0),aa (.ref 1),aa (.ref 2),aa (.ref 3),aa (.int k),r5,r6,q7,q8,q9,xr],c')/\Bq ns mP yU Wc Q2 c'/\mP.length<=xs.length+2/\(∃r,yU.filterMap id=vs.filterMap id++[rl r])/\Q2.length=ds.length+1:=by
 obtain⟨a,b,e1⟩:=ME h.s0 k0 k1;have hl:=h.lt;have hd:=h.dlt;generalize We:c.length=l at e1;have L1:Lf l 0 (c++[.lst [.int a,.int b,.int 0]]):=⟨a,b,by rw[<-We];exact aG⟩;have h4: 4<=l:=by omega
 have Cj:l∉ds:=λhm=>by have:=hd l hm;omega
 have B1:=h.keep (Kq.more (S:=[]) (zs:=[Cell.lst [.int a,.int b,.int 0]])) (by simp);obtain⟨x,y,c2,yX,Wf,L2,k2⟩:=P7 L1;have B2:=B1.keep k2 (by simpa using⟨h4,Cj⟩);obtain⟨we,vs3,c3,e3,B3,L3,alu,vM,Jz,kl3⟩:=Q0 (q0:=aa (.ref 0)) (q2:=aa (.ref 2)) (q3:=aa (.ref 3)) (q4:=aa (.int k)) (q6:=aa (.tup [.int x,.int y])) (q7:=q7) (q8:=q8) (q9:=q9) (xr:=xr) B2 L2 h4 Cj (by omega)
 -- oF place
 have hl3:=B3.lt;have hpd:=B3.pd;have bl3:bA [.ref 1] c3=aa (.int ((we.length:Nat):Int),c3):=by rw[eo,aB B3.r1];simp
 have alv:ps.length<=we.length:=by
  have h1:=B3.inc;have h2:=B3.pl;have:ps.Nodup:=h1.imp λfW=>abA fW
  have h3:=List.Nodup.length_le_of_subset this (l₂:=agz we.length) λp hp=>aiA.mpr (h2 p hp)
  rwa[ajZ]at h3
 have ap2:=dR (y:=nt we.length) B3.p2 (by rw[aaE];omega);have l2:=bp B3.p2;generalize Eo:c3.set 2 (.lst (ps.map nt++[nt we.length]))=c4 at ap2;have s4:∀i,i≠2->c4[i]? =c3[i]? :=λi hi=>by rw[<-Eo,aal,if_neg (ahb hi)]
 have p4:c4[2]? =aa (.lst (ps.map nt++[nt we.length])):=by rw[<-Eo,aal,if_pos rfl,if_pos (by omega)]
 have L4:Lf l 0 c4:=by rw[<-Eo];exact L3.keep (Kq.set (S:=[2]) (by simp)) (by simp;omega)
 have cl4:c4.length=c3.length:=by rw[<-Eo,abB]
 -- oF pieces
 generalize hw:c4.length=w;have hll:=L4.lt;have S5:St 0 l w 0 [] (c4++[.lst []]):=⟨L4.more,by rw[<-hw];exact aG,(λp hp=>by cases hp),by omega,by decide,by decide,by decide⟩;obtain⟨s,t,m',k_,c6,ts,is,e6,x6,m0,m1,S6,s6,Q3,tl6,k6⟩:=DN 0 l w 0 [] _ S5 (by decide);have C5:w<s:=by rw[aaf]at Q3;simp at Q3;omega
 have wt:=D1 (c:=c6) Wf;have ga:=h_ (c:=c6++[.lst [.str ":",.str (TT x y)]]) (a:=s) (b:=c6.length) (xs:=ts.map D.str) (ys:=[.str ":",.str (TT x y)]) (bu s6) aG (by simp only[aac,aam,aaE];omega);have emap:ts.map D.str++[D.str ":",.str (TT x y)]=(ts++[(":":Str),TT x y]).map D.str:=by simp
 rw[emap]at ga;generalize hST:(c6++[Cell.lst [.str ":",.str (TT x y)]]).length=ST at ga;have alw:s<ST:=by have:=cU s6;rw[<-hST,aaf];omega
 have hS7:(c6++[Cell.lst [.str ":",.str (TT x y)]]++[Cell.lst ((ts++[(":":Str),TT x y]).map D.str)])[ST]? =aa (.lst ((ts++[(":":Str),TT x y]).map D.str)):=by rw[<-hST];exact aG
 generalize hc7:c6++[Cell.lst [.str ":",.str (TT x y)]]++[Cell.lst ((ts++[(":":Str),TT x y]).map D.str)]=c7 at ga hS7;have Wh:Kq [l,w] c4 c7:=by
  have:Kq [l,w] c4 (c4++[.lst []]):=Kq.more;rw[<-hc7];exact(this.trans k6).trans (Kq.more.trans Kq.more)
 have L7:Lf l m' c7:=by rw[<-hc7];exact S6.lf.more.more
 have Wi:∀i,i<w->i≠l->i∉[l,w]:=λi hi Jo=>by simp;omega
 have m7:c7[3]? =aa (.lst (ds.map D.ref)):=Wh.get (by rw[s4 3 (by decide)];exact B3.m3) (Wi 3 (by omega) (by omega));have l3:cj (.ref 3) c4=aa (3,ds.map D.ref):=bp (by rw[s4 3 (by decide)];exact B3.m3);have ap3:=dR (y:=.ref ST) m7 (by rw[aaE];omega);generalize Wj:c7.set 3 (.lst (ds.map D.ref++[.ref ST]))=c8 at ap3;have s8:∀i,i≠3->c8[i]? =c7[i]? :=λi hi=>by rw[<-Wj,aal,if_neg (ahb hi)]
 have m8:c8[3]? =aa (.lst (ds.map D.ref++[.ref ST])):=by rw[<-Wj,aal,if_pos rfl,if_pos (cU m7)]
 have L8:Lf l m' c8:=by rw[<-Wj];exact L7.keep (Kq.set (S:=[3]) (by simp)) (by simp;omega)
 have Sm:c8[ST]? =aa (.lst ((ts++[(":":Str),TT x y]).map D.str)):=by rw[s8 ST (by omega)];exact hS7
 have G:Good ts (TT x y):=Nt x6 Wf (by omega) (by omega)
 -- oF row
 have Sn:l≠ST:=by omega
 obtain⟨tx,c9,e9,w9,ab4,nl9,L9,k9⟩:=DW L8 Sm Sn (λw hw=>(G.pc w hw).1.tx) (by
  have a:=qR (n:=16) λp hp=>(G.pc p hp).2
  have:=G.len;unfold sl at a;rw[aaf]at a |-
  simp only[aac,aam]at a |-
  omega)
 have Ef:=Nu x6 (by omega) Wf G w9 ab4 nl9;have So:∀{i:Nat}{z:Cell},c8[i]? =aa z->i≠l->c9[i]? =aa z:=λ{i z} hz hi=>k9.get hz (by simpa using hi)
 have Gs:∀{i:Nat}{z:Cell},c3[i]? =aa z->i≠2->i≠3->i≠l->i<w->c8[i]? =aa z:=λ{i z} hz h2 h3 Jo hiw=>by
  rw[s8 i h3];exact Wh.get (by rw[s4 i h2];exact hz) (Wi i hiw Jo)
 have hw4: 4<w:=by have:=L4.lt;omega
 have r8:c8[1]? =aa (.lst (we.map D.str)):=Gs B3.r1 (by decide) (by decide) (by omega) (by omega);have r9:=So r8 (by omega);have l9:=bp r8;have ap9:=dR (y:=.str tx) r9 (by rw[aaE];omega);have sm8:=aB m8;have at8:eI (ds.map D.ref++[.ref ST]) (-1)=aa (.ref ST):=iY;have P8:c8[2]? =aa (.lst (ps.map nt++[nt we.length])):=by
  rw[s8 2 (by decide)];exact Wh.get p4 (Wi 2 (by omega) (by omega))
 refine⟨we++[tx],vs3++[aa (rl (t,x,y))],ps++[we.length],ds++[ST],c9.set 1 (.lst (we.map D.str++[.str tx])),aa (.ref l),aa (.tup [.int x,.int y]),?_,?_,by rw[aaf];simp;omega,⟨(t,x,y),by rw[akJ,Jz];rfl⟩,by simp⟩
 .unfold HV
  refine aw (σ1:=[aa (.ref 0),aa (.ref 1),aa (.ref 2),aa (.ref 3),aa (.int k),aa (.ref l),q6,q7,q8,q9,xr]) (c1:=c++[.lst [.int a,.int b,.int 0]]) (by erw[e1]) ?_;refine aw (σ1:=[aa (.ref 0),aa (.ref 1),aa (.ref 2),aa (.ref 3),aa (.int k),aa (.ref l),aa (.tup [.int x,.int y]),q7,q8,q9,xr]) (c1:=c2) (by erw[yX]) ?_;refine aw e3 ?_;refine aw (σ1:=[aa (.ref 0),aa (.ref 1),aa (.ref 2),aa (.ref 3),aa (.int k),aa (.ref l),aa (.tup [.int x,.int y]),q7,q8,q9,xr]) (c1:=c4) (by
   have ab5:bI (.ref 2) [.int ((we.length:Nat):Int)] c3=aa (.aA,c4):=ap2;erw[l2,bl3,ab5]) ?_
  refine aw (σ1:=[aa (.ref 0),aa (.ref 1),aa (.ref 2),aa (.ref 3),aa (.int k),aa (.ref l),aa (.tup [.int x,.int y]),q7,q8,q9,xr]) (c1:=c8) (by
   have e6':dG [.ref l,.ref w,.int 6,.str "or"] (c4++[.lst []])=aa (.tup [.ref s,t],c6):=e6;erw[l3,iz,hw,e6',wt,ga,ap3]) ?_
  erw[l9,cJ,sm8,at8,e9,ap9]
 .have zt:∀{i:Nat}{z:Cell},c8[i]? =aa z->i≠l->i≠1->(c9.set 1 (.lst (we.map D.str++[.str tx])))[i]? =aa z:=λ{i z} hz hi h1=>by
   rw[aal,if_neg (ahb h1)];exact So hz hi
  refine⟨zt (Gs B3.s0 (by decide) (by decide) (by omega) (by omega)) (by omega) (by decide),?_,?_,?_,by simp[B3.len],Ep B3.len B3.rows Ef,by simp[hpd],?_,?_,?_⟩
  .rw[aal,if_pos rfl,if_pos (cU r9)];simp
  .rw[agF];exact zt P8 (by omega) (by decide)
  .rw[agF];exact zt m8 (by omega) (by decide)
  .intro p hp
   rw[aaf,ahm];rcases abc.mp hp with hp|hp
   .have:=B3.pl p hp;omega
   .rw[aaq.mp hp];omega
  .rw[List.pairwise_append]
   refine⟨B3.inc,List.pairwise_singleton _ _,λp hp q hq=>?_⟩;rw[aaq.mp hq];exact B3.pl p hp
  .intro d sT
   rcases abc.mp sT with sT|sT
   .obtain⟨d4,Wk,N',g1,G'⟩:=B3.sm d sT
    have Q4:d≠l:=λe=>Cj (by rw[<-e];exact sT)
    exact⟨d4,Wk,N',zt (Gs g1 (by omega) (by omega) Q4 (by have:=cU g1;omega)) Q4 (by omega),G'⟩
   .rw[aaq.mp sT]
    exact⟨by omega,ts,TT x y,zt Sm (ahb Sn) (by omega),G⟩
end
theorem ab6{a:XE}(h:a σ c=aa (d,c')):af a aj σ c=aa ([d],c'):=by
 unfold af;rw[h];rfl
theorem HW{F:FN}{a:XE}(h:a σ c=aa (d,c')):eB F (af a aj) σ c=F [d] c':=by
 unfold eB;rw[ab6 h];rfl
section
variable{ns:List Int}{xs:List Str}{vs:List (Option D)}{ps ds:List Nat}{c c':Cells}
theorem Q5{α β:Type}{R:α->β->Prop}{xs:List α}{vs:List β}{x:α}{v:β}{p:Nat}(hl:xs.length=vs.length)(h:∀(j:Nat) x v,xs[j]? =aa x->vs[j]? =aa v->R x v)(hx:R x v):∀(j:Nat) y w,(xs.set p x)[j]? =aa y->(vs.set p v)[j]? =aa w->R y w:=by
 intro j y w h1 h2
 by_cases hj:p=j
 .subst hj
  rw[aal,if_pos rfl]at h1 h2;split at h1
  .split at h2
   .cases h1;cases h2;exact hx
   .cases h2
  .cases h1
 .rw[abt hj]at h1 h2
  exact h j y w h1 h2
theorem wN{k j l p:Nat}{m:Int}{σ:Qm.Env}(B:Bq ns xs vs ps ds c)(hl:Lf l m c)(h4: 4<=l)(hd:l∉ds)(v1:σ[1]? =aa (aa (.ref 1)))(v2:σ[2]? =aa (aa (.ref 2)))(v3:σ[3]? =aa (aa (.ref 3)))(v5:σ[5]? =aa (aa (.ref l)))(vk:σ[k]? =aa (aa (.int (j:Int))))(hj:ps[j]? =aa p):
  ∃tx c',j5 (av cm [] (af (eV 5) (af (av cE [] (af (eV 5) (af (e2 aK (eV 3) (eV k)) aj))) aj))) (pW (eV 1) (e2 aK (eV 2) (eV k))) σ c=aa (.nx,σ,c')/\Bq ns (xs.set p tx) (vs.set p (aa .aA)) ps ds c'/\Lf l m c':=by
 have DJ:=(aan.mp hj).1;have hjd:j<ds.length:=by have:=B.pd;omega
 have Wl:ds[j]? =aa ds[j]:=aav hjd;generalize ds[j]=d at Wl;have Jj:=aa8 Wl;obtain⟨d4,ts,N,hc,G⟩:=B.sm d Jj;have Q4:d≠l:=λe=>hd (by rw[<-e];exact Jj)
 obtain⟨s',ss,c1,e1,q1,sp,L1,k1⟩:=Nn hl hc Q4 G;have B1:=B.keep k1 (by simpa using⟨h4,hd⟩);have Sb:=sp.sb G;have V8:l≠s':=λe=>by
  obtain⟨a,b,hL⟩:=L1;rw[e,q1]at hL;cases hss:ss with
  |nil=>rw[hss]at hL;cases hL
  |cons x r=>rw[hss]at hL;cases hL
 obtain⟨tx,c2,yX,w2,RX,nl2,L2,k2⟩:=DW L1 q1 V8 Sb.tx Sb.len;have B2:=B1.keep k2 (by simpa using⟨h4,hd⟩);obtain⟨ws,hws,hbd,has⟩:=Sb.bd;rw[hws]at w2;have ZV:=hbd.rd w2 RX nl2 has;have hp:=B.pl p (aa8 hj);have ev:∀{n:Nat}{d:D} (c:Cells),σ[n]? =aa (aa d)->eV n σ c=aa (d,c):=λc h=>by unfold eV;rw[h];rfl
 have at3:eI (ds.map D.ref) (j:Int)=aa (.ref d):=gP (by rw[aa6,Wl];rfl);have at2:eI (ps.map nt) (j:Int)=aa (nt p):=gP (by rw[aa6,hj];rfl);have i3:e2 aK (eV 3) (eV k) σ c=aa (.ref d,c):=by
  rw[f_ (ev c v3) (ev c vk)];dsimp only
  rw[cJ,aB B.m3,Zu,at3];rfl
 have i2:e2 aK (eV 2) (eV k) σ c2=aa (nt p,c2):=by
  rw[f_ (ev c2 v2) (ev c2 vk)];dsimp only
  rw[cJ,aB B2.p2,Zu,at2];rfl
 have val:av cm [] (af (eV 5) (af (av cE [] (af (eV 5) (af (e2 aK (eV 3) (eV k)) aj))) aj)) σ c=aa (.str tx,c2):=by
  have e5:=ev c v5;have sp1:av cE [] (af (eV 5) (af (e2 aK (eV 3) (eV k)) aj)) σ c=aa (.ref s',c1):=by
   unfold av af;rw[e5,Zu,i3,Zu];exact e1
  unfold av af;rw[e5,Zu];have Nv:av cE [] (af (eV 5) (af (e2 aK (eV 3) (eV k)) aj)) σ c=aa (.ref s',c1):=sp1;unfold av af at Nv;dsimp only at Nv |-
  rw[Nv,Zu];exact yX
 refine⟨tx,c2.set 1 (.lst ((xs.set p tx).map D.str)),?_,⟨?_,?_,?_,?_,by rw[abB,abB];exact B.len,Q5 B.len B.rows ZV,B.pd,λq hq=>by rw[abB];exact B.pl q hq,B.inc,λd' sT=>?_⟩,L2.keep (Kq.set (S:=[1]) (by simp)) (by simp;omega)⟩
 .unfold j5
  rw[val,Zu];dsimp only
  unfold pW;rw[ev c2 v1,Zu];dsimp only
  rw[i2,Zu];dsimp only
  rw[bp B2.r1,Zu];show((aa ((p:Nat):Int)).bind _:Option (Qm.Env×Cells)).bind _=_;rw[Zu];have ix:qw (xs.map D.str).length ((p:Nat):Int)=aa p:=by
   unfold qw;rw[if_pos (by omega),if_pos (by rw[aaE];omega),aht]
  dsimp only
  rw[ix,Zu,List.map_set];rfl
 .rw[aal,if_neg (by decide)];exact B2.s0
 .rw[aal,if_pos rfl,if_pos (cU B2.r1)]
 .rw[aal,if_neg (by decide)];exact B2.p2
 .rw[aal,if_neg (by decide)];exact B2.m3
 .obtain⟨d4',Wk,N',g1,G'⟩:=B2.sm d' sT
  exact⟨d4',Wk,N',by rw[aal,if_neg (by omega)];exact g1,G'⟩
theorem Er:∀(xs:List Str),strsOf (xs.map D.str)=aa xs
 |[]=>rfl
 |x::xs=>by
  show(strsOf (xs.map D.str)).map (x::·)=_;rw[Er xs];rfl
theorem Bq.sum(B:Bq ns xs vs ps ds c)(hx:xs.length<=24):(xs.map (·.length)).sum<=72000/\(ab3 "\n" xs).length<=100000:=by
 have h:sl xs<=3000*xs.length:=qR λx hx=>by
  obtain⟨i,hi,rfl⟩:=akT.mp hx;exact(B.rows i xs[i] (vs[i]'(by have:=B.len;omega)) (aav hi) (aav (by have:=B.len;omega))).len
 unfold sl at h;have jl:=StrLaws.join_length_le "\n" xs;have ln:("\n":Str).length=1:=by decide
 rw[ln]at jl;constructor<;>omega
theorem Ny{σ:Qm.Env}(B:Bq ns xs vs ps ds c)(hx:xs.length<=24)(v1:σ[1]? =aa (aa (.ref 1))):tE "\n" (eV 1) σ c=aa (.str (ab3 "\n" xs),c):=by
 have ev:eV 1 σ c=aa (.ref 1,c):=by unfold eV;rw[v1];rfl
 have ln:("\n":Str).length=1:=by decide
 have:=(B.sum hx).1;unfold tE;rw[ev,Zu];dsimp only
 rw[bp B.r1,Zu];dsimp only
 rw[Er,Zu,if_pos (by rw[ln];omega)];rw[show akc "\n" xs=ab3 "\n" xs from StrLaws.glued_eq_join "\n" xs]
theorem Nz{a b:Int}{c:Cells}:gG (.int a) (.int b) c=aa (.bl (!decide (a=b)),c):=by
 have:vH (.int a) (.int b) c=(data c 6 (.int a)).bind λd=>(data c 6 (.int b)).bind λe=>aa (@decide (d=e) (adp _)):=rfl
 unfold gG;rw[this,show data c 6 (.int a)=aa (.int a)from rfl,show data c 6 (.int b)=aa (.int b)from rfl];simp
theorem Wm{a b:Int}{c:Cells}:cO (.int a) (.int b) c=aa (.bl (decide (a=b)),c):=by
 have:vH (.int a) (.int b) c=(data c 6 (.int a)).bind λd=>(data c 6 (.int b)).bind λe=>aa (@decide (d=e) (adp _)):=rfl
 unfold cO;rw[this,show data c 6 (.int a)=aa (.int a)from rfl,show data c 6 (.int b)=aa (.int b)from rfl];simp
theorem JI{κ:Nat->Nat}{σ:Qm.Env}{Es:List Str}{kA:List (Option D)}{c:Cells}{n:Nat}(hlen:Es.length=kA.length)(hr:∀(j:Nat) x v,Es[j]? =aa x->kA[j]? =aa v->Rd x v)(hn:Es≠[])(hx:Es.length<=24)(ht:(ab3 "\n" Es).length<=100000)(hg:∀i:Nat,kA[i]?≠aa (aa .aA))(hk:(kA.filterMap id).length=n)(v7:σ[7]? =aa (aa (.str (ab3 "\n" Es)))):
  ∃c',eB bA (af (kD (bJ κ) (af (eV 7) aj)) aj) σ c=aa (.int (n:Int),c')/\c <+:c':=by
 obtain⟨c',e1,q1,p1⟩:=Gg (κ:=κ) (c:=c) hlen hr hn (by omega) ht hg;refine⟨c',?_,p1⟩;have ev:eV 7 σ c=aa (.str (ab3 "\n" Es),c):=by unfold eV;rw[v7];rfl
 have ec:kD (bJ κ) (af (eV 7) aj) σ c=aa (.ref c.length,c'):=by
  unfold kD af;rw[ev,Zu];show((aa ([D.str (ab3 "\n" Es)],c)).bind _:Option (D×Cells))=_;rw[Zu];dsimp only
  rw[e1];rfl
 rw[HW ec];rw[eo,aB q1,Zu,hk]
end
theorem Et(h:∀d∈vs.filterMap id,dA d=false)(i:Nat):vs[i]?≠aa (aa .aA):=λe=>by
 have:=h .aA (ajq.mpr ⟨aa .aA,aa8 e,rfl⟩);cases this
noncomputable def Sp8(k:Nat):XS:=j5 (av cm [] (af (eV 5) (af (av cE [] (af (eV 5) (af (e2 aK (eV 3) (eV k)) aj))) aj))) (pW (eV 1) (e2 aK (eV 2) (eV k)))
structure Sq(κ:Nat->Nat)(ns:List Int)(ps ds:List Nat)(p:Nat)(xs:List Str)(vs:List (Option D))(c:Cells):Prop where
 B:Bq ns xs vs ps ds c
 n:xs.length<=24
 bad:vs[p]? =aa (aa .aA)
 first:∀i,i<p->vs[i]?≠aa (aa .aA)
theorem JJ(κ:Nat->Nat)(xq:KJ κ)(ns:List Int)(h:ns.length<=63):∃c,qI κ [.ref 0] [.ro (ns.map D.int)]=aa (.bl true,c):=by
 have B0:Bq ns [] [] [] [] [.ro (ns.map D.int),.lst [],.lst [],.lst []]:=⟨rfl,rfl,rfl,rfl,rfl,(λj x v h1=>by simp at h1),rfl,(λp hp=>by cases hp),al1,(λd hd=>by cases hd)⟩;have s0:dq (.ref 0) [.ro (ns.map D.int),.lst [],.lst [],.lst []]=aa (ns.map D.int):=AK rfl;have hln:((ns.map D.int).length:Int)=ns.length:=by simp
 generalize i6:(if (if ((ns.map D.int).length:Int)<14 then((ns.map D.int).length:Int)else 14) > 3 then(if ((ns.map D.int).length:Int)<14 then((ns.map D.int).length:Int)else 14)else 3)=stop;have hs1: 3<=stop/\stop<=14:=by rw[<-i6];split<;>(try split)<;>omega
 have hr:sW (af (eC (.int 2)) (af (eB Bs (af (eC (.int 3)) (af (eB Bt (af (eC (.int 14)) (af (eB bA (af (eV 0) aj)) aj))) aj))) aj)) [aa (.ref 0),aa (.ref 1),aa (.ref 2),aa (.ref 3),ae,ae,ae,ae,ae,ae,ae] [.ro (ns.map D.int),.lst [],.lst [],.lst []]=aa (⟨eU 2 (stop - 2).toNat,[]⟩,[.ro (ns.map D.int),.lst [],.lst [],.lst []]):=PU (by erw[eo,s0,i6]) (by decide) (by omega);have key:=iU (ks:=[]) (g:=aM 4) (body:=HV)
  (λi σ c'=>∃xs vs ps ds q4 q5 q6,σ=[aa (.ref 0),aa (.ref 1),aa (.ref 2),aa (.ref 3),q4,q5,q6,ae,ae,ae,ae]/\Bq ns xs vs ps ds c'/\xs.length<=2*i/\i<=12/\ds.length=i/\(vs.filterMap id).length=i/\∀d∈vs.filterMap id,dA d=false) (eU 2 (stop - 2).toNat) 0 [aa (.ref 0),aa (.ref 1),aa (.ref 2),aa (.ref 3),ae,ae,ae,ae,ae,ae,ae] [.ro (ns.map D.int),.lst [],.lst [],.lst []] (λ_ _ _ _=>fw) (by
   rintro i dd σ c' hd ⟨xs,vs,ps,ds,q4,q5,q6,rfl,hb,hx,HX,tf,JK,Q6⟩;obtain⟨hi,rfl⟩:=rS hd;rw[ahd]at hx HX tf JK |-
   have Zo:i<12:=by omega
   obtain⟨mP,yU,Wc,Q2,c2,r5,r6,e,b2,Zp,⟨r,hv2⟩,hd2⟩:=JH (k:=2+(i:Int)) (q5:=q5) (q6:=q6) (q7:=ae) (q8:=ae) (q9:=ae) (xr:=ae) hb (by omega) (by omega) (by omega);refine⟨[aa (.ref 0),aa (.ref 1),aa (.ref 2),aa (.ref 3),aa (.int (2+(i:Int))),q5,q6,ae,ae,ae,ae],c',_,c2,rfl,e,mP,yU,Wc,Q2,_,_,_,rfl,b2,by omega,by omega,by omega,by rw[hv2,aaf,JK];rfl,λd hd=>?_⟩;rw[hv2]at hd;rcases abc.mp hd with hd|hd
   .exact Q6 d hd
   .rw[aaq.mp hd];rfl) ⟨[],[],[],[],ae,ae,ae,rfl,B0,ab7 _,by decide,rfl,rfl,λd hd=>by cases hd⟩
 obtain⟨σ',c1,e1,xs,vs,ps,ds,q4,q5,q6,rfl,B1,hx,HX,tf,JK,Q6⟩:=key;rw[ahd,qJ]at hx HX tf JK;have hI: 1<=(stop - 2).toNat:=by omega
 generalize (stop - 2).toNat=I at hx HX tf JK hI e1 hr;have f1:=(lE (g:=aM 4) (b:=HV) hr).trans e1;have Eu:xs.length<=24:=by omega
 have FV:ps.length=I:=by rw[B1.pd];exact tf
 have ab9:xs≠[]:=λe=>by
  have:ps≠[]:=λe=>by rw[e]at FV;simp at FV;omega
  obtain⟨p,hp⟩:=List.exists_mem_of_ne_nil ps this;have:=B1.pl p hp;rw[e]at this;simp at this
 have good:∀{σ:Qm.Env} (c:Cells),σ[7]? =aa (aa (.str (ab3 "\n" xs)))->∃c',eB bA (af (kD (bJ κ) (af (eV 7) aj)) aj) σ c=aa (.int (I:Int),c')/\c <+:c':=λ{σ} c h7=>JI B1.len B1.rows ab9 Eu (B1.sum Eu).2 (Et Q6) JK h7
 generalize hX:ab3 "\n" xs=X at good;have ej:tE "\n" (eV 1) [aa (.ref 0),aa (.ref 1),aa (.ref 2),aa (.ref 3),q4,q5,q6,ae,ae,ae,ae] c1=aa (.str X,c1):=by rw[<-hX];exact Ny B1 Eu rfl
 obtain⟨c2,g2,p2⟩:=good (σ:=[aa (.ref 0),aa (.ref 1),aa (.ref 2),aa (.ref 3),q4,q5,q6,aa (.str X),ae,ae,ae]) c1 rfl;have B2:=B1.keep (Kq.pre (S:=[]) p2) (by simp);have NA:∀{σ:Qm.Env}{c:Cells},σ[3]? =aa (aa (.ref 3))->c[3]? =aa (.lst (ds.map D.ref))->eB bA (af (eV 3) aj) σ c=aa (.int (I:Int),c):=λ{σ c} h3 hc=>by
  have ev:eV 3 σ c=aa (.ref 3,c):=by unfold eV;rw[h3];rfl
  rw[HW ev,eo,aB hc,Zu,aaE,tf]
 have t2:cu (tV (e2 gG (eB bA (af (kD (bJ κ) (af (eV 7) aj)) aj)) (eB bA (af (eV 3) aj)))) (bj (eC (.bl false))) bz [aa (.ref 0),aa (.ref 1),aa (.ref 2),aa (.ref 3),q4,q5,q6,aa (.str X),ae,ae,ae] c1=aa (.nx,[aa (.ref 0),aa (.ref 1),aa (.ref 2),aa (.ref 3),q4,q5,q6,aa (.str X),ae,ae,ae],c2):=by
  have l3:=NA (σ:=[aa (.ref 0),aa (.ref 1),aa (.ref 2),aa (.ref 3),q4,q5,q6,aa (.str X),ae,ae,ae]) rfl B2.m3;have tt:tV (e2 gG (eB bA (af (kD (bJ κ) (af (eV 7) aj)) aj)) (eB bA (af (eV 3) aj))) [aa (.ref 0),aa (.ref 1),aa (.ref 2),aa (.ref 3),q4,q5,q6,aa (.str X),ae,ae,ae] c1=aa (false,c2):=by
   unfold tV;rw[f_ g2 l3];dsimp only
   rw[Nz,decide_eq_true rfl];rfl
  rw[oa,tt];rfl
 -- oF row Se is agW
 obtain⟨a,b,e3⟩:=ME B2.s0 (k:=1) (by decide) (by decide);have C0:=B2.lt;have hd2:=B2.dlt;generalize We:c2.length=l at e3;have L3:Lf l 0 (c2++[.lst [.int a,.int b,.int 0]]):=⟨a,b,by rw[<-We];exact aG⟩;have h4: 4<=l:=by omega
 have Cj:l∉ds:=λhm=>by have:=hd2 l hm;omega
 have B3:=B2.keep (Kq.more (S:=[]) (zs:=[Cell.lst [.int a,.int b,.int 0]])) (by simp);obtain⟨at_,c4,e4,at0,qF,L4,k4⟩:=fE L3 (k:=(I:Int)) (by omega) (by omega);have B4:=B3.keep k4 (by simpa using⟨h4,Cj⟩);obtain⟨j,rfl⟩:∃j:Nat,at_=(j:Int):=⟨at_.toNat,by omega⟩;have DJ:j<ps.length:=by omega
 have Q7:ps[j]? =aa ps[j]:=aav DJ;generalize hpj:ps[j]=p at Q7;obtain⟨tx,c5,e5,B5,L5⟩:=wN (k:=8) (σ:=[aa (.ref 0),aa (.ref 1),aa (.ref 2),aa (.ref 3),q4,aa (.ref l),q6,aa (.str X),aa (.int (j:Int)),ae,ae]) B4 L4 h4 Cj rfl rfl rfl rfl rfl Q7;have hpx:=B1.pl p (aa8 Q7);have F5:Sq κ ns ps ds p (xs.set p tx) (vs.set p (aa .aA)) c5:=by
  refine⟨B5,by rw[abB];exact Eu,by rw[ab0 (by have:=B1.len;omega)],λi hi=>?_⟩;rw[abt (by omega)];exact Et Q6 i
 -- ab_ one behind it,aca
 have step:∃q9 mP yU c6,cu (dI (tV (e2 nV (e2 bc (eV 8) (eC (.int 1))) (eB bA (af (eV 3) aj)))) (tV (e2 cO (av au [] (af (eV 5) (af (eC (.int 2)) aj))) (eC (.int 0)))))
   (ax (aE 9 (e2 bc (e2 bc (eV 8) (eC (.int 1))) (av au [] (af (eV 5) (af (e2 iC (e2 iC (eB bA (af (eV 3) aj)) (eV 8)) (eC (.int 1))) aj)))))
   (Sp8 9)) bz [aa (.ref 0),aa (.ref 1),aa (.ref 2),aa (.ref 3),q4,aa (.ref l),q6,aa (.str X),aa (.int (j:Int)),ae,ae] c5=aa (.nx,[aa (.ref 0),aa (.ref 1),aa (.ref 2),aa (.ref 3),q4,aa (.ref l),q6,aa (.str X),aa (.int (j:Int)),q9,ae],c6)/\Sq κ ns ps ds p mP yU c6:=by
  have l3:=NA (σ:=[aa (.ref 0),aa (.ref 1),aa (.ref 2),aa (.ref 3),q4,aa (.ref l),q6,aa (.str X),aa (.int (j:Int)),ae,ae]) (c:=c5) rfl B5.m3;have Wn:bA [.ref 3] c5=aa (.int (I:Int),c5):=by rw[eo,aB B5.m3,Zu,aaE,tf]
  by_cases Wo:(j:Int)+1<(I:Int)
  .obtain⟨g,c6,e6,g0,g1,L6,k6⟩:=fE L5 (k:=2) (by decide) (by decide)
   have B6:=B5.keep k6 (by simpa using⟨h4,Cj⟩)
   by_cases hg:g=0
   .subst hg
    have l6:bA [.ref 3] c6=aa (.int (I:Int),c6):=by rw[eo,aB B6.m3,Zu,aaE,tf]
    obtain⟨t,c7,e7,t0,t1,L7,k7⟩:=fE L6 (k:=(I:Int) - (j:Int) - 1) (by omega) (by omega);have B7:=B6.keep k7 (by simpa using⟨h4,Cj⟩);obtain⟨j2,hj2⟩:∃j2:Nat,(j:Int)+1+t=(j2:Int):=⟨((j:Int)+1+t).toNat,by omega⟩;have Sr:j2<ps.length:=by omega
    have Ss:ps[j2]? =aa ps[j2]:=aav Sr;have fW:p<ps[j2]:=by
     have:=ah6.mp B1.inc j j2 DJ Sr (by omega);rw[hpj]at this;exact this
    generalize ps[j2]=p2' at Ss fW;obtain⟨tx2,c8,e8,B8,L8⟩:=wN (k:=9) (σ:=[aa (.ref 0),aa (.ref 1),aa (.ref 2),aa (.ref 3),q4,aa (.ref l),q6,aa (.str X),aa (.int (j:Int)),aa (.int (j2:Int)),ae]) B7 L7 h4 Cj rfl rfl rfl rfl rfl Ss;refine⟨aa (.int (j2:Int)),_,_,c8,?_,B8,by rw[abB,abB];exact Eu,?_,λi hi=>?_⟩
    .have tt:dI (tV (e2 nV (e2 bc (eV 8) (eC (.int 1))) (eB bA (af (eV 3) aj)))) (tV (e2 cO (av au [] (af (eV 5) (af (eC (.int 2)) aj))) (eC (.int 0)))) [aa (.ref 0),aa (.ref 1),aa (.ref 2),aa (.ref 3),q4,aa (.ref l),q6,aa (.str X),aa (.int (j:Int)),ae,ae] c5=aa (true,c6):=by erw[Wn,Wo,e6]
     rw[oa,tt,Zu];dsimp only
     rw[if_pos rfl];refine aw (σ1:=[aa (.ref 0),aa (.ref 1),aa (.ref 2),aa (.ref 3),q4,aa (.ref l),q6,aa (.str X),aa (.int (j:Int)),aa (.int (j2:Int)),ae]) (c1:=c7) (by erw[l6,e7,hj2]) ?_;exact e8
    .rw[abt (by omega)];exact F5.bad
    .rw[abt (by omega)];exact F5.first i hi
   .refine⟨ae,_,_,c6,?_,B6,F5.n,F5.bad,F5.first⟩
    erw[Wn,Wo,e6,hg]
  .refine⟨ae,_,_,c5,?_,F5⟩
   erw[Wn,Wo]
 obtain⟨q9,mP,yU,c6,e6,F6⟩:=step;have B6:=F6.B;have ej2:tE "\n" (eV 1) [aa (.ref 0),aa (.ref 1),aa (.ref 2),aa (.ref 3),q4,aa (.ref l),q6,aa (.str X),aa (.int (j:Int)),q9,ae] c6=aa (.str (ab3 "\n" mP),c6):=Ny B6 F6.n rfl;have row:∀c:Cells,∃c',du κ [.str (ab3 "\n" mP)] c=aa (.int ((p:Int)+1),c')/\c <+:c':=λc=>by
  obtain⟨n,c',e,q,pp⟩:=JA (κ:=κ) (c:=c) p B6.len B6.rows (by have:=F6.n;omega) (B6.sum F6.n).2 F6.bad F6.first;exact QZ xq e q pp
 generalize ab3 "\n" mP=Y at ej2 row;obtain⟨c7,e7,p7⟩:=row c6;obtain⟨c8,e8,p8⟩:=row c7;have at2:eI (ps.map nt) (j:Int)=aa (.int (p:Int)):=gP (by rw[aa6,Q7];rfl);have i7:aK (.ref 2) (.int (j:Int)) c7=aa (.int (p:Int),c7):=by rw[cJ,aB (a_ p7 B6.p2),Zu,at2];rfl
 have i8:aK (.ref 2) (.int (j:Int)) c8=aa (.int (p:Int),c8):=by rw[cJ,aB (a_ (p7.trans p8) B6.p2),Zu,at2];rfl
 obtain⟨c9,g9,p9⟩:=good (σ:=[aa (.ref 0),aa (.ref 1),aa (.ref 2),aa (.ref 3),q4,aa (.ref l),q6,aa (.str X),aa (.int (j:Int)),q9,aa (.str Y)]) c8 rfl;have l9:=NA (σ:=[aa (.ref 0),aa (.ref 1),aa (.ref 2),aa (.ref 3),q4,aa (.ref l),q6,aa (.str X),aa (.int (j:Int)),q9,aa (.str Y)]) (c:=c9) rfl (a_ (p7.trans (p8.trans p9)) B6.m3);refine⟨c9,?_⟩;have l4:bA [.ref 3] (c2++[.lst [.int a,.int b,.int 0]])=aa (.int (I:Int),c2++[.lst [.int a,.int b,.int 0]]):=by rw[eo,aB B3.m3,Zu,aaE,tf]
 have run:yW κ [aa (.ref 0),ae,ae,ae,ae,ae,ae,ae,ae,ae,ae] [.ro (ns.map D.int)]=aa (.rt (.bl true),[aa (.ref 0),aa (.ref 1),aa (.ref 2),aa (.ref 3),q4,aa (.ref l),q6,aa (.str X),aa (.int (j:Int)),q9,aa (.str Y)],c9):=by
  unfold yW;refine aw (σ1:=[aa (.ref 0),aa (.ref 1),ae,ae,ae,ae,ae,ae,ae,ae,ae]) (c1:=[.ro (ns.map D.int),.lst []]) (by erw[iz]) ?_;refine aw (σ1:=[aa (.ref 0),aa (.ref 1),aa (.ref 2),ae,ae,ae,ae,ae,ae,ae,ae]) (c1:=[.ro (ns.map D.int),.lst [],.lst []]) (by erw[iz]) ?_;refine aw (σ1:=[aa (.ref 0),aa (.ref 1),aa (.ref 2),aa (.ref 3),ae,ae,ae,ae,ae,ae,ae]) (c1:=[.ro (ns.map D.int),.lst [],.lst [],.lst []]) (by erw[iz]) ?_;refine aw f1 ?_;refine aw (σ1:=[aa (.ref 0),aa (.ref 1),aa (.ref 2),aa (.ref 3),q4,q5,q6,aa (.str X),ae,ae,ae]) (c1:=c1) (by rw[jI,ej];rfl) ?_;refine aw t2 ?_;refine aw (σ1:=[aa (.ref 0),aa (.ref 1),aa (.ref 2),aa (.ref 3),q4,aa (.ref l),q6,aa (.str X),ae,ae,ae]) (c1:=c2++[.lst [.int a,.int b,.int 0]]) (by erw[e3]) ?_;refine aw (σ1:=[aa (.ref 0),aa (.ref 1),aa (.ref 2),aa (.ref 3),q4,aa (.ref l),q6,aa (.str X),aa (.int (j:Int)),ae,ae]) (c1:=c4) (by erw[l4,e4]) ?_;refine aw e5 ?_;refine aw e6 ?_;refine aw (σ1:=[aa (.ref 0),aa (.ref 1),aa (.ref 2),aa (.ref 3),q4,aa (.ref l),q6,aa (.str X),aa (.int (j:Int)),q9,aa (.str Y)]) (c1:=c6) (by rw[jI,ej2];rfl) ?_;refine aw (σ1:=[aa (.ref 0),aa (.ref 1),aa (.ref 2),aa (.ref 3),q4,aa (.ref l),q6,aa (.str X),aa (.int (j:Int)),q9,aa (.str Y)]) (c1:=c8) (by
   erw[e7,i7,e8,i8,Nz]) ?_
  rw[oQ,f_ g9 l9];dsimp only
  rw[Wm,decide_eq_true rfl];rfl
 erw[qI,run]
theorem JL(κ:Nat->Nat)(xq:L2.Dr κ)(ns:List Int)(h:ns.length<=63):∃c,qI κ [.ref 0] [.ro (ns.map D.int)]=aa (.bl true,c):=JJ κ xq ns h
end qf
set_option maxHeartbeats 4000000
namespace qf
open PySem L2
def top(i:Nat):Stmt:=PySem.Challenge.pw_sheetlay_k46_books_refused.main.body.getD i (.Pass ⟨0,0,0,0⟩)
set_option genInjectivity false in
structure Adr where
 pe:Tok
 pf:Tok
 gD:Addr
 c:Nat->Addr
 Su:Addr
 Sv:abd
 Sw:Addr
 Sy:abd
 Sz:Addr
 SA:abd
 SD:Addr
 SE:abd
 NB:Addr
 NC:abd
 ND:Addr
 NF:abd
 tW:Addr
 tX:abd
 wg:Addr
 sj:abd
 JM:Tok
 tY:Addr
 tZ:abd
 lL:Addr
 lM:abd
 m4:Addr
 m9:abd
 t4:Addr
 t5:abd
 lN:Addr
 lO:abd
 qV:Addr
 qW:abd
 ph:Addr
 pj:abd
 kj:Addr
 kl:abd
 km:Addr
 kn:abd
 iW:Addr
 iX:abd
 m_:Addr
 ng:abd
 pk:Addr
 pA:abd
 ni:Addr
 nj:abd
 ju:Addr
 jv:abd
 pB:Addr
 pC:abd
 pE:Addr
 pF:abd
 lQ:Addr
 lR:abd
 qX:Addr
 qY:abd
 qZ:Addr
 q_:abd
 rf:Addr
 rg:abd
 pG:Addr
 pH:abd
 kH:Addr
 kI:abd
 nq:Addr
 nr:abd
 pI:Addr
 pJ:abd
 jw:Addr
 jx:abd
 nv:Addr
 ny:abd
 rh:Addr
 rj:abd
 t6:Addr
 t7:abd
 nz:Addr
 nA:abd
 nB:Addr
 nC:abd
 Gu:Addr
 zu:abd
structure Txt(K:aaa)(mg:Str->Option Value)(t:Adr):Prop where
 lS:mg "LETTERS" =aa (.str "abcdefghijklmnopqrstuvwxyz" t.pe)
 jN:mg "FIGURES" =aa (.str "0123456789" t.pf)
 iK:mg "KEPT_WORDS" =aa (.ref t.gD)
 z6:DA K t.gD ["and","or","not","any"]
 ace:am5 K (.ref (t.c 0)) (.type "BaseException")=aa true
 acf:mg "SheetError" =aa (.ref (t.c 0))
 acg:ku K (t.c 0)
 ach:mg "BadFace" =aa (.ref (t.c 1))
 aci:ku K (t.c 1)
 x_1:gL K (t.c 1) (t.c 0) (aa t.Su) ["face"]=true
 alx:eG K "__init__" "BadFace.__init__" (iT (top 2)) t.Su t.Sv
 aly:Binds K t.Sv ["self","face"] []
 acj:mg "Twice" =aa (.ref (t.c 2))
 ack:ku K (t.c 2)
 x_2:gL K (t.c 2) (t.c 0) (aa t.Sw) ["one","other"]=true
 alz:eG K "__init__" "Twice.__init__" (iT (top 3)) t.Sw t.Sy
 alA:Binds K t.Sy ["self","one","other"] []
 acm:mg "NoLand" =aa (.ref (t.c 3))
 acn:ku K (t.c 3)
 x_3:gL K (t.c 3) (t.c 0) ae []=true
 aco:mg "NoText" =aa (.ref (t.c 4))
 acp:ku K (t.c 4)
 x_4:gL K (t.c 4) (t.c 0) (aa t.Sz) ["line"]=true
 alB:eG K "__init__" "NoText.__init__" (iT (top 5)) t.Sz t.SA
 alC:Binds K t.SA ["self","line"] []
 acq:mg "NoPile" =aa (.ref (t.c 5))
 acr:ku K (t.c 5)
 x_5:gL K (t.c 5) (t.c 0) (aa t.SD) ["one","other"]=true
 alD:eG K "__init__" "NoPile.__init__" (iT (top 6)) t.SD t.SE
 alE:Binds K t.SE ["self","one","other"] []
 SG:mg "NoRule" =aa (.ref (t.c 6))
 acs:ku K (t.c 6)
 x_6:gL K (t.c 6) (t.c 0) (aa t.NB) ["row"]=true
 acv:eG K "__init__" "NoRule.__init__" (iT (top 7)) t.NB t.NC
 acw:Binds K t.NC ["self","row"] []
 acx:mg "NoPath" =aa (.ref (t.c 7))
 acy:ku K (t.c 7)
 x_7:gL K (t.c 7) (t.c 0) ae []=true
 acz:mg "NoJoin" =aa (.ref (t.c 8))
 acA:ku K (t.c 8)
 x_8:gL K (t.c 8) (t.c 0) ae []=true
 acB:mg "NoRow" =aa (.ref (t.c 9))
 acC:ku K (t.c 9)
 x_9:gL K (t.c 9) (t.c 0) ae []=true
 Wq:mg "NoName" =aa (.ref (t.c 10))
 Wr:ku K (t.c 10)
 alF:gL K (t.c 10) (t.c 0) (aa t.ND) ["name"]=true
 ajI:eG K "__init__" "NoName.__init__" (iT (top 11)) t.ND t.NF
 ajJ:Binds K t.NF ["self","name"] []
 iV:eG K "divisor" "divisor" (top 13) t.tW t.tX
 Gv:mg "divisor" =aa (.ref t.tW)
 Gw:Binds K t.tX ["n","m"] []
 hV:Aq K "number" "number" (top 14) t.wg t.sj
 JN:mg "number" =aa (.ref t.wg)
 JO:Binds K t.sj ["n","d"] []
 Wt:Binds K t.sj ["n","d"] [ah4 1 t.JM]
 fy:eG K "figures" "figures" (top 15) t.tY t.tZ
 zv:mg "figures" =aa (.ref t.tY)
 zw:Binds K t.tZ ["n"] []
 dC:eG K "number_text" "number_text" (top 16) t.lL t.lM
 zx:mg "number_text" =aa (.ref t.lL)
 zy:Binds K t.lM ["a"] []
 bM:eG K "is_made_of" "is_made_of" (top 20) t.m4 t.m9
 nD:mg "is_made_of" =aa (.ref t.m4)
 nE:Binds K t.m9 ["signs","text","most"] []
 fX:eG K "is_word" "is_word" (top 21) t.t4 t.t5
 Gx:mg "is_word" =aa (.ref t.t4)
 Gy:Binds K t.t5 ["text"] []
 cB:eG K "read_number" "read_number" (top 22) t.lN t.lO
 zz:mg "read_number" =aa (.ref t.lN)
 zA:Binds K t.lO ["text"] []
 dM:eG K "words_of" "words_of" (top 25) t.qV t.qW
 wO:mg "words_of" =aa (.ref t.qV)
 wQ:Binds K t.qW ["row"] []
 bL:eG K "parted_by" "parted_by" (top 26) t.ph t.pj
 vc:mg "parted_by" =aa (.ref t.ph)
 vd:Binds K t.pj ["word","some"] []
 bt:eG K "put_together" "put_together" (top 27) t.kj t.kl
 pY:mg "put_together" =aa (.ref t.kj)
 pZ:Binds K t.kl ["kind","some"] []
 bQ:eG K "is_free_word" "is_free_word" (top 28) t.km t.kn
 p_:mg "is_free_word" =aa (.ref t.km)
 qa:Binds K t.kn ["thing"] []
 aU:eG K "read_bare_thing" "read_bare_thing" (top 29) t.iW t.iX
 t8:mg "read_bare_thing" =aa (.ref t.iW)
 t9:Binds K t.iX ["some"] []
 cK:eG K "read_thing" "read_thing" (top 30) t.m_ t.ng
 z7:mg "read_thing" =aa (.ref t.m_)
 z8:Binds K t.ng ["some"] []
 dE:eG K "read_part" "read_part" (top 31) t.pk t.pA
 Ck:mg "read_part" =aa (.ref t.pk)
 Cm:Binds K t.pA ["some"] []
 cL:eG K "read_parts" "read_parts" (top 32) t.ni t.nj
 sH:mg "read_parts" =aa (.ref t.ni)
 sJ:Binds K t.nj ["some"] []
 b_:eG K "read_condition" "read_condition" (top 33) t.ju t.jv
 ve:mg "read_condition" =aa (.ref t.ju)
 vf:Binds K t.jv ["words"] []
 cy:eG K "read_rule" "read_rule" (top 34) t.pB t.pC
 Co:mg "read_rule" =aa (.ref t.pB)
 Cp:Binds K t.pC ["row"] []
 bJ:eG K "read_book" "read_book" (top 35) t.pE t.pF
 pK:mg "read_book" =aa (.ref t.pE)
 pL:Binds K t.pF ["text"] []
 c_:eG K "_law_cell_at" "_law_cell_at" (top 37) t.lQ t.lR
 rm:mg "_law_cell_at" =aa (.ref t.lQ)
 rp:Binds K t.lR ["_law_script","_law_k"] []
 au:eG K "_law_take" "_law_take" (top 38) t.qX t.qY
 bN:mg "_law_take" =aa (.ref t.qX)
 bO:Binds K t.qY ["_law_left_here","_law_many"] []
 eE:eG K "_law_left" "_law_left" (top 39) t.qZ t.q_
 wR:mg "_law_left" =aa (.ref t.qZ)
 wU:Binds K t.q_ ["_law_script","_law_k"] []
 di:eG K "_law_word" "_law_word" (top 40) t.rf t.rg
 wV:mg "_law_word" =aa (.ref t.rf)
 wW:Binds K t.rg ["_law_left_here"] []
 kG:eG K "_law_thing" "_law_thing" (top 41) t.pG t.pH
 vg:mg "_law_thing" =aa (.ref t.pG)
 vh:Binds K t.pH ["_law_left_here","_law_words","_law_room"] []
 dG:eG K "_law_built" "_law_built" (top 42) t.kH t.kI
 kJ:mg "_law_built" =aa (.ref t.kH)
 kK:Binds K t.kI ["_law_left_here","_law_words","_law_room","_law_word_here"] []
 fC:eG K "_law_lowest" "_law_lowest" (top 43) t.nq t.nr
 z9:mg "_law_lowest" =aa (.ref t.nq)
 z_:Binds K t.nr ["_law_above","_law_below"] []
 fq:eG K "_law_worth" "_law_worth" (top 44) t.pI t.pJ
 Cq:mg "_law_worth" =aa (.ref t.pI)
 Cr:Binds K t.pJ ["_law_left_here"] []
 cQ:eG K "_law_worth_text" "_law_worth_text" (top 45) t.jw t.jx
 vj:mg "_law_worth_text" =aa (.ref t.jw)
 vm:Binds K t.jx ["_law_pair"] []
 cm:eG K "_law_spaced" "_law_spaced" (top 46) t.nv t.ny
 nF:mg "_law_spaced" =aa (.ref t.nv)
 nG:Binds K t.ny ["_law_left_here","_law_some"] []
 gR:eG K "_law_sort" "_law_sort" (top 47) t.rh t.rj
 Ew:mg "_law_sort" =aa (.ref t.rh)
 Ey:Binds K t.rj ["_law_e"] []
 dH:eG K "_law_put" "_law_put" (top 48) t.t6 t.t7
 t_:mg "_law_put" =aa (.ref t.t6)
 ua:Binds K t.t7 ["_law_some","_law_at","_law_piece"] []
 cE:eG K "_law_spoilt" "_law_spoilt" (top 49) t.nz t.nA
 sL:mg "_law_spoilt" =aa (.ref t.nz)
 sM:Binds K t.nA ["_law_left_here","_law_some"] []
 du:eG K "_law_row_of" "_law_row_of" (top 50) t.nB t.nC
 sN:mg "_law_row_of" =aa (.ref t.nB)
 sO:Binds K t.nC ["_law_text"] []
 qI:eG K "law" "law" (top 51) t.Gu t.zu
 Wu:mg "law" =aa (.ref t.Gu)
 ajK:Binds K t.zu ["_law_script"] []
 iL:mg "ValueError" =ae
 rq:mg "abs" =ae
 zB:mg "all" =ae
 zC:mg "any" =ae
 vn:mg "bool" =ae
 jy:mg "enumerate" =ae
 ko:mg "int" =ae
 bD:mg "isinstance" =ae
 dN:mg "len" =ae
 vo:mg "list" =ae
 zD:mg "max" =ae
 zE:mg "min" =ae
 gZ:mg "range" =ae
 kd:mg "reversed" =ae
 pM:mg "str" =ae
 rz:mg "tuple" =ae
section
open L2.Zu
variable{P:Program}{w:abZ}{K:aaa}{mg:Str->Option Value}{base:Heap}{t:Adr}
theorem Gz:bg ["self","row"] ["self","row"] (ar (iT (top 7))):=⟨rfl,rfl,rfl,by decide +kernel,rfl,by decide +kernel,by decide +kernel⟩
theorem GA(T:Txt K mg t):bX P w K mg base d8 1 t.NB t.NC ["self","row"] (IV (t.c 6) ["row"]):=by
 obtain⟨cd,xc⟩:=LZ T.x_6;exact UM T.acv Gz rfl xc ⟨by decide,by decide⟩ ⟨by decide,by decide⟩
theorem mM:bg ["n","m","rest"] ["n","m"] (ar (top 13)):=⟨rfl,rfl,rfl,by decide +kernel,rfl,by decide +kernel,by decide +kernel⟩
theorem Ez(T:Txt K mg t):bX P w K mg base d8 1 t.tW t.tX ["n","m"] (fK K iV):=by
 refine T.iV.ir (n:=2) (m:=3) (B:=oS) mM rfl rfl (by decide) rfl λbS A outer s H E hr=>?_
 unfold oS;exact(ao (rL adq (aO (iP hr.units) kg (ah 1 (pv 1)) aq (aR _)) (ao (aH (i:=2) mM.nd rfl (abf rfl) (aD cV dy (ah 0 (pv 0)) (ah 1 (pv 1))))
   (ao (aH (i:=0) mM.nd rfl (abf rfl) (ah 1 (pv 1)))
   (ay (aH (i:=1) mM.nd rfl (abf rfl) (ah 2 (pv 2)))))))
   (ay (aT (aQ rG xC (by rfl) T.rq xA (ag (ah 0 (pv 0)) ak)))))
theorem ub:bg ["n","d","shared"] ["n","d"] (ar (top 14)):=⟨rfl,rfl,rfl,by decide +kernel,rfl,by decide +kernel,by decide +kernel⟩
theorem GB(T:Txt K mg t):bX P w K mg base d8 2 t.wg t.sj ["n","d"] (fK K hV):=by
 refine T.hV.ir (n:=2) (m:=3) (B:=oe) ub rfl rfl (by decide) rfl λbS A outer s H E hr=>?_
 unfold oe;exact(ao (aH (i:=2) ub.nd rfl (abf rfl) (aC [] (Ez T) (hr.mono (by decide)) (by rfl) T.Gv T.iV.kp T.Gw .nil (λ_ _ _=>.nil) (ag (ah 0 (pv 0)) (ag (ah 1 (pv 1)) ak))))
   (ao (ck (aO oG oM (ah 1 (pv 1)) aq (aR _)) (ay (aH (i:=2) ub.nd rfl (abf rfl) (gF (ah 2 (pv 2))))) bo)
   (ay (aT (d_ (ag (aD eS gu (ah 0 (pv 0)) (ah 2 (pv 2))) (ag (aD eS gu (ah 1 (pv 1)) (ah 2 (pv 2))) ak)))))))
theorem mO:bg ["n","run","parts"] ["n"] (ar (top 15)):=⟨rfl,rfl,rfl,by decide +kernel,rfl,by decide +kernel,by decide +kernel⟩
theorem wX(T:Txt K mg t):bX P w K mg base d8 1 t.tY t.tZ ["n"] (fK K fy):=by
 refine T.fy.ir (n:=1) (m:=3) (B:=lA) mO rfl rfl (by decide) rfl λbS A outer s H E hr=>?_
 unfold lA;exact(ao (aH (i:=1) mO.nd rfl (abf rfl) (aD Bf By aq aq))
   (ao (aH (i:=2) mO.nd rfl (abf rfl) (aX ak))
   (ao (rL adq (aO TU Ur (ah 0 (pv 0)) (ah 1 (pv 1)) (aR _)) (ao (fL (nX abq abr dw dQ (ah 2 (pv 2)) (ag LW ak)))
   (ay (aH (i:=0) mO.nd rfl (abf rfl) (aD eS gu (ah 0 (pv 0)) (ah 1 (pv 1)))))))
   (ao (fL (nX abq abr dw dQ (ah 2 (pv 2)) (ag (d6 jO uQ (by rfl) T.pM uw (ag (ah 0 (pv 0)) ak)) ak)))
   (ay (aT (Dz rfl (by rfl) T.kd (ah 2 (pv 2)))))))))
theorem iQ:bg ["a","text"] ["a"] (ar (top 16)):=⟨rfl,rfl,rfl,by decide +kernel,rfl,by decide +kernel,by decide +kernel⟩
theorem xt(T:Txt K mg t):bX P w K mg base d8 2 t.lL t.lM ["a"] (fK K dC):=by
 refine T.dC.ir (n:=1) (m:=2) (B:=eL) iQ rfl rfl (by decide) rfl λbS A outer s H E hr=>?_
 unfold eL;exact(ao (aH (i:=1) iQ.nd rfl (abf rfl) (aC [] (wX T) (hr.mono (by decide)) (by rfl) T.zv T.fy.kp T.zw .nil (λ_ _ _=>.nil) (ag (aQ rG xC (by rfl) T.rq xA (ag (aF (ah 0 (pv 0)) aq (λ_ _=>rfl)) ak)) ak)))
   (ao (ck (aO oG oM (aF (ah 0 (pv 0)) aq (λ_ _=>rfl)) aq (aR _)) (ay (aH (i:=1) iQ.nd rfl (abf rfl) (aD eu iE aI (ah 1 (pv 1))))) bo)
   (ao (ck (aO (iP hr.units) kg (aF (ah 0 (pv 0)) aq (λ_ _=>rfl)) aq (aR _)) (ay (aH (i:=1) iQ.nd rfl (abf rfl) (aD eu iE (aD eu iE (ah 1 (pv 1)) aI) (aC [] (wX T) (hr.mono (by decide)) (by rfl) T.zv T.fy.kp T.zw .nil (λ_ _ _=>.nil) (ag (aF (ah 0 (pv 0)) aq (λ_ _=>rfl)) ak))))) bo)
   (ay (aT (ah 1 (pv 1)))))))
theorem zF:bg ["signs","text","most"] ["signs","text","most"] (ar (top 20)):=⟨rfl,rfl,rfl,by decide +kernel,rfl,by decide +kernel,by decide +kernel⟩
theorem lT(T:Txt K mg t):bX P w K mg base d8 1 t.m4 t.m9 ["signs","text","most"] (fK K bM):=by
 refine T.bM.ir (n:=3) (m:=3) (B:=fA) zF rfl rfl (by decide) rfl λbS A outer s H E hr=>?_
 unfold fA;exact(ay (aT (uJ (II Kt Lw Kt Lw aq (aQ zU Me (by rfl) T.dN dm (ag (ah 1 (pv 1)) ak)) (ah 2 (pv 2))) (Bz (aQ (Fu rfl) O6 (by rfl) T.zB O8 (ag (uM (N':=["sign","signs"]) (cap:=[ae,aa 0]) (rJ (sc:=ar (top 20)) (NN:=["signs","text","most"]) rfl rfl rfl (by decide +kernel) (by decide +kernel) (by decide +kernel) (by decide +kernel)) rfl (I_ (ah 1 (pv 1))) (λ_ _ _ _=>(cP (i:=0) (show aj0 (["sign","signs"]:List Str)by decide +kernel) rfl (abf rfl))) (λ_ _ _ _=>tD) (λ_ _ _ _=>(uG xW Ht (ah 0 (pv 0)) (ah 1 (pv 1)) (by with_unfolding_all rfl)))) ak))))))
theorem EA:bg ["text"] ["text"] (ar (top 21)):=⟨rfl,rfl,rfl,by decide +kernel,rfl,by decide +kernel,by decide +kernel⟩
theorem EB(T:Txt K mg t):bX P w K mg base d8 2 t.t4 t.t5 ["text"] (fK K fX):=by
 refine T.fX.ir (n:=1) (m:=1) (B:=lC) EA rfl rfl (by decide) rfl λbS A outer s H E hr=>?_
 unfold lC;exact(ay (aT (aC [] (lT T) (hr.mono (by decide)) (by rfl) T.nD T.bM.kp T.nE .nil (λ_ _ _=>.nil) (ag (nW (.str "abcdefghijklmnopqrstuvwxyz") (qh (v:=.str "abcdefghijklmnopqrstuvwxyz") (by rfl) T.lS ⟨_,rfl⟩) λ_ _ _=>.str "abcdefghijklmnopqrstuvwxyz") (ag (ah 0 (pv 0)) (ag aq ak))))))
theorem gz:bg ["text","parts","above","below","told"] ["text"] (ar (top 22)):=⟨rfl,rfl,rfl,by decide +kernel,rfl,by decide +kernel,by decide +kernel⟩
theorem xu(T:Txt K mg t):bX P w K mg base d8 3 t.lN t.lO ["text"] (fK K cB):=by
 refine T.cB.ir (n:=1) (m:=5) (B:=dD) gz rfl rfl (by decide) rfl λbS A outer s H E hr=>?_
 unfold dD;exact(ao (aH (i:=1) gz.nd rfl (abf rfl) (yM PySem.F.slot_str_partition PySem.F.type_str_partition IX IY (ah 0 (pv 0)) (ag aI ak)))
   (ao (aH (i:=2) gz.nd rfl (abf rfl) (jG (jP (yM aji ajj yN yO (ah 0 (pv 0)) (ag aI ak))) (Mj (aF (ah 1 (pv 1)) aq (λ_ _=>rfl))) (aF (ah 1 (pv 1)) aq (λ_ _=>rfl))))
   (ao (aH (i:=3) gz.nd rfl (abf rfl) (jG (BG (aF (ah 1 (pv 1)) aq (λ_ _=>rfl))) (aF (ah 1 (pv 1)) aq (λ_ _=>rfl)) aI))
   (ao (ck (PW.pt (mT (uK (jP (aC [] (lT T) (hr.mono (by decide)) (by rfl) T.nD T.bM.kp T.nE .nil (λ_ _ _=>.nil) (ag (nW (.str "0123456789") (qh (v:=.str "0123456789") (by rfl) T.jN ⟨_,rfl⟩) λ_ _ _=>.str "0123456789") (ag (ah 2 (pv 2)) (ag aq ak)))))) (mT (uK (jP (aC [] (lT T) (hr.mono (by decide)) (by rfl) T.nD T.bM.kp T.nE .nil (λ_ _ _=>.nil) (ag (nW (.str "0123456789") (qh (v:=.str "0123456789") (by rfl) T.jN ⟨_,rfl⟩) λ_ _ _=>.str "0123456789") (ag (ah 3 (pv 3)) (ag aq ak)))))) (mm (aO (bZ hr.units) cZ (d6 oP uP (by rfl) T.ko mi (ag (ah 3 (pv 3)) ak)) aq (aR _)))))) (ay (aT eZ)) bo)
   (ao (aH (i:=4) gz.nd rfl (abf rfl) (aC [] (GB T) (hr.mono (by decide)) (by rfl) T.JN T.hV.kp T.JO .nil (λ_ _ _=>.nil) (ag (jG (jP (yM aji ajj yN yO (ah 0 (pv 0)) (ag aI ak))) (gF (d6 oP uP (by rfl) T.ko mi (ag (ah 2 (pv 2)) ak))) (d6 oP uP (by rfl) T.ko mi (ag (ah 2 (pv 2)) ak))) (ag (d6 oP uP (by rfl) T.ko mi (ag (ah 3 (pv 3)) ak)) ak))))
   (ay (aT (jG (aO (bZ hr.units) cZ (aC [] (xt T) (hr.mono (by decide)) (by rfl) T.zx T.dC.kp T.zy .nil (λ_ _ _=>.nil) (ag (ah 4 (pv 4)) ak)) (ah 0 (pv 0)) (aR _)) (ah 4 (pv 4)) eZ))))))))
theorem vp:bg ["row","sign"] ["row"] (ar (top 25)):=⟨rfl,rfl,rfl,by decide +kernel,rfl,by decide +kernel,by decide +kernel⟩
theorem vq(T:Txt K mg t):bX P w K mg base d8 1 t.qV t.qW ["row"] (fK K dM):=by
 refine T.dM.ir (n:=1) (m:=2) (B:=mC) vp rfl rfl (by decide) rfl λbS A outer s H E hr=>?_
 unfold mC;exact(ao (FE (FC (i:=0) (j:=1) adq rfl vp.nd rfl rfl (by decide) rfl rfl (by decide +kernel)))
   (ay (aT (uM (N':=["word"]) (cap:=[ae]) (rJ (sc:=ar (top 25)) (NN:=["row","sign"]) rfl rfl rfl (by decide +kernel) (by decide +kernel) (by decide +kernel) (by decide +kernel)) rfl (nY (yM akr aks AB AD (ah 0 (pv 0)) (ag aI ak))) (λ_ _ _ _=>(cP (i:=0) (show aj0 (["word"]:List Str)by decide +kernel) rfl (abf rfl))) (λ_ _ _ _=>(vK (BG (ah 0 (pv 0))))) (λ_ _ _ _=>(ah 0 (pv 0)))))))
theorem nH:bg ["word","some","parts","thing"] ["word","some"] (ar (top 26)):=⟨rfl,rfl,rfl,by decide +kernel,rfl,by decide +kernel,by decide +kernel⟩
theorem sQ(T:Txt K mg t):bX P w K mg base d8 1 t.ph t.pj ["word","some"] (fK K bL):=by
 refine T.bL.ir (n:=2) (m:=4) (B:=kE) nH rfl rfl (by decide) rfl λbS A outer s H E hr=>?_
 unfold kE;exact(ao (aH (i:=2) nH.nd rfl (abf rfl) (aX (ag (aX ak) ak)))
   (ao (mq adq rfl (nY (ah 1 (pv 1))) (cP (i:=3) nH.nd rfl (abf rfl)) (ay (ck (aO (bZ hr.units) BE (ah 3 (pv 3)) (ah 0 (pv 0)) (aR _)) (ay (fL (nX abq abr dw dQ (ah 2 (pv 2)) (ag (aX ak) ak)))) (ay (fL (nX abq abr dw dQ (aF (ah 2 (pv 2)) (gF aq) (λ_ _=>rfl)) (ag (ah 3 (pv 3)) ak)))))))
   (ay (aT (ah 2 (pv 2))))))
theorem ig:bg ["kind","some","whole","thing"] ["kind","some"] (ar (top 27)):=⟨rfl,rfl,rfl,by decide +kernel,rfl,by decide +kernel,by decide +kernel⟩
theorem ou(T:Txt K mg t):bX P w K mg base d8 1 t.kj t.kl ["kind","some"] (fK K bt):=by
 refine T.bt.ir (n:=2) (m:=4) (B:=gv) ig rfl rfl (by decide) rfl λbS A outer s H E hr=>?_
 unfold gv;exact(ao (ck (aO (Hi hr.units) Pq eZ (ah 1 (pv 1)) (by with_unfolding_all rfl)) (ay (aT eZ)) bo)
   (ao (aH (i:=2) ig.nd rfl (abf rfl) (aF (ah 1 (pv 1)) aq (λ_ _=>rfl)))
   (ao (mq adq rfl (nY (cT (ah 1 (pv 1)) (dh aq) dg)) (cP (i:=3) ig.nd rfl (abf rfl)) (ay (aH (i:=2) ig.nd rfl (abf rfl) (d_ (ag (ah 0 (pv 0)) (ag (ah 2 (pv 2)) (ag (ah 3 (pv 3)) ak)))))))
   (ay (aT (ah 2 (pv 2)))))))
theorem wj:bg ["thing"] ["thing"] (ar (top 28)):=⟨rfl,rfl,rfl,by decide +kernel,rfl,by decide +kernel,by decide +kernel⟩
theorem ow(T:Txt K mg t):bX P w K mg base d8 3 t.km t.kn ["thing"] (fK K bQ):=by
 refine T.bQ.ir (n:=1) (m:=1) (B:=eT) wj rfl rfl (by decide) rfl λbS A outer s H E hr=>?_
 unfold eT;exact(ay (aT (uJ (aQ Ax Hl (by rfl) T.bD bT (ag (ah 0 (pv 0)) (ag (nW (.ty "str") (qi (v:=.ty "str") (by rfl) T.pM uw rfl) λ_ _ _=>.ty "str") ak))) (uJ (aC [] (EB T) (hr.mono (by decide)) (by rfl) T.Gx T.fX.kp T.Gy .nil (λ_ _ _=>.nil) (ag (ah 0 (pv 0)) ak)) (Bz (DB hr.units (by rfl) T.iK T.z6 (by decide +kernel) (ah 0 (pv 0))))))))
theorem su:bg ["some"] ["some"] (ar (top 29)):=⟨rfl,rfl,rfl,by decide +kernel,rfl,by decide +kernel,by decide +kernel⟩
theorem sv(T:Txt K mg t):bX P w K mg base d8 4 t.iW t.iX ["some"] (fK K aU):=by
 refine T.aU.ir (n:=1) (m:=1) (B:=bx) su rfl rfl (by decide) rfl λbS A outer s H E hr=>?_
 unfold bx;exact(ao (ck (aO (bZ hr.units) BE (ah 0 (pv 0)) (aX (ag aI ak)) (aR _)) (ay (aT (d_ (ag aI ak)))) bo)
   (ao (ck (PW.pt (g_ (aO (bZ hr.units) cZ (aQ bf dz (by rfl) T.dN dm (ag (ah 0 (pv 0)) ak)) aq (aR _)) (iD (jP (aQ Ax Hl (by rfl) T.bD bT (ag (aF (ah 0 (pv 0)) aq (λ_ _=>rfl)) (ag (nW (.ty "tuple") (qi (v:=.ty "tuple") (by rfl) T.rz IE rfl) λ_ _ _=>.ty "tuple") ak))))))) (ay (aT (aF (ah 0 (pv 0)) aq (λ_ _=>rfl)))) bo)
   (ao (ck (PW.pt (g_ (aO (bZ hr.units) cZ (aQ bf dz (by rfl) T.dN dm (ag (ah 0 (pv 0)) ak)) aq (aR _)) (g_ (jP (aC [] (ow T) (hr.mono (by decide)) (by rfl) T.p_ T.bQ.kp T.qa .nil (λ_ _ _=>.nil) (ag (aF (ah 0 (pv 0)) aq (λ_ _=>rfl)) ak))) (iD (jP (aC [] (ow T) (hr.mono (by decide)) (by rfl) T.p_ T.bQ.kp T.qa .nil (λ_ _ _=>.nil) (ag (aF (ah 0 (pv 0)) aq (λ_ _=>rfl)) ak))))))) (ay (aT (d_ (ag aI (ag (aF (ah 0 (pv 0)) aq (λ_ _=>rfl)) (ag (aF (ah 0 (pv 0)) aq (λ_ _=>rfl)) ak)))))) bo)
   (ay (aT eZ)))))
theorem fO:bg ["some","count","thing","k"] ["some"] (ar (top 30)):=⟨rfl,rfl,rfl,by decide +kernel,rfl,by decide +kernel,by decide +kernel⟩
theorem zG(T:Txt K mg t):bX P w K mg base d8 5 t.m_ t.ng ["some"] (fK K cK):=by
 refine T.cK.ir (n:=1) (m:=4) (B:=fB) fO rfl rfl (by decide) rfl λbS A outer s H E hr=>?_
 unfold fB;exact(ao (aH (i:=1) fO.nd rfl (abf rfl) aq)
   (ao (rL adq (PW.pt (g_ (aO oG oM (ah 1 (pv 1)) (aQ bf dz (by rfl) T.dN dm (ag (ah 0 (pv 0)) ak)) (aR _)) (iD (aO (bZ hr.units) BE (aF (ah 0 (pv 0)) (ah 1 (pv 1)) (λ_ _=>rfl)) aI (aR _))))) (ay (aH (i:=1) fO.nd rfl (abf rfl) (aD bh bG (ah 1 (pv 1)) aq))))
   (ao (aH (i:=2) fO.nd rfl (abf rfl) (aC [] (sv T) (hr.mono (by decide)) (by rfl) T.t8 T.aU.kp T.t9 .nil (λ_ _ _=>.nil) (ag (cT (ah 0 (pv 0)) (dh (ah 1 (pv 1))) dg) ak)))
   (ao (mq adq rfl (jH (by rfl) T.gZ (ag (ah 1 (pv 1)) ak)) (cP (i:=3) fO.nd rfl (abf rfl)) (ay (aH (i:=2) fO.nd rfl (abf rfl) (jG (aO rF rN (ah 2 (pv 2)) eZ (aR _)) eZ (d_ (ag aI (ag (ah 2 (pv 2)) ak)))))))
   (ay (aT (ah 2 (pv 2))))))))
theorem Aa:bg ["some"] ["some"] (ar (top 31)):=⟨rfl,rfl,rfl,by decide +kernel,rfl,by decide +kernel,by decide +kernel⟩
theorem Ab(T:Txt K mg t):bX P w K mg base d8 6 t.pk t.pA ["some"] (fK K dE):=by
 refine T.dE.ir (n:=1) (m:=1) (B:=jg) Aa rfl rfl (by decide) rfl λbS A outer s H E hr=>?_
 unfold jg;exact(ay (aT (aC [] (ou T) (hr.mono (by decide)) (by rfl) T.pY T.bt.kp T.pZ .nil (λ_ _ _=>.nil) (ag aI (ag (uM (N':=["thing"]) (cap:=[ae]) (rJ (sc:=ar (top 31)) (NN:=["some"]) rfl rfl rfl (by decide +kernel) (by decide +kernel) (by decide +kernel) (by decide +kernel)) rfl (nY (aC [] (sQ T) (hr.mono (by decide)) (by rfl) T.vc T.bL.kp T.vd .nil (λ_ _ _=>.nil) (ag aI (ag (ah 0 (pv 0)) ak)))) (λ_ _ _ _=>(cP (i:=0) (show aj0 (["thing"]:List Str)by decide +kernel) rfl (abf rfl))) (λ_ _ _ _=>tD) (λ_ _ _ _=>(aC [] (zG T) (hr.mono (by decide)) (by rfl) T.z7 T.cK.kp T.z8 .nil (λ_ _ _=>.nil) (ag (ah 0 (pv 0)) ak)))) ak)))))
theorem zH:bg ["some"] ["some"] (ar (top 32)):=⟨rfl,rfl,rfl,by decide +kernel,rfl,by decide +kernel,by decide +kernel⟩
theorem rA(T:Txt K mg t):bX P w K mg base d8 7 t.ni t.nj ["some"] (fK K cL):=by
 refine T.cL.ir (n:=1) (m:=1) (B:=iG) zH rfl rfl (by decide) rfl λbS A outer s H E hr=>?_
 unfold iG;exact(ay (aT (aC [] (ou T) (hr.mono (by decide)) (by rfl) T.pY T.bt.kp T.pZ .nil (λ_ _ _=>.nil) (ag aI (ag (uM (N':=["part"]) (cap:=[ae]) (rJ (sc:=ar (top 32)) (NN:=["some"]) rfl rfl rfl (by decide +kernel) (by decide +kernel) (by decide +kernel) (by decide +kernel)) rfl (nY (aC [] (sQ T) (hr.mono (by decide)) (by rfl) T.vc T.bL.kp T.vd .nil (λ_ _ _=>.nil) (ag aI (ag (ah 0 (pv 0)) ak)))) (λ_ _ _ _=>(cP (i:=0) (show aj0 (["part"]:List Str)by decide +kernel) rfl (abf rfl))) (λ_ _ _ _=>tD) (λ_ _ _ _=>(aC [] (Ab T) (hr.mono (by decide)) (by rfl) T.Ck T.dE.kp T.Cm .nil (λ_ _ _=>.nil) (ag (ah 0 (pv 0)) ak)))) ak)))))
theorem gh:bg ["words","unclosed","word","condition"] ["words"] (ar (top 33)):=⟨rfl,rfl,rfl,by decide +kernel,rfl,by decide +kernel,by decide +kernel⟩
theorem uc(T:Txt K mg t):bX P w K mg base d8 8 t.ju t.jv ["words"] (fK K b_):=by
 refine T.b_.ir (n:=1) (m:=4) (B:=dF) gh rfl rfl (by decide) rfl λbS A outer s H E hr=>?_
 unfold dF;exact(ao (aH (i:=1) gh.nd rfl (abf rfl) (aX (ag (aX ak) ak)))
   (ao (mq adq rfl (nY (ah 0 (pv 0))) (cP (i:=2) gh.nd rfl (abf rfl)) (ay (ck (aO (bZ hr.units) cZ (ah 2 (pv 2)) aI (aR _)) (ay (fL (nX abq abr dw dQ (ah 1 (pv 1)) (ag (aX ak) ak)))) (ay (ck (aO (bZ hr.units) cZ (ah 2 (pv 2)) aI (aR _)) (ao (aH (i:=3) gh.nd rfl (abf rfl) (aC [] (rA T) (hr.mono (by decide)) (by rfl) T.sH T.cL.kp T.sJ .nil (λ_ _ _=>.nil) (ag (Uu PySem.F.slot_list_pop PySem.F.type_list_pop OB Pk (ah 1 (pv 1))) ak)))
   (ao (ck (PW.pt (mT (aO rF rN (ah 3 (pv 3)) eZ (aR _)) (mm (uK (BG (ah 1 (pv 1))))))) (ay (aT eZ)) bo)
   (ay (fL (nX abq abr dw dQ (aF (ah 1 (pv 1)) (gF aq) (λ_ _=>rfl)) (ag (ah 3 (pv 3)) ak)))))) (ay (fL (nX abq abr dw dQ (aF (ah 1 (pv 1)) (gF aq) (λ_ _=>rfl)) (ag (ah 2 (pv 2)) ak)))))))))
   (ay (aT (jG (aO (bZ hr.units) cZ (aQ bf dz (by rfl) T.dN dm (ag (ah 1 (pv 1)) ak)) aq (aR _)) (aC [] (rA T) (hr.mono (by decide)) (by rfl) T.sH T.cL.kp T.sJ .nil (λ_ _ _=>.nil) (ag (aF (ah 1 (pv 1)) aq (λ_ _=>rfl)) ak)) eZ)))))
theorem jX:bg ["row","words","condition","amount"] ["row"] (ar (top 34)):=⟨rfl,rfl,rfl,by decide +kernel,rfl,by decide +kernel,by decide +kernel⟩
theorem Ac(T:Txt K mg t):bX P w K mg base d8 9 t.pB t.pC ["row"] (fK K cy):=by
 refine T.cy.ir (n:=1) (m:=4) (B:=et) jX rfl rfl (by decide) rfl λbS A outer s H E hr=>?_
 unfold et;exact(ao (aH (i:=1) jX.nd rfl (abf rfl) (aC [] (vq T) (hr.mono (by decide)) (by rfl) T.wO T.dM.kp T.wQ .nil (λ_ _ _=>.nil) (ag (ah 0 (pv 0)) ak)))
   (ao (ck (PW.pt (mT (aO oG oM (aQ bf dz (by rfl) T.dN dm (ag (ah 1 (pv 1)) ak)) aq (aR _)) (mm (aO (iP hr.units) kg (aF (ah 1 (pv 1)) (gF aq) (λ_ _=>rfl)) aI (aR _))))) (ay (aT eZ)) bo)
   (ao (aH (i:=2) jX.nd rfl (abf rfl) (aC [] (uc T) (hr.mono (by decide)) (by rfl) T.ve T.b_.kp T.vf .nil (λ_ _ _=>.nil) (ag (cT (ah 1 (pv 1)) dg (dh (gF aq))) ak)))
   (ao (aH (i:=3) jX.nd rfl (abf rfl) (aC [] (xu T) (hr.mono (by decide)) (by rfl) T.zz T.cB.kp T.zA .nil (λ_ _ _=>.nil) (ag (aF (ah 1 (pv 1)) (gF aq) (λ_ _=>rfl)) ak)))
   (ay (aT (jG (PW.pt (mT (aO rF rN (ah 2 (pv 2)) eZ (aR _)) (mm (aO rF rN (ah 3 (pv 3)) eZ (aR _))))) eZ (d_ (ag (ah 2 (pv 2)) (ag (ah 3 (pv 3)) ak))))))))))
theorem iM:bg ["text","book","rows","k","rule"] ["text"] (ar (top 35)):=⟨rfl,rfl,rfl,by decide +kernel,rfl,by decide +kernel,by decide +kernel⟩
theorem nI(T:Txt K mg t):bX P w K mg base (xl P w K) 10 t.pE t.pF ["text"] (Je K (bJ t.c)):=by
 refine T.bJ.okY (n:=1) (m:=5) (B:=(jh t.c)) iM rfl rfl (by decide) rfl λbS A outer s H E hr=>?_
 unfold jh;exact(n_ (BJ (aH (i:=1) iM.nd rfl (abf rfl) (aX ak)))
   (n_ (BJ (aH (i:=2) iM.nd rfl (abf rfl) (yM akr aks AB AD (ah 0 (pv 0)) (ag aI ak))))
   (n_ (Pw PassesOwn.leaving rfl (jH (by rfl) T.gZ (ag (aQ bf dz (by rfl) T.dN dm (ag (ah 2 (pv 2)) ak)) ak)) (cP (i:=3) iM.nd rfl (abf rfl)) (uT (Mo (BG (aC [] (vq T) (hr.mono (by decide)) (by rfl) T.wO T.dM.kp T.wQ .nil (λ_ _ _=>.nil) (ag (aF (ah 2 (pv 2)) (ah 3 (pv 3)) (λ_ _=>rfl)) ak))) (n_ (BJ (aH (i:=4) iM.nd rfl (abf rfl) (aC [] (Ac T) (hr.mono (by decide)) (by rfl) T.Co T.cy.kp T.Cp .nil (λ_ _ _=>.nil) (ag (aF (ah 2 (pv 2)) (ah 3 (pv 3)) (λ_ _=>rfl)) ak))))
   (n_ (Mo (aO rF rN (ah 4 (pv 4)) eZ (aR _)) (uT (Jg lands hr.hd rfl T.x_6 (GA T) (hr.mono (by decide)) T.acw (by decide) (by rfl) T.SG (ag (aD bh bG (ah 3 (pv 3)) aq) ak))) DH)
   (uT (BJ (fL (nX abq abr dw dQ (ah 1 (pv 1)) (ag (ah 4 (pv 4)) ak))))))) DH)))
   (uT (Pu (ah 1 (pv 1)))))))
theorem xw:bg ["_law_script","_law_k"] ["_law_script","_law_k"] (ar (top 37)):=⟨rfl,rfl,rfl,by decide +kernel,rfl,by decide +kernel,by decide +kernel⟩
theorem qb(T:Txt K mg t):bX P w K mg base d8 1 t.lQ t.lR ["_law_script","_law_k"] (fK K c_):=by
 refine T.c_.ir (n:=2) (m:=2) (B:=gQ) xw rfl rfl (by decide) rfl λbS A outer s H E hr=>?_
 unfold gQ;exact(ao (ck (aO oG oM (ah 1 (pv 1)) (aQ bf dz (by rfl) T.dN dm (ag (ah 0 (pv 0)) ak)) (aR _)) (ay (aT (aF (ah 0 (pv 0)) (ah 1 (pv 1)) (λ_ _=>rfl)))) bo)
   (ay (aT aq)))
theorem pN:bg ["_law_left_here","_law_many","_law_at","_law_got"] ["_law_left_here","_law_many"] (ar (top 38)):=⟨rfl,rfl,rfl,by decide +kernel,rfl,by decide +kernel,by decide +kernel⟩
theorem bE(T:Txt K mg t):bX P w K mg base d8 1 t.qX t.qY ["_law_left_here","_law_many"] (fK K au):=by
 refine T.au.ir (n:=2) (m:=4) (B:=j8) pN rfl rfl (by decide) rfl λbS A outer s H E hr=>?_
 unfold j8;exact(ao (aH (i:=2) pN.nd rfl (abf rfl) (d6 sX yy (by rfl) T.ko mi (ag (uG (bZ hr.units) cZ (aF (ah 0 (pv 0)) aq (λ_ _=>rfl)) aq (aR _)) ak)))
   (ao (aH (i:=3) pN.nd rfl (abf rfl) (aD cV dy (aF (ah 0 (pv 0)) (ah 2 (pv 2)) (λ_ _=>rfl)) (ah 1 (pv 1))))
   (ao (mn (aD eS gu (aF (ah 0 (pv 0)) (ah 2 (pv 2)) (λ_ _=>rfl)) (ah 1 (pv 1))) (xD (ah 0 (pv 0)) (ah 2 (pv 2))))
   (ay (aT (ah 3 (pv 3)))))))
theorem pO:bg ["_law_script","_law_k","_law_cell","_law_mixed"] ["_law_script","_law_k"] (ar (top 39)):=⟨rfl,rfl,rfl,by decide +kernel,rfl,by decide +kernel,by decide +kernel⟩
theorem vt(T:Txt K mg t):bX P w K mg base d8 2 t.qZ t.q_ ["_law_script","_law_k"] (fK K eE):=by
 refine T.eE.ir (n:=2) (m:=4) (B:=mD) pO rfl rfl (by decide) rfl λbS A outer s H E hr=>?_
 unfold mD;exact(ao (aH (i:=2) pO.nd rfl (abf rfl) (aQ rG xC (by rfl) T.rq xA (ag (aC [] (qb T) (hr.mono (by decide)) (by rfl) T.rm T.c_.kp T.rp .nil (λ_ _ _=>.nil) (ag (ah 0 (pv 0)) (ag (ah 1 (pv 1)) ak))) ak)))
   (ao (aH (i:=3) pO.nd rfl (abf rfl) (aD eS gu (aD LP LQ (aD bh bG aq (aD cV dy (aD bh bG (aD bh bG (aD yh Bx (aD cV dy (ah 2 (pv 2)) aq) aq) (aD yh Bx aq (ah 1 (pv 1)))) aq) aq)) aq) (aD Bf By aq aq)))
   (ay (aT (aX (ag (aD yh Bx (ah 2 (pv 2)) (d6 sX yy (by rfl) T.ko mi (ag (uG (bZ hr.units) cZ (aD cV dy (aC [] (qb T) (hr.mono (by decide)) (by rfl) T.rm T.c_.kp T.rp .nil (λ_ _ _=>.nil) (ag (ah 0 (pv 0)) (ag aq ak))) aq) aq (aR _)) ak))) (ag (ah 3 (pv 3)) (ag aq ak))))))))
theorem gj:bg ["_law_left_here","_law_letters","_law_word_here","_law_k"] ["_law_left_here"] (ar (top 40)):=⟨rfl,rfl,rfl,by decide +kernel,rfl,by decide +kernel,by decide +kernel⟩
theorem vv(T:Txt K mg t):bX P w K mg base d8 2 t.rf t.rg ["_law_left_here"] (fK K di):=by
 refine T.di.ir (n:=1) (m:=4) (B:=iZ) gj rfl rfl (by decide) rfl λbS A outer s H E hr=>?_
 unfold iZ;exact(ao (aH (i:=1) gj.nd rfl (abf rfl) aI)
   (ao (aH (i:=2) gj.nd rfl (abf rfl) aI)
   (ao (mq adq rfl (jH (by rfl) T.gZ (ag (aD bh bG aq (aC [] (bE T) (hr.mono (by decide)) (by rfl) T.bN T.au.kp T.bO .nil (λ_ _ _=>.nil) (ag (ah 0 (pv 0)) (ag aq ak)))) ak)) (cP (i:=3) gj.nd rfl (abf rfl)) (ay (aH (i:=2) gj.nd rfl (abf rfl) (aD eu iE (ah 2 (pv 2)) (IL (ah 1 (pv 1)) (aC [] (bE T) (hr.mono (by decide)) (by rfl) T.bN T.au.kp T.bO .nil (λ_ _ _=>.nil) (ag (ah 0 (pv 0)) (ag aq ak))) (λ_ _=>rfl))))))
   (ao (ck (aO (bZ hr.units) cZ (aC [] (bE T) (hr.mono (by decide)) (by rfl) T.bN T.au.kp T.bO .nil (λ_ _ _=>.nil) (ag (ah 0 (pv 0)) (ag aq ak))) aq (aR _)) (ay (aH (i:=2) gj.nd rfl (abf rfl) (aF (by refine aX ?_;refine aV ?_;refine aV ?_;refine aV ?_;refine aV ?_;refine aV ?_;refine aV ?_;refine aV ?_;refine aV ?_;refine aV ?_;refine aV ?_;refine aV ?_;refine aV ?_;exact ak) (aC [] (bE T) (hr.mono (by decide)) (by rfl) T.bN T.au.kp T.bO .nil (λ_ _ _=>.nil) (ag (ah 0 (pv 0)) (ag aq ak))) (λ_ _=>rfl)))) bo)
   (ao (ck (aO (Hi hr.units) Ux (ah 2 (pv 2)) (d_ (ag aI (ag aI (ag aI (ag aI ak))))) (by with_unfolding_all rfl)) (ay (aH (i:=2) gj.nd rfl (abf rfl) (aD eu iE (ah 2 (pv 2)) aI))) bo)
   (ay (aT (ah 2 (pv 2)))))))))
theorem eF:bg ["_law_left_here","_law_words","_law_room","_law_way","_law_pair","_law_some","_law_tree"] ["_law_left_here","_law_words","_law_room"] (ar (top 41)):=⟨rfl,rfl,rfl,by decide +kernel,rfl,by decide +kernel,by decide +kernel⟩
theorem dW:bg ["_law_left_here","_law_words","_law_room","_law_word_here","_law_below","_law_some","_law_tree","_law_k","_law_more","_law_other"] ["_law_left_here","_law_words","_law_room","_law_word_here"] (ar (top 42)):=⟨rfl,rfl,rfl,by decide +kernel,rfl,by decide +kernel,by decide +kernel⟩
theorem iN(T:Txt K mg t):∀n,bX P w K mg base d8 (2+n) t.pG t.pH ["_law_left_here","_law_words","_law_room"] (fK K (az n).1)/\bX P w K mg base d8 (2+n) t.kH t.kI ["_law_left_here","_law_words","_law_room","_law_word_here"] (fK K (az n).2)
 |0=>⟨bX.none λ_ _=>rfl,bX.none λ_ _=>rfl⟩
 |n+1=>by
  obtain⟨vw,pP⟩:=iN T n;refine⟨?_,?_⟩
  .refine T.kG.ir (k:=2+n) (n:=3) (m:=7) (B:=hZ (az n).1 (az n).2) eF rfl rfl (by decide) rfl λbS A outer s H E hr=>?_
   unfold hZ;exact(ao (aH (i:=3) eF.nd rfl (abf rfl) (aC [] (bE T) (hr.mono (by omega)) (by rfl) T.bN T.au.kp T.bO .nil (λ_ _ _=>.nil) (ag (ah 0 (pv 0)) (ag aq ak))))
   (ao (mn (aD bh bG (aF (ah 0 (pv 0)) aq (λ_ _=>rfl)) aq) (xD (ah 0 (pv 0)) aq))
   (ao (ck (PW.pt (mT (aO oG oM (ah 3 (pv 3)) aq (aR _)) (mT (aO oG oM (ah 2 (pv 2)) aq (aR _)) (mm (aO EU Fp (aF (ah 0 (pv 0)) aq (λ_ _=>rfl)) aq (aR _)))))) (ao (aH (i:=4) eF.nd rfl (abf rfl) (aX (ag (aC [] (vv T) (hr.mono (by omega)) (by rfl) T.wV T.di.kp T.wW .nil (λ_ _ _=>.nil) (ag (ah 0 (pv 0)) ak)) (ag (aC [] (vv T) (hr.mono (by omega)) (by rfl) T.wV T.di.kp T.wW .nil (λ_ _ _=>.nil) (ag (ah 0 (pv 0)) ak)) ak))))
   (ao (ck (PW.pt (g_ (aO (bZ hr.units) cZ (aD cV dy (ah 3 (pv 3)) aq) aq (aR _)) (iD (aO (iP hr.units) kg (ah 1 (pv 1)) (aX ak) (aR _))))) (ay (aH (i:=4) eF.nd rfl (abf rfl) (d6 zV LF (by rfl) T.vo Ld (ag (aF (ah 1 (pv 1)) (aC [] (bE T) (hr.mono (by omega)) (by rfl) T.bN T.au.kp T.bO .nil (λ_ _ _=>.nil) (ag (ah 0 (pv 0)) (ag (aQ bf dz (by rfl) T.dN dm (ag (ah 1 (pv 1)) ak)) ak))) (λ_ _=>rfl)) ak)))) bo)
   (ao (fL (nX abq abr dw dQ (ah 1 (pv 1)) (ag (d_ (ag (aF (ah 4 (pv 4)) aq (λ_ _=>rfl)) (ag (aF (ah 4 (pv 4)) aq (λ_ _=>rfl)) ak))) ak)))
   (ay (aT (d_ (ag (ah 4 (pv 4)) (ag (d_ (ag aI (ag (aF (ah 4 (pv 4)) aq (λ_ _=>rfl)) (ag (aF (ah 4 (pv 4)) aq (λ_ _=>rfl)) ak)))) ak)))))))) bo)
   (ao (ck (aO (bZ hr.units) cZ (ah 3 (pv 3)) aq (aR _)) (ay (aT (d_ (ag (aX (ag aI ak)) (ag (d_ (ag aI ak)) ak))))) bo)
   (ao (ck (aO (bZ hr.units) cZ (ah 3 (pv 3)) aq (aR _)) (ao (mn (aC [] vw (hr.mono (by omega)) (by rfl) T.vg T.kG.kp T.vh .nil (λ_ _ _=>.nil) (ag (ah 0 (pv 0)) (ag (ah 1 (pv 1)) (ag (aD ma ml (ah 2 (pv 2)) aq) ak)))) (uL rfl (gA (cP (i:=5) eF.nd rfl (abf rfl)) (gA (cP (i:=6) eF.nd rfl (abf rfl)) qB))))
   (ay (aT (d_ (ag (aD bh bG (aX (ag aI ak)) (ah 5 (pv 5))) (ag (d_ (ag aI (ag (ah 6 (pv 6)) ak))) ak)))))) bo)
   (ao (mn (aC [] pP (hr.mono (by omega)) (by rfl) T.kJ T.dG.kp T.kK .nil (λ_ _ _=>.nil) (ag (ah 0 (pv 0)) (ag (ah 1 (pv 1)) (ag (aD ma ml (ah 2 (pv 2)) aq) (ag aI ak))))) (uL rfl (gA (cP (i:=5) eF.nd rfl (abf rfl)) (gA (cP (i:=6) eF.nd rfl (abf rfl)) qB))))
   (ay (aT (d_ (ag (aD bh bG (aD bh bG (aX (ag aI ak)) (ah 5 (pv 5))) (aX (ag aI ak))) (ag (ah 6 (pv 6)) ak)))))))))))
  .refine T.dG.ir (k:=2+n) (n:=4) (m:=10) (B:=fj (az n).1 (az n).2) dW rfl rfl (by decide) rfl λbS A outer s H E hr=>?_
   unfold fj;exact(ao (ck (aO (bZ hr.units) cZ (ah 3 (pv 3)) aI (aR _)) (ay (aT (aC [] vw (hr.mono (by omega)) (by rfl) T.vg T.kG.kp T.vh .nil (λ_ _ _=>.nil) (ag (ah 0 (pv 0)) (ag (ah 1 (pv 1)) (ag (ah 2 (pv 2)) ak)))))) bo)
   (ao (aH (i:=4) dW.nd rfl (abf rfl) (Pa hr.units (IM (by decide)) (ah 3 (pv 3)) (λ_ _=>rfl)))
   (ao (mn (aC [] pP (hr.mono (by omega)) (by rfl) T.kJ T.dG.kp T.kK .nil (λ_ _ _=>.nil) (ag (ah 0 (pv 0)) (ag (ah 1 (pv 1)) (ag (ah 2 (pv 2)) (ag (ah 4 (pv 4)) ak))))) (uL rfl (gA (cP (i:=5) dW.nd rfl (abf rfl)) (gA (cP (i:=6) dW.nd rfl (abf rfl)) qB))))
   (ao (mq adq rfl (jH (by rfl) T.gZ (ag (aF (by refine aX ?_;refine mx ?_;refine mx ?_;refine mx ?_;refine mx ?_;refine mx ?_;refine mx ?_;refine mx ?_;refine mx ?_;exact ak) (aC [] (bE T) (hr.mono (by omega)) (by rfl) T.bN T.au.kp T.bO .nil (λ_ _ _=>.nil) (ag (ah 0 (pv 0)) (ag aq ak))) (λ_ _=>rfl)) ak)) (cP (i:=7) dW.nd rfl (abf rfl)) (ay (ck (aO oG oM (aF (ah 0 (pv 0)) aq (λ_ _=>rfl)) aq (aR _)) (ao (mn (aC [] pP (hr.mono (by omega)) (by rfl) T.kJ T.dG.kp T.kK .nil (λ_ _ _=>.nil) (ag (ah 0 (pv 0)) (ag (ah 1 (pv 1)) (ag (ah 2 (pv 2)) (ag (ah 4 (pv 4)) ak))))) (uL rfl (gA (cP (i:=8) dW.nd rfl (abf rfl)) (gA (cP (i:=9) dW.nd rfl (abf rfl)) qB))))
   (ao (aH (i:=5) dW.nd rfl (abf rfl) (aD bh bG (aD bh bG (ah 5 (pv 5)) (aX (ag (ah 3 (pv 3)) ak))) (ah 8 (pv 8))))
   (ay (aH (i:=6) dW.nd rfl (abf rfl) (d_ (ag (ah 3 (pv 3)) (ag (ah 6 (pv 6)) (ag (ah 9 (pv 9)) ak)))))))) bo)))
   (ay (aT (d_ (ag (ah 5 (pv 5)) (ag (ah 6 (pv 6)) ak)))))))))
theorem Ad(T:Txt K mg t):bX P w K mg base d8 62 t.kH t.kI ["_law_left_here","_law_words","_law_room","_law_word_here"] (fK K dG):=(iN T 60).2
theorem jz:bg ["_law_above","_law_below","_law_one","_law_other"] ["_law_above","_law_below"] (ar (top 43)):=⟨rfl,rfl,rfl,by decide +kernel,rfl,by decide +kernel,by decide +kernel⟩
theorem zI(T:Txt K mg t):bX P w K mg base d8 1 t.nq t.nr ["_law_above","_law_below"] (fK K fC):=by
 refine T.fC.ir (n:=2) (m:=4) (B:=iH) jz rfl rfl (by decide) rfl λbS A outer s H E hr=>?_
 unfold iH;exact(ao (aH (i:=2) jz.nd rfl (abf rfl) (aQ rG xC (by rfl) T.rq xA (ag (ah 0 (pv 0)) ak)))
   (ao (aH (i:=3) jz.nd rfl (abf rfl) (ah 1 (pv 1)))
   (ao (rL adq (aO (iP hr.units) kg (ah 2 (pv 2)) aq (aR _)) (ay (LG (i:=2) (j:=3) rfl jz.nd rfl rfl (by decide) rfl rfl (ag (aD cV dy (ah 3 (pv 3)) (ah 2 (pv 2))) (ag (ah 2 (pv 2)) ak)) (by rfl))))
   (ay (aT (d_ (ag (aD eS gu (ah 0 (pv 0)) (ah 3 (pv 3))) (ag (aD eS gu (ah 1 (pv 1)) (ah 3 (pv 3))) ak))))))))
theorem gE:bg ["_law_left_here","_law_above","_law_below"] ["_law_left_here"] (ar (top 44)):=⟨rfl,rfl,rfl,by decide +kernel,rfl,by decide +kernel,by decide +kernel⟩
theorem Ae(T:Txt K mg t):bX P w K mg base d8 2 t.pI t.pJ ["_law_left_here"] (fK K fq):=by
 refine T.fq.ir (n:=1) (m:=3) (B:=ji) gE rfl rfl (by decide) rfl λbS A outer s H E hr=>?_
 unfold ji;exact(ao (aH (i:=1) gE.nd rfl (abf rfl) (aD ma ml (aC [] (bE T) (hr.mono (by decide)) (by rfl) T.bN T.au.kp T.bO .nil (λ_ _ _=>.nil) (ag (ah 0 (pv 0)) (ag aq ak))) aq))
   (ao (aH (i:=2) gE.nd rfl (abf rfl) aq)
   (ao (ck (aO (bZ hr.units) cZ (aC [] (bE T) (hr.mono (by decide)) (by rfl) T.bN T.au.kp T.bO .nil (λ_ _ _=>.nil) (ag (ah 0 (pv 0)) (ag aq ak))) aq (aR _)) (ay (aH (i:=2) gE.nd rfl (abf rfl) (aD bh bG aq (aC [] (bE T) (hr.mono (by decide)) (by rfl) T.bN T.au.kp T.bO .nil (λ_ _ _=>.nil) (ag (ah 0 (pv 0)) (ag aq ak)))))) bo)
   (ao (ck (aO (bZ hr.units) cZ (aC [] (bE T) (hr.mono (by decide)) (by rfl) T.bN T.au.kp T.bO .nil (λ_ _ _=>.nil) (ag (ah 0 (pv 0)) (ag aq ak))) aq (aR _)) (ao (aH (i:=1) gE.nd rfl (abf rfl) (aD ma ml (aD cV dy (ah 1 (pv 1)) aq) aq))
   (ay (aH (i:=2) gE.nd rfl (abf rfl) (aD bh bG aq (aD cV dy (ah 2 (pv 2)) aq))))) bo)
   (ay (aT (aC [] (zI T) (hr.mono (by decide)) (by rfl) T.z9 T.fC.kp T.z_ .nil (λ_ _ _=>.nil) (ag (ah 1 (pv 1)) (ag (ah 2 (pv 2)) ak)))))))))
theorem ud:bg ["_law_pair"] ["_law_pair"] (ar (top 45)):=⟨rfl,rfl,rfl,by decide +kernel,rfl,by decide +kernel,by decide +kernel⟩
theorem ue(T:Txt K mg t):bX P w K mg base d8 1 t.jw t.jx ["_law_pair"] (fK K cQ):=by
 refine T.cQ.ir (n:=1) (m:=1) (B:=fv) ud rfl rfl (by decide) rfl λbS A outer s H E hr=>?_
 unfold fv;exact(ao (ck (aO (bZ hr.units) cZ (aF (ah 0 (pv 0)) aq (λ_ _=>rfl)) aq (aR _)) (ay (aT (d6 jO uQ (by rfl) T.pM uw (ag (aF (ah 0 (pv 0)) aq (λ_ _=>rfl)) ak)))) bo)
   (ay (aT (aD eu iE (aD eu iE (d6 jO uQ (by rfl) T.pM uw (ag (aF (ah 0 (pv 0)) aq (λ_ _=>rfl)) ak)) aI) (d6 jO uQ (by rfl) T.pM uw (ag (aF (ah 0 (pv 0)) aq (λ_ _=>rfl)) ak))))))
theorem eO:bg ["_law_left_here","_law_some","_law_text","_law_k","_law_piece","_law_gap"] ["_law_left_here","_law_some"] (ar (top 46)):=⟨rfl,rfl,rfl,by decide +kernel,rfl,by decide +kernel,by decide +kernel⟩
theorem lV(T:Txt K mg t):bX P w K mg base d8 2 t.nv t.ny ["_law_left_here","_law_some"] (fK K cm):=by
 refine T.cm.ir (n:=2) (m:=6) (B:=iI) eO rfl rfl (by decide) rfl λbS A outer s H E hr=>?_
 unfold iI;exact(ao (aH (i:=2) eO.nd rfl (abf rfl) (aD nZ n8 aI (aD eS gu (aC [] (bE T) (hr.mono (by decide)) (by rfl) T.bN T.au.kp T.bO .nil (λ_ _ _=>.nil) (ag (ah 0 (pv 0)) (ag aq ak))) aq)))
   (ao (mq adq rfl (LS (by rfl) T.jy (ag (ah 1 (pv 1)) ak)) (uL rfl (gA (cP (i:=3) eO.nd rfl (abf rfl)) (gA (cP (i:=4) eO.nd rfl (abf rfl)) qB))) (ao (aH (i:=5) eO.nd rfl (abf rfl) (aF (aX (ag aq (ag aq (ag aq (ag aq ak))))) (aC [] (bE T) (hr.mono (by decide)) (by rfl) T.bN T.au.kp T.bO .nil (λ_ _ _=>.nil) (ag (ah 0 (pv 0)) (ag aq ak))) (λ_ _=>rfl)))
   (ao (ck (PW.pt (g_ (aO EU Fp (ah 3 (pv 3)) aq (aR _)) (g_ (aO (bZ hr.units) cZ (ah 5 (pv 5)) aq (aR _)) (g_ (aO sA yQ (aF (ah 1 (pv 1)) (aD ma ml (ah 3 (pv 3)) aq) (λ_ _=>rfl)) aI (by with_unfolding_all rfl)) (iD (aO sA yQ (ah 4 (pv 4)) aI (by with_unfolding_all rfl))))))) (ay (aH (i:=5) eO.nd rfl (abf rfl) aq)) bo)
   (ay (aH (i:=2) eO.nd rfl (abf rfl) (aD eu iE (aD eu iE (ah 2 (pv 2)) (aD nZ n8 (aD nZ n8 aI (ah 5 (pv 5))) (d6 sX yy (by rfl) T.ko mi (ag (uG EU Fp (ah 3 (pv 3)) aq (aR _)) ak)))) (ah 4 (pv 4))))))))
   (ay (aT (aD eu iE (ah 2 (pv 2)) (aD nZ n8 aI (aD eS gu (aC [] (bE T) (hr.mono (by decide)) (by rfl) T.bN T.au.kp T.bO .nil (λ_ _ _=>.nil) (ag (ah 0 (pv 0)) (ag aq ak))) aq)))))))
theorem pQ:bg ["_law_e","_law_sorts"] ["_law_e"] (ar (top 47)):=⟨rfl,rfl,rfl,by decide +kernel,rfl,by decide +kernel,by decide +kernel⟩
theorem Ct(T:Txt K mg t):bX P w K mg base d8 1 t.rh t.rj ["_law_e"] (fK K (gR t.c)):=by
 refine T.gR.ir (n:=1) (m:=2) (B:=(j9 t.c)) pQ rfl rfl (by decide) rfl λbS A outer s H E hr=>?_
 unfold j9;exact(ao (aH (i:=1) pQ.nd rfl (abf rfl) (aX (ag (aQ (gB T.aci) jR (by rfl) T.bD bT (ag (ah 0 (pv 0)) (ag (jT (by rfl) T.ach) ak))) (ag (aQ (gB T.acA) jR (by rfl) T.bD bT (ag (ah 0 (pv 0)) (ag (jT (by rfl) T.acz) ak))) (ag (aQ (gB T.acn) jR (by rfl) T.bD bT (ag (ah 0 (pv 0)) (ag (jT (by rfl) T.acm) ak))) (ag (aQ (gB T.Wr) jR (by rfl) T.bD bT (ag (ah 0 (pv 0)) (ag (jT (by rfl) T.Wq) ak))) ak))))))
   (ao (aH (i:=1) pQ.nd rfl (abf rfl) (aD bh bG (ah 1 (pv 1)) (aX (ag (aQ (gB T.acy) jR (by rfl) T.bD bT (ag (ah 0 (pv 0)) (ag (jT (by rfl) T.acx) ak))) (ag (aQ (gB T.acr) jR (by rfl) T.bD bT (ag (ah 0 (pv 0)) (ag (jT (by rfl) T.acq) ak))) (ag (aQ (gB T.acC) jR (by rfl) T.bD bT (ag (ah 0 (pv 0)) (ag (jT (by rfl) T.acB) ak))) (ag (aQ (gB T.acp) jR (by rfl) T.bD bT (ag (ah 0 (pv 0)) (ag (jT (by rfl) T.aco) ak))) ak)))))))
   (ay (aT (uJ (aQ (gB T.acs) jR (by rfl) T.bD bT (ag (ah 0 (pv 0)) (ag (jT (by rfl) T.SG) ak))) (uJ (aQ IW Pj (by rfl) T.bD bT (ag (ah 0 (pv 0)) (ag (nW (.ty "ValueError") (qi (v:=.ty "ValueError") (by rfl) T.iL yK rfl) λ_ _ _=>.ty "ValueError") ak))) (Bz (OZ (aQ (Fv rfl) O7 (by rfl) T.zC O9 (ag (aD bh bG (ah 1 (pv 1)) (aX (ag (aQ (gB T.ack) jR (by rfl) T.bD bT (ag (ah 0 (pv 0)) (ag (jT (by rfl) T.acj) ak))) ak))) ak))))))))))
theorem EC:bg ["_law_some","_law_at","_law_piece"] ["_law_some","_law_at","_law_piece"] (ar (top 48)):=⟨rfl,rfl,rfl,by decide +kernel,rfl,by decide +kernel,by decide +kernel⟩
theorem rB(T:Txt K mg t):bX P w K mg base d8 1 t.t6 t.t7 ["_law_some","_law_at","_law_piece"] (fK K dH):=by
 refine T.dH.ir (n:=3) (m:=3) (B:=lD) EC rfl rfl (by decide) rfl λbS A outer s H E hr=>?_
 unfold lD;exact(ay (aT (aD bh bG (aD bh bG (cT (ah 0 (pv 0)) dg (dh (ah 1 (pv 1)))) (aX (ag (ah 2 (pv 2)) ak))) (cT (ah 0 (pv 0)) (dh (ah 1 (pv 1))) dg))))
theorem cC:bg ["_law_left_here","_law_some","_law_way","_law_cell","_law_at","_law_end","_law_written","_law_brackets","_law_wrong","_law_out","_law_place","_law_bad"] ["_law_left_here","_law_some"] (ar (top 49)):=⟨rfl,rfl,rfl,by decide +kernel,rfl,by decide +kernel,by decide +kernel⟩
theorem rC(T:Txt K mg t):bX P w K mg base d8 2 t.nz t.nA ["_law_left_here","_law_some"] (fK K cE):=by
 refine T.cE.ir (n:=2) (m:=12) (B:=gC) cC rfl rfl (by decide) rfl λbS A outer s H E hr=>?_
 unfold gC;exact(ao (aH (i:=2) cC.nd rfl (abf rfl) (aC [] (bE T) (hr.mono (by decide)) (by rfl) T.bN T.au.kp T.bO .nil (λ_ _ _=>.nil) (ag (ah 0 (pv 0)) (ag aq ak))))
   (ao (aH (i:=3) cC.nd rfl (abf rfl) (aC [] (bE T) (hr.mono (by decide)) (by rfl) T.bN T.au.kp T.bO .nil (λ_ _ _=>.nil) (ag (ah 0 (pv 0)) (ag (aD Bf By aq aq) ak))))
   (ao (aH (i:=4) cC.nd rfl (abf rfl) (aD cV dy (ah 3 (pv 3)) (aD bh bG (aQ bf dz (by rfl) T.dN dm (ag (ah 1 (pv 1)) ak)) aq)))
   (ao (aH (i:=5) cC.nd rfl (abf rfl) (aD ma ml (aQ bf dz (by rfl) T.dN dm (ag (ah 1 (pv 1)) ak)) aq))
   (ao (Dd (i:=6) (N':=["_law_k","_law_some"]) (cap:=[ae,aa 1]) (rJ (sc:=ar (top 49)) (NN:=["_law_left_here","_law_some","_law_way","_law_cell","_law_at","_law_end","_law_written","_law_brackets","_law_wrong","_law_out","_law_place","_law_bad"]) rfl rfl rfl (by decide +kernel) (by decide +kernel) (by decide +kernel) (by decide +kernel)) rfl (jH (by rfl) T.gZ (ag (ah 5 (pv 5)) ak)) (λ_ _ _ _=>(cP (i:=0) (show aj0 (["_law_k","_law_some"]:List Str)by decide +kernel) rfl (abf rfl))) (λ_ _ _ _=>(vK (aO (yC hr.units) IJ (aF (ah 1 (pv 1)) (ah 0 (pv 0)) (λ_ _=>rfl)) (d_ (ag aI (ag aI (ag aI (ag aI (ag aI (ag aI ak))))))) (by with_unfolding_all rfl)))) (λ_ _ _ _=>(ah 0 (pv 0))) cC.nd rfl (abf rfl) (by rfl))
   (ao (Dd (i:=7) (N':=["_law_k","_law_some"]) (cap:=[ae,aa 1]) (rJ (sc:=ar (top 49)) (NN:=["_law_left_here","_law_some","_law_way","_law_cell","_law_at","_law_end","_law_written","_law_brackets","_law_wrong","_law_out","_law_place","_law_bad"]) rfl rfl rfl (by decide +kernel) (by decide +kernel) (by decide +kernel) (by decide +kernel)) rfl (jH (by rfl) T.gZ (ag (ah 5 (pv 5)) ak)) (λ_ _ _ _=>(cP (i:=0) (show aj0 (["_law_k","_law_some"]:List Str)by decide +kernel) rfl (abf rfl))) (λ_ _ _ _=>(vK (aO xW Ht (aF (ah 1 (pv 1)) (ah 0 (pv 0)) (λ_ _=>rfl)) aI (by with_unfolding_all rfl)))) (λ_ _ _ _=>(ah 0 (pv 0))) cC.nd rfl (abf rfl) (by rfl))
   (ao (ck (aO (bZ hr.units) cZ (ah 2 (pv 2)) aq (aR _)) (ay (aT (aD bh bG (aD bh bG (cT (ah 1 (pv 1)) dg (dh (gF aq))) (aF (aX (ag (aX ak) (ag (aX (ag aI ak)) (ag (aX (ag aI ak)) (ag (aX (ag aI ak)) (ag (aX (ag aI ak)) (ag (aX ak) ak))))))) (aD cV dy (ah 3 (pv 3)) aq) (λ_ _=>rfl))) (cT (ah 1 (pv 1)) (dh (gF aq)) dg)))) bo)
   (ao (ck (aO (bZ hr.units) cZ (ah 2 (pv 2)) aq (aR _)) (ay (aT (aC [] (rB T) (hr.mono (by decide)) (by rfl) T.t_ T.dH.kp T.ua .nil (λ_ _ _=>.nil) (ag (ah 1 (pv 1)) (ag (ah 4 (pv 4)) (ag aI ak)))))) bo)
   (ao (ck (aO (bZ hr.units) cZ (ah 2 (pv 2)) aq (aR _)) (ay (aT (aF (aX (ag (cT (ah 1 (pv 1)) dg (dh (gF aq))) (ag (cT (ah 1 (pv 1)) (dh (gF aq)) dg) ak))) (aD cV dy (ah 3 (pv 3)) aq) (λ_ _=>rfl)))) bo)
   (ao (ck (aO (bZ hr.units) cZ (ah 2 (pv 2)) aq (aR _)) (ao (aH (i:=8) cC.nd rfl (abf rfl) (by refine aX ?_;refine aV ?_;refine aV ?_;refine aV ?_;refine aV ?_;refine aV ?_;refine aV ?_;refine aV ?_;refine aV ?_;refine aV ?_;refine aV ?_;refine aV ?_;refine aV ?_;refine aV ?_;refine aV ?_;refine aV ?_;exact ak))
   (ay (aT (aD bh bG (cT (ah 1 (pv 1)) dg (dh (gF aq))) (aX (ag (aF (aD bh bG (ah 8 (pv 8)) (by refine aX ?_;refine aV ?_;refine aV ?_;refine aV ?_;refine aV ?_;refine aV ?_;refine aV ?_;refine aV ?_;refine aV ?_;exact ak)) (aD cV dy (ah 3 (pv 3)) aq) (λ_ _=>rfl)) ak)))))) bo)
   (ao (ck (PW.pt (g_ (aO (bZ hr.units) cZ (ah 2 (pv 2)) aq (aR _)) (iD (aO (iP hr.units) kg (ah 7 (pv 7)) (aX ak) (aR _))))) (ao (aH (i:=9) cC.nd rfl (abf rfl) (aF (ah 7 (pv 7)) (aD cV dy (ah 3 (pv 3)) (aQ bf dz (by rfl) T.dN dm (ag (ah 7 (pv 7)) ak))) (λ_ _=>rfl)))
   (ay (aT (aD bh bG (cT (ah 1 (pv 1)) dg (dh (ah 9 (pv 9)))) (cT (ah 1 (pv 1)) (dh (aD bh bG (ah 9 (pv 9)) aq)) dg))))) bo)
   (ao (ck (PW.pt (g_ (aO (bZ hr.units) cZ (ah 2 (pv 2)) aq (aR _)) (iD (aO (iP hr.units) kg (ah 6 (pv 6)) (aX ak) (aR _))))) (ao (aH (i:=10) cC.nd rfl (abf rfl) (aF (ah 6 (pv 6)) (aD cV dy (ah 3 (pv 3)) (aQ bf dz (by rfl) T.dN dm (ag (ah 6 (pv 6)) ak))) (λ_ _=>rfl)))
   (ay (aT (aD bh bG (aD bh bG (cT (ah 1 (pv 1)) dg (dh (ah 10 (pv 10)))) (aX (ag (aF (aX (ag aI (ag aI (ag aI (ag aI ak))))) (aD cV dy (aD eS gu (ah 3 (pv 3)) aq) aq) (λ_ _=>rfl)) ak))) (cT (ah 1 (pv 1)) (dh (aD bh bG (ah 10 (pv 10)) aq)) dg))))) bo)
   (ao (ck (PW.pt (g_ (aO (bZ hr.units) cZ (ah 2 (pv 2)) aq (aR _)) (iD (aO (iP hr.units) kg (ah 6 (pv 6)) (aX ak) (aR _))))) (ao (aH (i:=10) cC.nd rfl (abf rfl) (aF (ah 6 (pv 6)) (aD cV dy (ah 3 (pv 3)) (aQ bf dz (by rfl) T.dN dm (ag (ah 6 (pv 6)) ak))) (λ_ _=>rfl)))
   (ao (aH (i:=11) cC.nd rfl (abf rfl) (aF (aX (ag aI (ag aI (ag aI (ag (aD nZ n8 (aF (ah 1 (pv 1)) (ah 10 (pv 10)) (λ_ _=>rfl)) aq) (ag aI (ag aI (ag aI (ag aI ak))))))))) (aD cV dy (aD eS gu (ah 3 (pv 3)) aq) aq) (λ_ _=>rfl)))
   (ay (aT (aD bh bG (aD bh bG (cT (ah 1 (pv 1)) dg (dh (ah 10 (pv 10)))) (aX (ag (ah 11 (pv 11)) ak))) (cT (ah 1 (pv 1)) (dh (aD bh bG (ah 10 (pv 10)) aq)) dg)))))) bo)
   (ao (ck (aO (bZ hr.units) cZ (ah 2 (pv 2)) aq (aR _)) (ay (aT (aC [] (rB T) (hr.mono (by decide)) (by rfl) T.t_ T.dH.kp T.ua .nil (λ_ _ _=>.nil) (ag (ah 1 (pv 1)) (ag (ah 5 (pv 5)) (ag (aF (by refine aX ?_;refine aV ?_;refine aV ?_;refine aV ?_;refine aV ?_;refine aV ?_;refine aV ?_;refine aV ?_;refine aV ?_;exact ak) (aD cV dy (ah 3 (pv 3)) aq) (λ_ _=>rfl)) ak)))))) bo)
   (ao (ck (aO (bZ hr.units) cZ (ah 2 (pv 2)) aq (aR _)) (ay (aT (aD bh bG (ah 1 (pv 1)) (aX (ag (aF (by refine aX ?_;refine aV ?_;refine aV ?_;refine aV ?_;refine aV ?_;refine aV ?_;refine aV ?_;refine aV ?_;exact ak) (aD cV dy (ah 3 (pv 3)) aq) (λ_ _=>rfl)) ak))))) bo)
   (ao (ck (aO (bZ hr.units) cZ (ah 2 (pv 2)) aq (aR _)) (ay (aT (aC [] (rB T) (hr.mono (by decide)) (by rfl) T.t_ T.dH.kp T.ua .nil (λ_ _ _=>.nil) (ag (ah 1 (pv 1)) (ag (ah 4 (pv 4)) (ag (aF (by refine aX ?_;refine aV ?_;refine aV ?_;refine aV ?_;refine aV ?_;refine aV ?_;refine aV ?_;refine aV ?_;refine aV ?_;exact ak) (aD cV dy (ah 3 (pv 3)) aq) (λ_ _=>rfl)) ak)))))) bo)
   (ao (ck (PW.pt (g_ (aO (bZ hr.units) cZ (ah 2 (pv 2)) aq (aR _)) (iD (aO (iP hr.units) kg (ah 6 (pv 6)) (aX ak) (aR _))))) (ao (aH (i:=10) cC.nd rfl (abf rfl) (aF (ah 6 (pv 6)) (aD cV dy (ah 3 (pv 3)) (aQ bf dz (by rfl) T.dN dm (ag (ah 6 (pv 6)) ak))) (λ_ _=>rfl)))
   (ay (aT (aD bh bG (cT (ah 1 (pv 1)) dg (dh (ah 10 (pv 10)))) (cT (ah 1 (pv 1)) (dh (aD bh bG (ah 10 (pv 10)) aq)) dg))))) bo)
   (ay (aT (aD bh bG (aD bh bG (cT (ah 1 (pv 1)) dg (dh (ah 4 (pv 4)))) (aF (aX (ag (aX (ag aI (ag aI ak))) (ag (aX (ag aI ak)) (ag (aX (ag aI ak)) ak)))) (aD cV dy (aD eS gu (ah 3 (pv 3)) aq) aq) (λ_ _=>rfl))) (cT (ah 1 (pv 1)) (dh (ah 4 (pv 4))) dg)))))))))))))))))))))
theorem lW:bg ["_law_text","_law_caught","_law_e"] ["_law_text"] (ar (top 50)):=⟨rfl,rfl,rfl,by decide +kernel,rfl,by decide +kernel,by decide +kernel⟩
theorem rD(T:Txt K mg t):bX P w K mg base d8 11 t.nB t.nC ["_law_text"] (fK K (du t.c)):=by
 refine T.du.ir (n:=1) (m:=3) (B:=(iJ t.c)) lW rfl rfl (by decide) rfl λbS A outer s H E hr=>?_
 unfold iJ;exact(ao (aH (i:=1) lW.nd rfl (abf rfl) eZ)
   (ao (PB (i:=1) (j:=2) (nI T) (hr.mono (by decide)) (by rfl) T.pK T.bJ.kp T.pL (ag (ah 0 (pv 0)) ak) (by rfl) T.acf T.acg T.ace rfl rfl (λ_ _ z=>z) lW.nd rfl rfl (by decide) rfl rfl)
   (ao (ck (PW.pt (mT (aO rF rN (ah 1 (pv 1)) eZ (aR _)) (mm (uK (jP (aC [] (Ct T) (hr.mono (by decide)) (by rfl) T.Ew T.gR.kp T.Ey .nil (λ_ _ _=>.nil) (ag (ah 1 (pv 1)) ak))))))) (ay (aT aq)) bo)
   (ao (ck (PW.pt (mT (uK (jP (aQ uv yB (by rfl) T.bD bT (ag (Fz (ah 1 (pv 1))) (ag (nW (.ty "int") (qi (v:=.ty "int") (by rfl) T.ko mi rfl) λ_ _ _=>.ty "int") ak))))) (mm (jP (aQ uv yB (by rfl) T.bD bT (ag (Fz (ah 1 (pv 1))) (ag (nW (.ty "bool") (qi (v:=.ty "bool") (by rfl) T.vn Lc rfl) λ_ _ _=>.ty "bool") ak))))))) (ay (aT aq)) bo)
   (ay (aT (Fz (ah 1 (pv 1)))))))))
theorem iR:bg ["_law_script","_law_rows","_law_places","_law_some","_law_k","_law_left_here","_law_pair","_law_good","_law_at","_law_later","_law_text"] ["_law_script"] (ar (top 51)):=⟨rfl,rfl,rfl,by decide +kernel,rfl,by decide +kernel,by decide +kernel⟩
theorem Q8(T:Txt K mg t):bX P w K mg base d8 63 t.Gu t.zu ["_law_script"] (fK K (qI t.c)):=by
 refine T.qI.ir (n:=1) (m:=11) (B:=(yW t.c)) iR rfl rfl (by decide) rfl λbS A outer s H E hr=>?_
 unfold yW;exact(ao (aH (i:=1) iR.nd rfl (abf rfl) (aX ak))
   (ao (aH (i:=2) iR.nd rfl (abf rfl) (aX ak))
   (ao (aH (i:=3) iR.nd rfl (abf rfl) (aX ak))
   (ao (mq adq rfl (Fs (by rfl) T.gZ (ag aq (ag (aQ (EW rfl) LC (by rfl) T.zD OL (ag aq (ag (aQ (EX rfl) LD (by rfl) T.zE OM (ag aq (ag (aQ bf dz (by rfl) T.dN dm (ag (ah 0 (pv 0)) ak)) ak))) ak))) ak))) (cP (i:=4) iR.nd rfl (abf rfl)) (ao (aH (i:=5) iR.nd rfl (abf rfl) (aC [] (vt T) (hr.mono (by decide)) (by rfl) T.wR T.eE.kp T.wU .nil (λ_ _ _=>.nil) (ag (ah 0 (pv 0)) (ag (ah 4 (pv 4)) ak))))
   (ao (aH (i:=6) iR.nd rfl (abf rfl) (aC [] (Ae T) (hr.mono (by decide)) (by rfl) T.Cq T.fq.kp T.Cr .nil (λ_ _ _=>.nil) (ag (ah 5 (pv 5)) ak)))
   (ao (ck (aO (bZ hr.units) cZ (aC [] (bE T) (hr.mono (by decide)) (by rfl) T.bN T.au.kp T.bO .nil (λ_ _ _=>.nil) (ag (ah 5 (pv 5)) (ag aq ak))) aq (aR _)) (ay (fL (nX abq abr dw dQ (ah 1 (pv 1)) (ag (aD nZ n8 aI (aC [] (bE T) (hr.mono (by decide)) (by rfl) T.bN T.au.kp T.bO .nil (λ_ _ _=>.nil) (ag (ah 5 (pv 5)) (ag aq ak)))) ak)))) bo)
   (ao (fL (nX abq abr dw dQ (ah 2 (pv 2)) (ag (aQ bf dz (by rfl) T.dN dm (ag (ah 1 (pv 1)) ak)) ak)))
   (ao (fL (nX abq abr dw dQ (ah 3 (pv 3)) (ag (aD bh bG (aF (aC [] (Ad T) (hr.mono (by decide)) (by rfl) T.kJ T.dG.kp T.kK .nil (λ_ _ _=>.nil) (ag (ah 5 (pv 5)) (ag (aX ak) (ag aq (ag aI ak))))) aq (λ_ _=>rfl)) (aX (ag aI (ag (aC [] (ue T) (hr.mono (by decide)) (by rfl) T.vj T.cQ.kp T.vm .nil (λ_ _ _=>.nil) (ag (ah 6 (pv 6)) ak)) ak)))) ak)))
   (ay (fL (nX abq abr dw dQ (ah 1 (pv 1)) (ag (aC [] (lV T) (hr.mono (by decide)) (by rfl) T.nF T.cm.kp T.nG .nil (λ_ _ _=>.nil) (ag (ah 5 (pv 5)) (ag (aF (ah 3 (pv 3)) (gF aq) (λ_ _=>rfl)) ak))) ak))))))))))
   (ao (aH (i:=7) iR.nd rfl (abf rfl) (Dq (ah 1 (pv 1))))
   (ao (ck (aO (iP hr.units) kg (aQ bf dz (by rfl) T.dN dm (ag (AH (nI T) (hr.mono (by decide)) (by rfl) T.pK T.bJ.kp T.pL (ag (ah 7 (pv 7)) ak)) ak)) (aQ bf dz (by rfl) T.dN dm (ag (ah 3 (pv 3)) ak)) (aR _)) (ay (aT Lu)) bo)
   (ao (aH (i:=5) iR.nd rfl (abf rfl) (aC [] (vt T) (hr.mono (by decide)) (by rfl) T.wR T.eE.kp T.wU .nil (λ_ _ _=>.nil) (ag (ah 0 (pv 0)) (ag aq ak))))
   (ao (aH (i:=8) iR.nd rfl (abf rfl) (aC [] (bE T) (hr.mono (by decide)) (by rfl) T.bN T.au.kp T.bO .nil (λ_ _ _=>.nil) (ag (ah 5 (pv 5)) (ag (aQ bf dz (by rfl) T.dN dm (ag (ah 3 (pv 3)) ak)) ak))))
   (ao (mn (aC [] (lV T) (hr.mono (by decide)) (by rfl) T.nF T.cm.kp T.nG .nil (λ_ _ _=>.nil) (ag (ah 5 (pv 5)) (ag (aC [] (rC T) (hr.mono (by decide)) (by rfl) T.sL T.cE.kp T.sM .nil (λ_ _ _=>.nil) (ag (ah 5 (pv 5)) (ag (aF (ah 3 (pv 3)) (ah 8 (pv 8)) (λ_ _=>rfl)) ak))) ak))) (xD (ah 1 (pv 1)) (aF (ah 2 (pv 2)) (ah 8 (pv 8)) (λ_ _=>rfl))))
   (ao (ck (PW.pt (g_ (aO oG oM (aD bh bG (ah 8 (pv 8)) aq) (aQ bf dz (by rfl) T.dN dm (ag (ah 3 (pv 3)) ak)) (aR _)) (iD (aO (bZ hr.units) cZ (aC [] (bE T) (hr.mono (by decide)) (by rfl) T.bN T.au.kp T.bO .nil (λ_ _ _=>.nil) (ag (ah 5 (pv 5)) (ag aq ak))) aq (aR _))))) (ao (aH (i:=9) iR.nd rfl (abf rfl) (aD bh bG (aD bh bG (ah 8 (pv 8)) aq) (aC [] (bE T) (hr.mono (by decide)) (by rfl) T.bN T.au.kp T.bO .nil (λ_ _ _=>.nil) (ag (ah 5 (pv 5)) (ag (aD ma ml (aD ma ml (aQ bf dz (by rfl) T.dN dm (ag (ah 3 (pv 3)) ak)) (ah 8 (pv 8))) aq) ak)))))
   (ay (mn (aC [] (lV T) (hr.mono (by decide)) (by rfl) T.nF T.cm.kp T.nG .nil (λ_ _ _=>.nil) (ag (ah 5 (pv 5)) (ag (aC [] (rC T) (hr.mono (by decide)) (by rfl) T.sL T.cE.kp T.sM .nil (λ_ _ _=>.nil) (ag (ah 5 (pv 5)) (ag (aF (ah 3 (pv 3)) (ah 9 (pv 9)) (λ_ _=>rfl)) ak))) ak))) (xD (ah 1 (pv 1)) (aF (ah 2 (pv 2)) (ah 9 (pv 9)) (λ_ _=>rfl)))))) bo)
   (ao (aH (i:=10) iR.nd rfl (abf rfl) (Dq (ah 1 (pv 1))))
   (ao (ck (PW.pt (mT (aO (iP hr.units) kg (aC [] (rD T) (hr.mono (by decide)) (by rfl) T.sN T.du.kp T.sO .nil (λ_ _ _=>.nil) (ag (ah 10 (pv 10)) ak)) (aD bh bG (aF (ah 2 (pv 2)) (ah 8 (pv 8)) (λ_ _=>rfl)) aq) (aR _)) (mm (aO (iP hr.units) kg (aC [] (rD T) (hr.mono (by decide)) (by rfl) T.sN T.du.kp T.sO .nil (λ_ _ _=>.nil) (ag (ah 10 (pv 10)) ak)) (aD bh bG (aF (ah 2 (pv 2)) (ah 8 (pv 8)) (λ_ _=>rfl)) aq) (aR _))))) (ay (aT Lu)) bo)
   (ay (aT (uG (bZ hr.units) cZ (aQ bf dz (by rfl) T.dN dm (ag (AH (nI T) (hr.mono (by decide)) (by rfl) T.pK T.bJ.kp T.pL (ag (ah 7 (pv 7)) ak)) ak)) (aQ bf dz (by rfl) T.dN dm (ag (ah 3 (pv 3)) ak)) (aR _))))))))))))))))
end
theorem Q9{K:aaa}{h:Heap}{mg:Str->Option Value}(X:K.In h)(G:h.Ns aaA mg)
  {sx GC GD JP GF GG GH JQ JR JS zJ:Addr}
  {g1:Addr}{acD acE:Option Addr}{acF:Array (Option Value)}{acG acH acI acJ SH acK:Value}
  {g2:Addr}{acL acM:Option Addr}{acN:Array (Option Value)}{acO acP acQ acR SI acS:Value}
  {g4:Addr}{acT acU:Option Addr}{acV:Array (Option Value)}{acW acX acY acZ SJ ac0:Value}
  {g5:Addr}{ac1 ac2:Option Addr}{ac3:Array (Option Value)}{ac4 ac5 ac6 ac7 SK ac8:Value}
  {g6:Addr}{ac9 ac_:Option Addr}{ada:Array (Option Value)}{adb ade adf adg SM adh:Value}
  {zt:Addr}{Wv Ww:Option Addr}{Wx:Array (Option Value)}{Wy Wz WA WB NG WC:Value}
  {f0:Addr}{od0 an0:Option Addr}{FQ:Array (Option Value)}{oc0 kV0 dc0 pm0 cd0 ct0:Value}
  {f1:Addr}{od1 WD:Option Addr}{sl1:Array (Option Value)}{oc1 WE WG WH Q_ WI:Value}
  {Ra:Addr}{tc1:Value}{adj:Option Addr}{tn1:Nat}{WJ:Tok}{adk:Array (Option Value)}
  {f2:Addr}{od2 an2:Option Addr}{Oq:Array (Option Value)}{oc2 kV2 dc2 pm2 cd2 ct2:Value}
  {f3:Addr}{od3 an3:Option Addr}{sl3:Array (Option Value)}{oc3 kV3 dc3 pm3 cd3 ct3:Value}
  {f4:Addr}{od4 an4:Option Addr}{sl4:Array (Option Value)}{oc4 kV4 dc4 pm4 cd4 ct4:Value}
  {f5:Addr}{od5 an5:Option Addr}{sl5:Array (Option Value)}{oc5 kV5 dc5 pm5 cd5 ct5:Value}
  {f6:Addr}{od6 an6:Option Addr}{Q3:Array (Option Value)}{oc6 kV6 dc6 pm6 cd6 ct6:Value}
  {f7:Addr}{od7 an7:Option Addr}{sl7:Array (Option Value)}{oc7 kV7 dc7 pm7 cd7 ct7:Value}
  {f8:Addr}{od8 an8:Option Addr}{sl8:Array (Option Value)}{oc8 kV8 dc8 pm8 cd8 ct8:Value}
  {f9:Addr}{od9 an9:Option Addr}{sl9:Array (Option Value)}{oc9 kV9 dc9 pm9 cd9 ct9:Value}
  {Rb:Addr}{adu adv:Option Addr}{adw:Array (Option Value)}{adx ady adz adA SN adB:Value}
  {Rc:Addr}{adC adD:Option Addr}{adE:Array (Option Value)}{adF adG adH adI SO adJ:Value}
  {Rf:Addr}{adK adL:Option Addr}{adM:Array (Option Value)}{adN adO adP adQ SR adR:Value}
  {Rg:Addr}{adS adT:Option Addr}{adU:Array (Option Value)}{adV adW adX adY SS adZ:Value}
  {Rh:Addr}{ad0 ad1:Option Addr}{ad2:Array (Option Value)}{ad3 ad4 ad5 ad6 SU ad7:Value}
  {Ri:Addr}{ad8 ad9:Option Addr}{ad_:Array (Option Value)}{aea aeb aec aed SV aee:Value}
  {Rj:Addr}{aef aeg:Option Addr}{aeh:Array (Option Value)}{aei aej aek ael SW aem:Value}
  {Rk:Addr}{aen aeo:Option Addr}{aep:Array (Option Value)}{aeq aer aes aet SY aeu:Value}
  {Rl:Addr}{aev aew:Option Addr}{aex:Array (Option Value)}{aey aez aeA aeB S0 aeC:Value}
  {Rm:Addr}{aeD aeE:Option Addr}{aeF:Array (Option Value)}{aeG aeH aeI aeJ S3 aeK:Value}
  {Rn:Addr}{aeL aeM:Option Addr}{aeN:Array (Option Value)}{aeO aeP aeQ aeR S7 aeS:Value}
  {Ro:Addr}{aeT aeU:Option Addr}{aeV:Array (Option Value)}{aeW aeX aeY aeZ S8 ae0:Value}
  {Rp:Addr}{ae1 ae2:Option Addr}{ae3:Array (Option Value)}{ae4 ae5 ae6 ae7 S9 ae8:Value}
  {Rq:Addr}{ae9 ae_:Option Addr}{afa:Array (Option Value)}{afb afc afd afe S_ aff:Value}
  {Rr:Addr}{afg afh:Option Addr}{afi:Array (Option Value)}{afj afk afl afm Ta afn:Value}
  {Rt:Addr}{afo afp:Option Addr}{afq:Array (Option Value)}{afr afs aft afu Tb afv:Value}
  {Ru:Addr}{afw afx:Option Addr}{afy:Array (Option Value)}{afz afA afB afC Tc afD:Value}
  {Rv:Addr}{afE afF:Option Addr}{afG:Array (Option Value)}{afH afI afJ afK Td afL:Value}
  {Rw:Addr}{afM afN:Option Addr}{afO:Array (Option Value)}{afP afQ afR afS Te afT:Value}
  {Rx:Addr}{afU afV:Option Addr}{afW:Array (Option Value)}{afX afY afZ af0 Tf af1:Value}
  {Ry:Addr}{af2 af3:Option Addr}{af4:Array (Option Value)}{af5 af6 af7 af8 Tg af9:Value}
  {Rz:Addr}{af_ aga:Option Addr}{agb:Array (Option Value)}{agc agd age agf Th agg:Value}
  {RB:Addr}{agh agi:Option Addr}{agj:Array (Option Value)}{agk agl agm agn Ti ago:Value}
  (a0:aaB K aaA "divisor" =aa (aa (.ref f0)))
  (l0:K.lookup f0=aa ⟨oc0,od0,.func (aa2 "divisor" "divisor" (aW (top 13)) (aS (top 13)) (ar (top 13)) .none kV0 dc0 pm0 an0 cd0 ct0),FQ⟩)
  (c0:aaM K cd0 "divisor" =true)(k0:aaJ K (.ref f0)=true)
  (a1:aaB K aaA "number" =aa (aa (.ref f1)))
  (l1:K.lookup f1=aa ⟨oc1,od1,.func (aa2 "number" "number" (aW (top 14)) (aS (top 14)) (ar (top 14)) (.ref Ra) WE WG WH WD Q_ WI),sl1⟩)
  (c1:aaM K Q_ "number" =true)(k1:aaJ K (.ref f1)=true)
  (RC:K.lookup Ra=aa ⟨tc1,adj,.seq #[ah4 1 WJ] tn1,adk⟩)
  (a2:aaB K aaA "figures" =aa (aa (.ref f2)))
  (l2:K.lookup f2=aa ⟨oc2,od2,.func (aa2 "figures" "figures" (aW (top 15)) (aS (top 15)) (ar (top 15)) .none kV2 dc2 pm2 an2 cd2 ct2),Oq⟩)
  (c2:aaM K cd2 "figures" =true)(k2:aaJ K (.ref f2)=true)
  (a3:aaB K aaA "number_text" =aa (aa (.ref f3)))
  (l3:K.lookup f3=aa ⟨oc3,od3,.func (aa2 "number_text" "number_text" (aW (top 16)) (aS (top 16)) (ar (top 16)) .none kV3 dc3 pm3 an3 cd3 ct3),sl3⟩)
  (c3:aaM K cd3 "number_text" =true)(k3:aaJ K (.ref f3)=true)
  (a4:aaB K aaA "is_made_of" =aa (aa (.ref f4)))
  (l4:K.lookup f4=aa ⟨oc4,od4,.func (aa2 "is_made_of" "is_made_of" (aW (top 20)) (aS (top 20)) (ar (top 20)) .none kV4 dc4 pm4 an4 cd4 ct4),sl4⟩)
  (c4:aaM K cd4 "is_made_of" =true)(k4:aaJ K (.ref f4)=true)
  (a5:aaB K aaA "is_word" =aa (aa (.ref f5)))
  (l5:K.lookup f5=aa ⟨oc5,od5,.func (aa2 "is_word" "is_word" (aW (top 21)) (aS (top 21)) (ar (top 21)) .none kV5 dc5 pm5 an5 cd5 ct5),sl5⟩)
  (c5:aaM K cd5 "is_word" =true)(k5:aaJ K (.ref f5)=true)
  (a6:aaB K aaA "read_number" =aa (aa (.ref f6)))
  (l6:K.lookup f6=aa ⟨oc6,od6,.func (aa2 "read_number" "read_number" (aW (top 22)) (aS (top 22)) (ar (top 22)) .none kV6 dc6 pm6 an6 cd6 ct6),Q3⟩)
  (c6:aaM K cd6 "read_number" =true)(k6:aaJ K (.ref f6)=true)
  (a7:aaB K aaA "words_of" =aa (aa (.ref f7)))
  (l7:K.lookup f7=aa ⟨oc7,od7,.func (aa2 "words_of" "words_of" (aW (top 25)) (aS (top 25)) (ar (top 25)) .none kV7 dc7 pm7 an7 cd7 ct7),sl7⟩)
  (c7:aaM K cd7 "words_of" =true)(k7:aaJ K (.ref f7)=true)
  (a8:aaB K aaA "parted_by" =aa (aa (.ref f8)))
  (l8:K.lookup f8=aa ⟨oc8,od8,.func (aa2 "parted_by" "parted_by" (aW (top 26)) (aS (top 26)) (ar (top 26)) .none kV8 dc8 pm8 an8 cd8 ct8),sl8⟩)
  (c8:aaM K cd8 "parted_by" =true)(k8:aaJ K (.ref f8)=true)
  (a9:aaB K aaA "put_together" =aa (aa (.ref f9)))
  (l9:K.lookup f9=aa ⟨oc9,od9,.func (aa2 "put_together" "put_together" (aW (top 27)) (aS (top 27)) (ar (top 27)) .none kV9 dc9 pm9 an9 cd9 ct9),sl9⟩)
  (c9:aaM K cd9 "put_together" =true)(k9:aaJ K (.ref f9)=true)
  (WK:aaB K aaA "is_free_word" =aa (aa (.ref Rb)))
  (WL:K.lookup Rb=aa ⟨adx,adu,.func (aa2 "is_free_word" "is_free_word" (aW (top 28)) (aS (top 28)) (ar (top 28)) .none ady adz adA adv SN adB),adw⟩)
  (WM:aaM K SN "is_free_word" =true)(WN:aaJ K (.ref Rb)=true)
  (WO:aaB K aaA "read_bare_thing" =aa (aa (.ref Rc)))
  (WQ:K.lookup Rc=aa ⟨adF,adC,.func (aa2 "read_bare_thing" "read_bare_thing" (aW (top 29)) (aS (top 29)) (ar (top 29)) .none adG adH adI adD SO adJ),adE⟩)
  (WR:aaM K SO "read_bare_thing" =true)(WS:aaJ K (.ref Rc)=true)
  (WT:aaB K aaA "read_thing" =aa (aa (.ref Rf)))
  (WU:K.lookup Rf=aa ⟨adN,adK,.func (aa2 "read_thing" "read_thing" (aW (top 30)) (aS (top 30)) (ar (top 30)) .none adO adP adQ adL SR adR),adM⟩)
  (WV:aaM K SR "read_thing" =true)(JF:aaJ K (.ref Rf)=true)
  (WW:aaB K aaA "read_part" =aa (aa (.ref Rg)))
  (WX:K.lookup Rg=aa ⟨adV,adS,.func (aa2 "read_part" "read_part" (aW (top 31)) (aS (top 31)) (ar (top 31)) .none adW adX adY adT SS adZ),adU⟩)
  (WY:aaM K SS "read_part" =true)(WZ:aaJ K (.ref Rg)=true)
  (W2:aaB K aaA "read_parts" =aa (aa (.ref Rh)))
  (W3:K.lookup Rh=aa ⟨ad3,ad0,.func (aa2 "read_parts" "read_parts" (aW (top 32)) (aS (top 32)) (ar (top 32)) .none ad4 ad5 ad6 ad1 SU ad7),ad2⟩)
  (W4:aaM K SU "read_parts" =true)(W5:aaJ K (.ref Rh)=true)
  (W6:aaB K aaA "read_condition" =aa (aa (.ref Ri)))
  (W7:K.lookup Ri=aa ⟨aea,ad8,.func (aa2 "read_condition" "read_condition" (aW (top 33)) (aS (top 33)) (ar (top 33)) .none aeb aec aed ad9 SV aee),ad_⟩)
  (W8:aaM K SV "read_condition" =true)(W9:aaJ K (.ref Ri)=true)
  (W_:aaB K aaA "read_rule" =aa (aa (.ref Rj)))
  (Xa:K.lookup Rj=aa ⟨aei,aef,.func (aa2 "read_rule" "read_rule" (aW (top 34)) (aS (top 34)) (ar (top 34)) .none aej aek ael aeg SW aem),aeh⟩)
  (Xb:aaM K SW "read_rule" =true)(Xc:aaJ K (.ref Rj)=true)
  (Xd:aaB K aaA "read_book" =aa (aa (.ref Rk)))
  (Xe:K.lookup Rk=aa ⟨aeq,aen,.func (aa2 "read_book" "read_book" (aW (top 35)) (aS (top 35)) (ar (top 35)) .none aer aes aet aeo SY aeu),aep⟩)
  (Xf:aaM K SY "read_book" =true)(Xg:aaJ K (.ref Rk)=true)
  (Xh:aaB K aaA "_law_cell_at" =aa (aa (.ref Rl)))
  (Xi:K.lookup Rl=aa ⟨aey,aev,.func (aa2 "_law_cell_at" "_law_cell_at" (aW (top 37)) (aS (top 37)) (ar (top 37)) .none aez aeA aeB aew S0 aeC),aex⟩)
  (Xj:aaM K S0 "_law_cell_at" =true)(Xk:aaJ K (.ref Rl)=true)
  (Xl:aaB K aaA "_law_take" =aa (aa (.ref Rm)))
  (Xm:K.lookup Rm=aa ⟨aeG,aeD,.func (aa2 "_law_take" "_law_take" (aW (top 38)) (aS (top 38)) (ar (top 38)) .none aeH aeI aeJ aeE S3 aeK),aeF⟩)
  (Xn:aaM K S3 "_law_take" =true)(Xo:aaJ K (.ref Rm)=true)
  (Xp:aaB K aaA "_law_left" =aa (aa (.ref Rn)))
  (Xq:K.lookup Rn=aa ⟨aeO,aeL,.func (aa2 "_law_left" "_law_left" (aW (top 39)) (aS (top 39)) (ar (top 39)) .none aeP aeQ aeR aeM S7 aeS),aeN⟩)
  (Np:aaM K S7 "_law_left" =true)(Xr:aaJ K (.ref Rn)=true)
  (Xs:aaB K aaA "_law_word" =aa (aa (.ref Ro)))
  (Xu:K.lookup Ro=aa ⟨aeW,aeT,.func (aa2 "_law_word" "_law_word" (aW (top 40)) (aS (top 40)) (ar (top 40)) .none aeX aeY aeZ aeU S8 ae0),aeV⟩)
  (QR:aaM K S8 "_law_word" =true)(Xv:aaJ K (.ref Ro)=true)
  (Xw:aaB K aaA "_law_thing" =aa (aa (.ref Rp)))
  (Xx:K.lookup Rp=aa ⟨ae4,ae1,.func (aa2 "_law_thing" "_law_thing" (aW (top 41)) (aS (top 41)) (ar (top 41)) .none ae5 ae6 ae7 ae2 S9 ae8),ae3⟩)
  (Xy:aaM K S9 "_law_thing" =true)(Xz:aaJ K (.ref Rp)=true)
  (XB:aaB K aaA "_law_built" =aa (aa (.ref Rq)))
  (XD:K.lookup Rq=aa ⟨afb,ae9,.func (aa2 "_law_built" "_law_built" (aW (top 42)) (aS (top 42)) (ar (top 42)) .none afc afd afe ae_ S_ aff),afa⟩)
  (XF:aaM K S_ "_law_built" =true)(XH:aaJ K (.ref Rq)=true)
  (XJ:aaB K aaA "_law_lowest" =aa (aa (.ref Rr)))
  (XM:K.lookup Rr=aa ⟨afj,afg,.func (aa2 "_law_lowest" "_law_lowest" (aW (top 43)) (aS (top 43)) (ar (top 43)) .none afk afl afm afh Ta afn),afi⟩)
  (XN:aaM K Ta "_law_lowest" =true)(XQ:aaJ K (.ref Rr)=true)
  (XR:aaB K aaA "_law_worth" =aa (aa (.ref Rt)))
  (XU:K.lookup Rt=aa ⟨afr,afo,.func (aa2 "_law_worth" "_law_worth" (aW (top 44)) (aS (top 44)) (ar (top 44)) .none afs aft afu afp Tb afv),afq⟩)
  (XW:aaM K Tb "_law_worth" =true)(XX:aaJ K (.ref Rt)=true)
  (XY:aaB K aaA "_law_worth_text" =aa (aa (.ref Ru)))
  (XZ:K.lookup Ru=aa ⟨afz,afw,.func (aa2 "_law_worth_text" "_law_worth_text" (aW (top 45)) (aS (top 45)) (ar (top 45)) .none afA afB afC afx Tc afD),afy⟩)
  (X0:aaM K Tc "_law_worth_text" =true)(X2:aaJ K (.ref Ru)=true)
  (X3:aaB K aaA "_law_spaced" =aa (aa (.ref Rv)))
  (X4:K.lookup Rv=aa ⟨afH,afE,.func (aa2 "_law_spaced" "_law_spaced" (aW (top 46)) (aS (top 46)) (ar (top 46)) .none afI afJ afK afF Td afL),afG⟩)
  (X5:aaM K Td "_law_spaced" =true)(X6:aaJ K (.ref Rv)=true)
  (X7:aaB K aaA "_law_sort" =aa (aa (.ref Rw)))
  (X8:K.lookup Rw=aa ⟨afP,afM,.func (aa2 "_law_sort" "_law_sort" (aW (top 47)) (aS (top 47)) (ar (top 47)) .none afQ afR afS afN Te afT),afO⟩)
  (X9:aaM K Te "_law_sort" =true)(X_:aaJ K (.ref Rw)=true)
  (Yb:aaB K aaA "_law_put" =aa (aa (.ref Rx)))
  (Yc:K.lookup Rx=aa ⟨afX,afU,.func (aa2 "_law_put" "_law_put" (aW (top 48)) (aS (top 48)) (ar (top 48)) .none afY afZ af0 afV Tf af1),afW⟩)
  (Yd:aaM K Tf "_law_put" =true)(Ye:aaJ K (.ref Rx)=true)
  (Yg:aaB K aaA "_law_spoilt" =aa (aa (.ref Ry)))
  (Yh:K.lookup Ry=aa ⟨af5,af2,.func (aa2 "_law_spoilt" "_law_spoilt" (aW (top 49)) (aS (top 49)) (ar (top 49)) .none af6 af7 af8 af3 Tg af9),af4⟩)
  (Yi:aaM K Tg "_law_spoilt" =true)(Yj:aaJ K (.ref Ry)=true)
  (Yk:aaB K aaA "_law_row_of" =aa (aa (.ref Rz)))
  (Yl:K.lookup Rz=aa ⟨agc,af_,.func (aa2 "_law_row_of" "_law_row_of" (aW (top 50)) (aS (top 50)) (ar (top 50)) .none agd age agf aga Th agg),agb⟩)
  (Ym:aaM K Th "_law_row_of" =true)(Yn:aaJ K (.ref Rz)=true)
  (Yo:aaB K aaA "law" =aa (aa (.ref RB)))
  (Yp:K.lookup RB=aa ⟨agk,agh,.func (aa2 "law" "law" (aW (top 51)) (aS (top 51)) (ar (top 51)) .none agl agm agn agi Ti ago),agj⟩)
  (Yq:aaM K Ti "law" =true)(Yr:aaJ K (.ref RB)=true)
  (iL:aaB K aaA "ValueError" =aa ae)
  (rq:aaB K aaA "abs" =aa ae)
  (zB:aaB K aaA "all" =aa ae)
  (zC:aaB K aaA "any" =aa ae)
  (vn:aaB K aaA "bool" =aa ae)
  (jy:aaB K aaA "enumerate" =aa ae)
  (ko:aaB K aaA "int" =aa ae)
  (bD:aaB K aaA "isinstance" =aa ae)
  (dN:aaB K aaA "len" =aa ae)
  (vo:aaB K aaA "list" =aa ae)
  (zD:aaB K aaA "max" =aa ae)
  (zE:aaB K aaA "min" =aa ae)
  (gZ:aaB K aaA "range" =aa ae)
  (kd:aaB K aaA "reversed" =aa ae)
  (pM:aaB K aaA "str" =aa ae)
  (rz:aaB K aaA "tuple" =aa ae)
  (Ys:am5 K (.ref sx) (.type "BaseException")=aa true)
  (Yt:aaB K aaA "SheetError" =aa (aa (.ref sx)))
  (Yu:agK K (.ref sx)=aa (.type "type"))(Yv:(agZ K sx).isSome=true)
  (Yw:aaB K aaA "BadFace" =aa (aa (.ref GC)))
  (Yx:agK K (.ref GC)=aa (.type "type"))(Yy:(agZ K GC).isSome=true)
  (gi1:ahn K (.ref GC) "__init__" =aa (aa (.ref g1)))
  (Yz:K.lookup g1=aa ⟨acG,acD,.func (aa2 "__init__" "BadFace.__init__" (aW (iT (top 2))) (aS (iT (top 2))) (ar (iT (top 2))) .none acH acI acJ acE SH acK),acF⟩)
  (YA:aaM K SH "BadFace.__init__" =true)(YB:aaJ K (.ref g1)=true)(YC:gL K GC sx (aa g1) ["face"]=true)
  (YD:aaB K aaA "Twice" =aa (aa (.ref GD)))
  (YE:agK K (.ref GD)=aa (.type "type"))(YF:(agZ K GD).isSome=true)
  (gi2:ahn K (.ref GD) "__init__" =aa (aa (.ref g2)))
  (YG:K.lookup g2=aa ⟨acO,acL,.func (aa2 "__init__" "Twice.__init__" (aW (iT (top 3))) (aS (iT (top 3))) (ar (iT (top 3))) .none acP acQ acR acM SI acS),acN⟩)
  (YH:aaM K SI "Twice.__init__" =true)(YI:aaJ K (.ref g2)=true)(YJ:gL K GD sx (aa g2) ["one","other"]=true)
  (YK:aaB K aaA "NoLand" =aa (aa (.ref JP)))
  (YL:agK K (.ref JP)=aa (.type "type"))(YM:(agZ K JP).isSome=true)
  (YN:gL K JP sx ae []=true)
  (YO:aaB K aaA "NoText" =aa (aa (.ref GF)))
  (YQ:agK K (.ref GF)=aa (.type "type"))(YR:(agZ K GF).isSome=true)
  (gi4:ahn K (.ref GF) "__init__" =aa (aa (.ref g4)))
  (YS:K.lookup g4=aa ⟨acW,acT,.func (aa2 "__init__" "NoText.__init__" (aW (iT (top 5))) (aS (iT (top 5))) (ar (iT (top 5))) .none acX acY acZ acU SJ ac0),acV⟩)
  (YT:aaM K SJ "NoText.__init__" =true)(YU:aaJ K (.ref g4)=true)(YV:gL K GF sx (aa g4) ["line"]=true)
  (YW:aaB K aaA "NoPile" =aa (aa (.ref GG)))
  (YX:agK K (.ref GG)=aa (.type "type"))(YY:(agZ K GG).isSome=true)
  (gi5:ahn K (.ref GG) "__init__" =aa (aa (.ref g5)))
  (YZ:K.lookup g5=aa ⟨ac4,ac1,.func (aa2 "__init__" "NoPile.__init__" (aW (iT (top 6))) (aS (iT (top 6))) (ar (iT (top 6))) .none ac5 ac6 ac7 ac2 SK ac8),ac3⟩)
  (Y0:aaM K SK "NoPile.__init__" =true)(Y1:aaJ K (.ref g5)=true)(Y2:gL K GG sx (aa g5) ["one","other"]=true)
  (Y3:aaB K aaA "NoRule" =aa (aa (.ref GH)))
  (Y4:agK K (.ref GH)=aa (.type "type"))(Y5:(agZ K GH).isSome=true)
  (gi6:ahn K (.ref GH) "__init__" =aa (aa (.ref g6)))
  (Y6:K.lookup g6=aa ⟨adb,ac9,.func (aa2 "__init__" "NoRule.__init__" (aW (iT (top 7))) (aS (iT (top 7))) (ar (iT (top 7))) .none ade adf adg ac_ SM adh),ada⟩)
  (Y7:aaM K SM "NoRule.__init__" =true)(Y8:aaJ K (.ref g6)=true)(Y9:gL K GH sx (aa g6) ["row"]=true)
  (Y_:aaB K aaA "NoPath" =aa (aa (.ref JQ)))
  (Za:agK K (.ref JQ)=aa (.type "type"))(Zb:(agZ K JQ).isSome=true)
  (Zc:gL K JQ sx ae []=true)
  (Zd:aaB K aaA "NoJoin" =aa (aa (.ref JR)))
  (Ze:agK K (.ref JR)=aa (.type "type"))(Zf:(agZ K JR).isSome=true)
  (Zg:gL K JR sx ae []=true)
  (Zh:aaB K aaA "NoRow" =aa (aa (.ref JS)))
  (Zi:agK K (.ref JS)=aa (.type "type"))(Zj:(agZ K JS).isSome=true)
  (Zk:gL K JS sx ae []=true)
  (NH:aaB K aaA "NoName" =aa (aa (.ref zJ)))
  (NI:agK K (.ref zJ)=aa (.type "type"))(NJ:(agZ K zJ).isSome=true)
  (Tj:ahn K (.ref zJ) "__init__" =aa (aa (.ref zt)))
  (NK:K.lookup zt=aa ⟨Wy,Wv,.func (aa2 "__init__" "NoName.__init__" (aW (iT (top 11))) (aS (iT (top 11))) (ar (iT (top 11))) .none Wz WA WB Ww NG WC),Wx⟩)
  (NL:aaM K NG "NoName.__init__" =true)(NM:aaJ K (.ref zt)=true)(NO:gL K zJ sx (aa zt) ["name"]=true)
  (nd: [sx,GC,GD,JP,GF,GG,GH,JQ,JR,JS,zJ].Nodup)
  {pe:Tok}(lS:aaB K aaA "LETTERS" =aa (aa (.str "abcdefghijklmnopqrstuvwxyz" pe)))
  {pf:Tok}(jN:aaB K aaA "FIGURES" =aa (aa (.str "0123456789" pf)))
  {gD:Addr}(iK:aaB K aaA "KEPT_WORDS" =aa (aa (.ref gD)))
  {zK zL zM zN:Tok}{Af:Option Addr}{Ag:Nat}{zO:Array (Option Value)}(nJ:K.lookup gD=aa ⟨.type "tuple",Af,.seq #[.str "and" zK,.str "or" zL,.str "not" zM,.str "any" zN] Ag,zO⟩)
  :∃t,Txt K mg t/\(∀(s:aaj) (v:Value),alW s t.zu ⟨[v],[]⟩ [("_law_script",v)])/\Dr t.c:=by
 have G1:=bP (st:=iT (top 2)) Yz YA YB;have gb1:=G1.binds (ps:=["self","face"]) λ_ _ _ _ _ _ us hl=>match us,hl with|[_,_],_=>rfl
 have G2:=bP (st:=iT (top 3)) YG YH YI;have gb2:=G2.binds (ps:=["self","one","other"]) λ_ _ _ _ _ _ us hl=>match us,hl with|[_,_,_],_=>rfl
 have G4:=bP (st:=iT (top 5)) YS YT YU;have gb4:=G4.binds (ps:=["self","line"]) λ_ _ _ _ _ _ us hl=>match us,hl with|[_,_],_=>rfl
 have G5:=bP (st:=iT (top 6)) YZ Y0 Y1;have gb5:=G5.binds (ps:=["self","one","other"]) λ_ _ _ _ _ _ us hl=>match us,hl with|[_,_,_],_=>rfl
 have G6:=bP (st:=iT (top 7)) Y6 Y7 Y8;have gb6:=G6.binds (ps:=["self","row"]) λ_ _ _ _ _ _ us hl=>match us,hl with|[_,_],_=>rfl
 have G10:=bP (st:=iT (top 11)) NK NL NM;have agv:=G10.binds (ps:=["self","name"]) λ_ _ _ _ _ _ us hl=>match us,hl with|[_,_],_=>rfl
 have F0:=bP (st:=top 13) l0 c0 k0;have b0:=F0.binds (ps:=["n","m"]) λ_ _ _ _ _ _ us hl=>match us,hl with|[_,_],_=>rfl
 have F1:=Lb (st:=top 14) l1 c1 k1;have b1:Binds K (aa2 "number" "number" (aW (top 14)) (aS (top 14)) (ar (top 14)) (.ref Ra) WE WG WH WD Q_ WI) ["n","d"] []:=λs us Ba hl=>by
  obtain⟨_,_,rfl⟩:=Ug hl;exact alj rfl (Ba _ _ RC) rfl rfl rfl
 have e1:Binds K (aa2 "number" "number" (aW (top 14)) (aS (top 14)) (ar (top 14)) (.ref Ra) WE WG WH WD Q_ WI) ["n","d"] [ah4 1 WJ]:=λs us Ba hl=>by
  obtain⟨_,rfl⟩:=Z3 hl;exact alj rfl (Ba _ _ RC) rfl rfl rfl
 have F2:=bP (st:=top 15) l2 c2 k2;have b2:=F2.binds (ps:=["n"]) λ_ _ _ _ _ _ us hl=>match us,hl with|[_],_=>rfl
 have F3:=bP (st:=top 16) l3 c3 k3;have b3:=F3.binds (ps:=["a"]) λ_ _ _ _ _ _ us hl=>match us,hl with|[_],_=>rfl
 have F4:=bP (st:=top 20) l4 c4 k4;have b4:=F4.binds (ps:=["signs","text","most"]) λ_ _ _ _ _ _ us hl=>match us,hl with|[_,_,_],_=>rfl
 have F5:=bP (st:=top 21) l5 c5 k5;have b5:=F5.binds (ps:=["text"]) λ_ _ _ _ _ _ us hl=>match us,hl with|[_],_=>rfl
 have F6:=bP (st:=top 22) l6 c6 k6;have b6:=F6.binds (ps:=["text"]) λ_ _ _ _ _ _ us hl=>match us,hl with|[_],_=>rfl
 have F7:=bP (st:=top 25) l7 c7 k7;have b7:=F7.binds (ps:=["row"]) λ_ _ _ _ _ _ us hl=>match us,hl with|[_],_=>rfl
 have F8:=bP (st:=top 26) l8 c8 k8;have b8:=F8.binds (ps:=["word","some"]) λ_ _ _ _ _ _ us hl=>match us,hl with|[_,_],_=>rfl
 have F9:=bP (st:=top 27) l9 c9 k9;have b9:=F9.binds (ps:=["kind","some"]) λ_ _ _ _ _ _ us hl=>match us,hl with|[_,_],_=>rfl
 have F10:=bP (st:=top 28) WL WM WN;have b10:=F10.binds (ps:=["thing"]) λ_ _ _ _ _ _ us hl=>match us,hl with|[_],_=>rfl
 have F11:=bP (st:=top 29) WQ WR WS;have b11:=F11.binds (ps:=["some"]) λ_ _ _ _ _ _ us hl=>match us,hl with|[_],_=>rfl
 have F12:=bP (st:=top 30) WU WV JF;have b12:=F12.binds (ps:=["some"]) λ_ _ _ _ _ _ us hl=>match us,hl with|[_],_=>rfl
 have F13:=bP (st:=top 31) WX WY WZ;have b13:=F13.binds (ps:=["some"]) λ_ _ _ _ _ _ us hl=>match us,hl with|[_],_=>rfl
 have F14:=bP (st:=top 32) W3 W4 W5;have b14:=F14.binds (ps:=["some"]) λ_ _ _ _ _ _ us hl=>match us,hl with|[_],_=>rfl
 have F15:=bP (st:=top 33) W7 W8 W9;have b15:=F15.binds (ps:=["words"]) λ_ _ _ _ _ _ us hl=>match us,hl with|[_],_=>rfl
 have F16:=bP (st:=top 34) Xa Xb Xc;have b16:=F16.binds (ps:=["row"]) λ_ _ _ _ _ _ us hl=>match us,hl with|[_],_=>rfl
 have F17:=bP (st:=top 35) Xe Xf Xg;have b17:=F17.binds (ps:=["text"]) λ_ _ _ _ _ _ us hl=>match us,hl with|[_],_=>rfl
 have F18:=bP (st:=top 37) Xi Xj Xk;have b18:=F18.binds (ps:=["_law_script","_law_k"]) λ_ _ _ _ _ _ us hl=>match us,hl with|[_,_],_=>rfl
 have F19:=bP (st:=top 38) Xm Xn Xo;have b19:=F19.binds (ps:=["_law_left_here","_law_many"]) λ_ _ _ _ _ _ us hl=>match us,hl with|[_,_],_=>rfl
 have F20:=bP (st:=top 39) Xq Np Xr;have b20:=F20.binds (ps:=["_law_script","_law_k"]) λ_ _ _ _ _ _ us hl=>match us,hl with|[_,_],_=>rfl
 have F21:=bP (st:=top 40) Xu QR Xv;have b21:=F21.binds (ps:=["_law_left_here"]) λ_ _ _ _ _ _ us hl=>match us,hl with|[_],_=>rfl
 have F22:=bP (st:=top 41) Xx Xy Xz;have b22:=F22.binds (ps:=["_law_left_here","_law_words","_law_room"]) λ_ _ _ _ _ _ us hl=>match us,hl with|[_,_,_],_=>rfl
 have F23:=bP (st:=top 42) XD XF XH;have b23:=F23.binds (ps:=["_law_left_here","_law_words","_law_room","_law_word_here"]) λ_ _ _ _ _ _ us hl=>match us,hl with|[_,_,_,_],_=>rfl
 have F24:=bP (st:=top 43) XM XN XQ;have b24:=F24.binds (ps:=["_law_above","_law_below"]) λ_ _ _ _ _ _ us hl=>match us,hl with|[_,_],_=>rfl
 have F25:=bP (st:=top 44) XU XW XX;have b25:=F25.binds (ps:=["_law_left_here"]) λ_ _ _ _ _ _ us hl=>match us,hl with|[_],_=>rfl
 have F26:=bP (st:=top 45) XZ X0 X2;have b26:=F26.binds (ps:=["_law_pair"]) λ_ _ _ _ _ _ us hl=>match us,hl with|[_],_=>rfl
 have F27:=bP (st:=top 46) X4 X5 X6;have b27:=F27.binds (ps:=["_law_left_here","_law_some"]) λ_ _ _ _ _ _ us hl=>match us,hl with|[_,_],_=>rfl
 have F28:=bP (st:=top 47) X8 X9 X_;have b28:=F28.binds (ps:=["_law_e"]) λ_ _ _ _ _ _ us hl=>match us,hl with|[_],_=>rfl
 have F29:=bP (st:=top 48) Yc Yd Ye;have b29:=F29.binds (ps:=["_law_some","_law_at","_law_piece"]) λ_ _ _ _ _ _ us hl=>match us,hl with|[_,_,_],_=>rfl
 have F30:=bP (st:=top 49) Yh Yi Yj;have b30:=F30.binds (ps:=["_law_left_here","_law_some"]) λ_ _ _ _ _ _ us hl=>match us,hl with|[_,_],_=>rfl
 have F31:=bP (st:=top 50) Yl Ym Yn;have b31:=F31.binds (ps:=["_law_text"]) λ_ _ _ _ _ _ us hl=>match us,hl with|[_],_=>rfl
 have F32:=bP (st:=top 51) Yp Yq Yr;have b32:=F32.binds (ps:=["_law_script"]) λ_ _ _ _ _ _ us hl=>match us,hl with|[_],_=>rfl
 exact⟨⟨pe,pf,gD,λi=>[sx,GC,GD,JP,GF,GG,GH,JQ,JR,JS,zJ].getD i 0,g1,_,g2,_,g4,_,g5,_,g6,_,zt,_,f0,_,f1,_,WJ,f2,_,f3,_,f4,_,f5,_,f6,_,f7,_,f8,_,f9,_,Rb,_,Rc,_,Rf,_,Rg,_,Rh,_,Ri,_,Rj,_,Rk,_,Rl,_,Rm,_,Rn,_,Ro,_,Rp,_,Rq,_,Rr,_,Rt,_,Ru,_,Rv,_,Rw,_,Rx,_,Ry,_,Rz,_,RB,_⟩,⟨aaN X G lS,aaN X G jN,aaN X G iK,DA.mk_ nJ (.cons ⟨_,rfl⟩ (.cons ⟨_,rfl⟩ (.cons ⟨_,rfl⟩ (.cons ⟨_,rfl⟩ (.nil))))),Ys,aaN X G Yt,⟨Yu,Yv⟩,aaN X G Yw,⟨Yx,Yy⟩,YC,G1,gb1,aaN X G YD,⟨YE,YF⟩,YJ,G2,gb2,aaN X G YK,⟨YL,YM⟩,YN,aaN X G YO,⟨YQ,YR⟩,YV,G4,gb4,aaN X G YW,⟨YX,YY⟩,Y2,G5,gb5,aaN X G Y3,⟨Y4,Y5⟩,Y9,G6,gb6,aaN X G Y_,⟨Za,Zb⟩,Zc,aaN X G Zd,⟨Ze,Zf⟩,Zg,aaN X G Zh,⟨Zi,Zj⟩,Zk,aaN X G NH,⟨NI,NJ⟩,NO,G10,agv,F0,aaN X G a0,b0,F1,aaN X G a1,b1,e1,F2,aaN X G a2,b2,F3,aaN X G a3,b3,F4,aaN X G a4,b4,F5,aaN X G a5,b5,F6,aaN X G a6,b6,F7,aaN X G a7,b7,F8,aaN X G a8,b8,F9,aaN X G a9,b9,F10,aaN X G WK,b10,F11,aaN X G WO,b11,F12,aaN X G WT,b12,F13,aaN X G WW,b13,F14,aaN X G W2,b14,F15,aaN X G W6,b15,F16,aaN X G W_,b16,F17,aaN X G Xd,b17,F18,aaN X G Xh,b18,F19,aaN X G Xl,b19,F20,aaN X G Xp,b20,F21,aaN X G Xs,b21,F22,aaN X G Xw,b22,F23,aaN X G XB,b23,F24,aaN X G XJ,b24,F25,aaN X G XR,b25,F26,aaN X G XY,b26,F27,aaN X G X3,b27,F28,aaN X G X7,b28,F29,aaN X G Yb,b29,F30,aaN X G Yg,b30,F31,aaN X G Yk,b31,F32,aaN X G Yo,b32,abC X G iL,abC X G rq,abC X G zB,abC X G zC,abC X G vn,abC X G jy,abC X G ko,abC X G bD,abC X G dN,abC X G vo,abC X G zD,abC X G zE,abC X G gZ,abC X G kd,abC X G pM,abC X G rz⟩,λs v=>.of_eq rfl,Md nd⟩
theorem walk{l:amG}{q:Program}{loose:List Str}{XP:(Str->Option Value)->Heap->Prop}{YP:abZ->Heap->Prop}{d:DefRec}{K:Params->aaa}(hn:l.most=aa 63)(KS:d.params.defaults=[])
  (hY:∀(w:abZ) (h:Heap),YP w h->(K w.params).In h)
  (F:∀(w:abZ) (mg:Str->Option Value) (fa:Addr) (h:Heap),(K w.params).In h->h.Ns aaA mg->mg d.name=aa (.ref fa)->
   ∃fd:abd,(∀(s:aaj) (u:Value),alW s fd ⟨[u],[]⟩ [("_law_script",u)])/\∀base:Heap,(K w.params).In base->base.Ns aaA mg->bX l.prog w (K w.params) mg base d8 63 fa fd ["_law_script"] (spK (K w.params) qI)):
  am2 q loose XP YP l.row.toRowW d [] (λf vs=>amT f vs):=
 L2.KZ (n:=63) (k:=63) (x:="_law_script") (CX:=λ_=>d8) (sp:=λw=>spK (K w.params) qI) hn (by decide) KS ⟨rfl,by decide,by decide⟩ hY F (λ_ _ a ns hl hO hS κ xq=>let ⟨_,h⟩:=JL κ xq ns hl;O3 hO hS h) λ_ _ _ _ _ z=>z
end qf
open PySem PySem.W PyProof.Rows
set_option maxRecDepth 100000 in
set_option maxHeartbeats 0 in
theorem PySem.Challenge.cw_sheetlay_k46_books_refused_holds : PySem.Challenge.rw_sheetlay_k46_books_refused.Holds := by
 w_on;refine hTT ?_
 k_fill
 refine qf.walk (l:=PySem.Challenge.rw_sheetlay_k46_books_refused) rfl rfl (λw h Y=>PySem.W.kIn_of Y) ?F
 case F=>
  intro w mg fa h KX G KW;have TT:∃t,qf.Txt (L2.Z0 KX) mg t/\(∀(s:aaj) (v:Value),alW s t.zu ⟨[v],[]⟩ [("_law_script",v)])/\L2.Dr t.c:=by
   dsimp only[L2.Z0]
   refine' qf.Q9 KX G ?a0 ?l0 ?c0 ?k0 ?a1 ?l1 ?c1 ?k1 ?RC ?a2 ?l2 ?c2 ?k2 ?a3 ?l3 ?c3 ?k3 ?a4 ?l4 ?c4 ?k4 ?a5 ?l5 ?c5 ?k5 ?a6 ?l6 ?c6 ?k6 ?a7 ?l7 ?c7 ?k7 ?a8 ?l8 ?c8 ?k8 ?a9 ?l9 ?c9 ?k9 ?WK ?WL ?WM ?WN ?WO ?WQ ?WR ?WS ?WT ?WU ?WV ?JF ?WW ?WX ?WY ?WZ ?W2 ?W3 ?W4 ?W5 ?W6 ?W7 ?W8 ?W9 ?W_ ?Xa ?Xb ?Xc ?Xd ?Xe ?Xf ?Xg ?Xh ?Xi ?Xj ?Xk ?Xl ?Xm ?Xn ?Xo ?Xp ?Xq ?Np ?Xr ?Xs ?Xu ?QR ?Xv ?Xw ?Xx ?Xy ?Xz ?XB ?XD ?XF ?XH ?XJ ?XM ?XN ?XQ ?XR ?XU ?XW ?XX ?XY ?XZ ?X0 ?X2 ?X3 ?X4 ?X5 ?X6 ?X7 ?X8 ?X9 ?X_ ?Yb ?Yc ?Yd ?Ye ?Yg ?Yh ?Yi ?Yj ?Yk ?Yl ?Ym ?Yn ?Yo ?Yp ?Yq ?Yr ?iL ?rq ?zB ?zC ?vn ?jy ?ko ?bD ?dN ?vo ?zD ?zE ?gZ ?kd ?pM ?rz ?Ys ?Yt ?Yu ?Yv ?Yw ?Yx ?Yy ?gi1 ?Yz ?YA ?YB ?YC ?YD ?YE ?YF ?gi2 ?YG ?YH ?YI ?YJ ?YK ?YL ?YM ?YN ?YO ?YQ ?YR ?gi4 ?YS ?YT ?YU ?YV ?YW ?YX ?YY ?gi5 ?YZ ?Y0 ?Y1 ?Y2 ?Y3 ?Y4 ?Y5 ?gi6 ?Y6 ?Y7 ?Y8 ?Y9 ?Y_ ?Za ?Zb ?Zc ?Zd ?Ze ?Zf ?Zg ?Zh ?Zi ?Zj ?Zk ?NH ?NI ?NJ ?Tj ?NK ?NL ?NM ?NO ?nd ?lS ?jN ?iK ?nJ
   (case a0|l0|c0|k0|a1|l1|c1|k1|RC|a2|l2|c2|k2|a3|l3|c3|k3|a4|l4|c4|k4|a5|l5|c5|k5|a6|l6|c6|k6|a7|l7|c7|k7|a8|l8|c8|k8|a9|l9|c9|k9|WK|WL|WM|WN|WO|WQ|WR|WS|WT|WU|WV|JF|WW|WX|WY|WZ|W2|W3|W4|W5|W6|W7|W8|W9|W_|Xa|Xb|Xc|Xd|Xe|Xf|Xg|Xh|Xi|Xj|Xk|Xl|Xm|Xn|Xo|Xp|Xq|Np|Xr|Xs|Xu|QR|Xv|Xw|Xx|Xy|Xz|XB|XD|XF|XH|XJ|XM|XN|XQ|XR|XU|XW|XX|XY|XZ|X0|X2|X3|X4|X5|X6|X7|X8|X9|X_|Yb|Yc|Yd|Ye|Yg|Yh|Yi|Yj|Yk|Yl|Ym|Yn|Yo|Yp|Yq|Yr|iL|rq|zB|zC|vn|jy|ko|bD|dN|vo|zD|zE|gZ|kd|pM|rz|lS|jN|iK|nJ|Yt|Yw|gi1|Yz|YA|YB|YD|gi2|YG|YH|YI|YK|YO|gi4|YS|YT|YU|YW|gi5|YZ|Y0|Y1|Y3|gi6|Y6|Y7|Y8|Y_|Zd|Zh|NH|Tj|NK|NL|NM=>k_is)
   (case Yu|Yv|Yx|Yy|YC|YE|YF|YJ|YL|YM|YN|YQ|YR|YV|YX|YY|Y2|Y4|Y5|Y9|Za|Zb|Zc|Ze|Zf|Zg|Zi|Zj|Zk|NI|NJ|NO|Ys=>kernel_rfl)
   (case nd=>decide)
  obtain⟨t,T,hb,kf⟩:=TT;have e0:=KW.symm.trans T.Wu;cases e0;exact⟨_,hb,λbase _ _=>(qf.Q8 T).imp λ_ _ _ _ q=>q _ kf⟩
