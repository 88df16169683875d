import PyProof.Rows.All
import Open.SpecLaws
import KE.OsGo
import PySem.Challenge.RW_waterloops_s01_answers
set_option Elab.async false
set_option linter.all false
set_option maxRecDepth 100000
set_option maxHeartbeats 0
structure PySem.W.Fast:Prop where(tw17795944402094209028 tw9614339028574936533 tw3679186641252176416 tw15708269753752946179 tw15868869433034678319 tw16971539638897268018 tw7441932270268474167 tw17439032921991547150 tw4068365881384482089 tw917108832144188864 tw2662154107859840373 tw5013287437640201007 tw7772858101153708670 tw12008813951465501949 tw17778760924117716191 tw11106855016326471091 tw4437204417076728322 tw6416431436683006209 tw1768094171752368093 tw14707406287538651829 tw501504989266986830 tw10501019073295510497 tw10678529385493762434 tw1782388882741384573 tw1894857533264924768 tw9005969013108332204 tw12817686320444609942 tw9343408756634408818 tw3033222280174559128 tw3270603505109023277 tw821724182716868692 tw6351138537190352278 tw1119346523107503149 tw698244661649715951 tw17018173305362167162 tw6524720569659819547 tw11556745200435558373 tw3391821213654045528 tw16367193939441281568 tw9551889949789185827 tw1611731029310335039 tw16806818207031055643 tw5617636021176580957 tw3373008135785871985 tw3645108876836361380 tw17262300708719843581 tw12329288272962321432 tw15333527778140899173 tw5233477340262037230 tw6893403679340633266 tw3988369287230385230 tw6424818230604554788 tw6855786704311634675 tw2743575204681598638 tw10340166269540854472 tw15417944296220997805 tw16209126565679954866 tw7643893340509289571 tw13634863189043185651 tw13412836974367701279 tw10072572978040649850 tw16094945281940096928 tw13234671281123251955 tw5910963098097059635 tw15561838361618175925 tw15553353046903822422 tw18245633697723097445 tw12205315627717003164 tw16231288784425243706 tw13409012807553214384 tw858066678149172142 tw4278317736404137676 tw4607230748166241288 tw14436304445171497441 tw402817283217524225 tw3398840103361142997 tw11736000947103349263 tw7705255791575864429 tw1835385481979652139 tw2304889391218844421 tw4588274184690934088 tw7556535684918342170 tw3892891717314871997 tw8614353829427547786 tw16333729896989124974 tw3942077837404059210 tw2330314343263309925 tw6368398537149218159 tw14654430843766886488 tw3032907135540769853 tw1773872630964158322 tw11932321042451695654 tw2306872886715004923 tw10266424034775336696 tw293378707044057335 tw2872124182747072977 tw5106139410769402474 tw7532495712423799185 tw330143990544661167 tw9342920276043649739 tw17478628322462248734 tw13813121852897719688 tw4941120577196564724 tw9839294672873890898 tw14585376337603791324 tw15216641248543790025 tw3496072784162013991 tw13221832510383680851 tw17959422526827035777 tw859058743307098693 tw9768093258425519664 tw2444597022180618247 tw3846240163990712736 tw3023097765504313042 tw8540211394040277885 tw145710752423927920 tw9330208152717272131 tw16113994744724834243 tw1335729504553689681 tw1254856683719211638 tw8648382706230975636 tw336897596692638665 tw6538053175647009802 tw769416864033100002 tw1117610930564896588 tw16627103042069853898 tw15177779130811402781 tw15299907471521432304 tw13047878468724994421 tw1909443022123245 tw6747470285131663723 tw15349694850809197451 tw13368365436408460758 tw6304292186329181537 tw10905110902580344291 tw1175786216871330596 tw829343711469996355 tw14653132406858198131 tw6638170009990155028 tw10227441625878682483 tw2579149854106866370 tw15308715691683941463 tw7630549817981403567 tw4221521555810467163 tw222555537184708327 tw16190087706353359486 tw15102876984221617352 tw15869200752425428604 tw5178200395476381849 tw4639698634706930413 tw17930300249325332067 tw17601690369300666615 tw428085815630424634 tw8314390664261064593 tw13968589767849866495 tw13705919536531997006 tw16622660292208343090 tw7287540524179123291 tw6394494279984633410 tw18174102688395591474 tw3738114793877305556 tw15797939896720149765 tw16437304658187484710 tw14473204531806298787 tw10667706601745551310 tw230970590635573519 tw11446034817343633411 tw10104744914453579650 tw17225973583000567158 tw12579488807479210089 tw14361986130267069486 tw17254881375600926789 tw4092963132397475214 tw1355797817249335328 tw16501339466919835995 tw7106071486460390112 tw5756866060185945101 tw16488162841331337824 tw10270107255391794899 tw3556993876609461326 tw15481204473489517340 tw3682391737676019423 tw11312408588002573227 tw7556328404923164406 tw796690452847461129 tw4275592780808001105 tw2557407581822898423 tw3459876275453820186 tw9239900425611015497 tw18144240830290597042 tw3809538552377513521 tw14883552002014310496 tw6579500459313945028 tw16047961259879387802 tw7472859357793626265 tw12020178933516421129 tw5692542421143021126 tw8106672106361296541 tw5169714868929132597 tw3572038318757566915 tw15182082383186029976 tw6434832073718861665 tw3571478591887571264 tw2111648134141302725 tw6605250125441011607 tw9003467347579788858 tw6059246847505781665 tw10230384518039016491 tw10331545669386959223 tw4561686830353412901 tw6162723771789622731 tw17897809445175311797 tw10563521204455872405 tw10447284292882928968 tw16241911391981238316 tw413966548794189717 tw11261125923039621182 tw8802265115555019914 tw10575109257471870403 tw1329204342522204981 tw5547432959691526895 tw16875860962401466130 tw16520651796520916230 tw5729741465418853928 tw13577532955437108980 tw12605141736100320168 tw11947907950548946931 tw14609633928949245027 tw17552355669202440842 tw6070481842122879330 tw10069395624177694202 tw11680113427308739314 tw2669650173197246973 tw6570910742186864601 tw11239287761015424252 tw1682313840962992992 tw12455875385505206030 tw6593760540280438084 tw2580575823943084637 tw3826029632415457126 tw5603892354512972321 tw15542379351098431809 tw12613094752003682338 tw7642712477757046845 tw15192267570459122508 tw8271274134588845358 tw1978648455700103004 tw16239324759858977310 tw14931540745413201391 tw12045364202980618811 tw9383186032809172884 tw17430179998740294470 tw7469214569816330902 tw15087476987033426703 tw18338081223878148007 tw12350940672417047504 tw7402537367301505285 tw4628736951729598857 tw16403382373235389017 tw15240769558436400630 tw14102270103699370809 tw652784092280765494 tw4983732747739784876 tw10975292036662888814 tw14317861453505632298 tw16144931038684375298 tw807125904018385438 tw8476731410356940388 tw7464431730771275430 tw4626990252780980475 tw2419450042726425858 tw13380990605959356995 tw7266366369557124983 tw3605325286500540952 tw5227976344162985602 tw3696112545463649363 tw5607963442077861175 tw11433673656056231499 tw15936652285173914007 tw8540076543891013392 tw8951051429104655145 tw14875297553668811157 tw12525467897774386928 tw14112940027422630164 tw3048778618541492297 tw9877180611280958342 tw11473638832964278705 tw14720247832434463739 tw6282658801632499632 tw5754797798309022638 tw2494398292927467439 tw16636070273449921596 tw14829098680996361935 tw10702990599237886831 tw7226306508244608335 tw596025090171325853 tw7093554704339399514 tw5324437109883234707 tw18230207953345046408 tw17274310863157513011 tw13361795048508424352 tw9507179060482237670 tw6161060850040028149 tw2623189989593227081 tw4979853541203738312 tw15156393051924590883 tw6164349341143730522 tw2625728756252103751 tw9990212998042102428 tw5292618050175354233 tw5523062090704504329 tw14775568309520174541 tw15171850471616869198 tw17254546053746131653 tw17198658719330217961 tw2490744252849310973 tw1750677912908639046 tw13543456026112126362 tw1259976417367526480 tw13972900853595015975 tw17386156240695360459 tw2656038169153358545 tw10129617586019300177 tw6168623446930496657 tw5741139898828537829 tw11564058113410283530 tw4365126006336734183 tw1073692596718727066 tw4185708330572212740 tw10130577971005949696 tw15911140426907963674 tw1543731571266643316 tw9753665612100381581 tw11219999084449903838 tw3327438897342502254 tw17748230384318374996 tw7299752418301307219 tw7155249522783143927 tw5545527732386975130 tw2734612474727937502 tw18343066368828099788 tw15508824749312297230 tw10053491710266536849 tw6717163466197155038 tw204167542284243177 tw15440134784041393776 tw14724303774927773194 tw14680043375331963224 tw13850424579841383541 tw4118268835756460716 tw14853677831468710431 tw1491575705443936082 tw11936810706466573917 tw5844092586237092740 tw17686364856053987134 tw17327913599203498104 tw15081585936203952589 tw13378933084417560492 tw18287587368131126294 tw11454231487239348916 tw5932648154796028451 tw8484292214910747807 tw11773533800465813259 tw10227760477815153369 tw4490161870255695312 tw3949842986459052816 tw14005688498581737500 tw15341004854756361850 tw8821477432123224829 tw854351646738918682 tw7731291250948152665 tw7391504096163243580 tw7383711929450219728 tw6765367946418849380 tw6451654400307369850 tw4999040041314079076 tw489027180122052920 tw4368970244462241280 tw4302500240521723621 tw3820370188195975485 tw321280824362902047 tw3132661020156667522 tw2077519898900976706 tw17893267781999110499 tw17620335596727188947 tw17363023068837101897 tw16831591252729147446 tw16052787948945651147 tw15930683537131500001 tw14968118496443444043 tw14893350132385176265 tw13313148575890141952 tw12584906754686163039 tw12074254228736551145 tw1173532348242631423 tw1165179833308738660 tw11181939448135525121 tw10546743687708579116 tw10315656408252202767 tw3616612257710670981 tw17854295824487103375 tw14410810535277520581 tw9347989904808463984 tw8746352714134572546 tw5939723346781728032 tw4025792942698354345 tw18408054105765953671 tw13554393658423893877 tw11626497776301765128 tw10996466536016505478 tw10944771053365405067 tw17099589872210024480 tw1344784584993788225 tw14177009923810449401 tw12156319380845873585 tw8157792859821257483 tw5656230424330123870 tw6343591897694671206 tw16169592110278800390 tw8103053057577225835 tw15089839643049651923 tw16032336285820982099 tw9607016566831052250 tw1919774830866071929 tw15769013490162703354 tw7168714210011656615 tw10970099813347881127 tw6365994406721238955 tw14303446652052880992 tw13778352583700790400 tw9156763375866839935 tw6520472216456143494 tw5740348866481468952 tw10421566583614903846 tw16045216487593244643 tw3498825817113673198 tw7235546450381314012 tw17567672537430544558 tw8908361358095470575:True)
theorem Ws9:PySem.Challenge.rw_waterloops_s01_answers.wellSaid=true:=by decide +kernel
open Array renaming mem_toList_iff->O0,length_toList->N0
open Bool renaming true->ao,false->aw,false_ne_true->oT,noConfusion->qG,and_eq_true->qH,eq_iff_iff->xM,true_and->MC,false_eq_true->Xf,and_eq_true_iff->Xg,true_or->S0,false_or->Q0,false_and->P0
open Classical renaming byContradiction->Xe
open Decidable renaming decide->aT
open False renaming elim->mP
open ForInStep renaming yield->MB
open Iff renaming rfl->Eo
open Int renaming gcd->fJ,mul_pos->fQ,mul_ediv_cancel_left->wN,gcd_dvd_left->wO,dvd_trans->yM,toNat->A_,ofNat->Ba,ediv_nonneg->Bb,eq_ofNat_of_zero_le->En,ediv_pos_of_pos_of_dvd->Jj,dvd_refl->Jk,add_zero->Jl,one_mul->QK,natAbs_mul->QL,le_refl->QM,gcd_pos_of_ne_zero_right->QN,gcd_pos_of_ne_zero_left->QO,gcd_dvd_right->QP,toNat_of_nonneg->B1,mul_one->j1,mul_nonneg->Z0,emod_nonneg->Y0,emod_lt_of_pos->X0,emod_add_mul_ediv->W0,ediv_neg_of_neg_of_pos->V0,ediv_le_self->U0,dvd_mul_left->T0
open List renaming range->bP,length_map->cb,replicate->cg,mem_map->cJ,getElem?_eq_getElem->cK,mem_cons_of_mem->cO,getElem?_map->cV,mem_of_getElem?->eC,map_cons->eE,getElem?_eq_some_iff->eM,map_map->eS,map_append->eV,mem_cons->fq,foldl_cons->fO,of_mem_zip->gd,getD_eq_getElem?_getD->gO,mem_cons_self->gY,length_append->hU,getElem?_set_ne->hW,length_cons->ij,getElem_of_mem->iC,mem_range->jz,size_toArray->jZ,length_set->j',length_zip->kG,append_nil->kH,map_congr_left->lK,all_eq_true->mw,getElem?_set_self->mY,mem_append->nZ,map_set->n_,map_nil->oa,lookup_cons->oe,range'->pf,getElem_mem->ph,getD->qa,sum_cons->qW,nodup_cons->qX,lookup->qY,any_cons->qZ,foldl_append->rV,mem_filter->tr,range_succ->uG,length_range->uH,length->uI,foldl->uJ,flatMap_cons->uK,ext_getElem->uL,mem_append_right->wy,filter_cons->wz,append_assoc->wA,all_map->wB,map_drop->yq,getElem?_append_left->yr,ext_getElem?->yt,replicate_succ->Ay,mem_or_eq_of_mem_set->Az,mem_map_of_mem->AA,map_take->AB,length_take->AD,find?_cons->AE,all_cons->AF,take_length->DD,sum_append->DE,reverse_cons->DF,range'_succ->DG,nodup_nil->DH,getElem?_zip_eq_some->DI,getElem?_replicate->DJ,getElem?_eq_none->DK,eq_nil_of_length_eq_zero->DL,sum_nil->HV,set_set->HW,range_eq_range'->HX,nil_append->HY,mem_flatMap->HZ,mem_filterMap->H_,getElem_map->Ia,getElem_cons_drop->Ib,getElem?_modify->Ic,getD_cons_succ->Ie,foldl_map->Ig,flatMap_map->Ih,filterMap_cons->Ii,zipWith->Oo,take_of_length_le->Oq,range_succ_eq_map->Ot,nodup_append->Ou,mem_replicate->Ov,map_id->Ow,length_nil->Ox,length_filter_le->Oy,getElem_range->Oz,getElem_inj->OA,getElem?_append_right->OB,flatten_cons->OC,flatMap_append->OD,filter_sublist->OE,filter_eq_self->OF,filter_congr->OG,drop_length->OH,zip_map_left->ZL,zip_map'->ZM,set->ZO,not_mem_nil->ZP,nodup_range'->ZQ,mem_of_mem_drop->ZR,mem_of_getLast?->ZS,mem_of_find?_eq_some->ZT,mem_append_left->ZU,map_inj_right->ZV,length_zipWith->ZW,length_reverse->ZX,length_replicate->ZY,length_eq_zero_iff->ZZ,length_drop->Z_,getLast?_map->T1,getElem?_range->S1,getElem?_eq_none_iff->R1,forIn_nil->P1,foldl_reverse->O1,flatMap_def->N1,filter_append->M1,drop_drop->L1,drop->K1,append_of_mem->J1
open List.Sublist renaming refl->G1,map->B3
open Max renaming max->mX
open Min renaming min->pb
open Nat renaming le_refl->b_,le_trans->fx,lt_of_lt_of_le->gX,ne_of_lt->kY,zero_le->mW,mul_le_mul_right->p_,lt_irrefl->tq,sub_zero->uD,mul_le_mul->uE,le_of_lt->uF,le_of_ble_eq_true->wx,two_pow_pos->yo,pow_le_pow_right->yp,lt_of_le_of_lt->Ax,succ_mul->Dy,one_le_two_pow->Dz,ne_of_gt->DA,mul_comm->DB,le_antisymm->DC,zero_add->HQ,pow_add->HR,lt_succ_self->HS,le_of_eq->HU,succ_ne_self->Og,sub_self->Oh,mul_le_mul_left->Oi,mul_assoc->Oj,lt_succ_of_lt->Ol,le_of_succ_le->Om,succ->Zz,pow_succ->ZA,one_mul->ZC,not_lt_zero->ZD,max_le->ZE,lt_trans->ZF,log2_lt->ZG,le_max_right->ZH,le_max_left->ZI,gcd->ZJ,add_sub_cancel->ZK
open Ne renaming symm->dZ
open Option renaming some->ai,none->aq,map_eq_some_iff->p',map->HN,isSome_map->HP,map_eq_none_iff->Of,isSome_some->Zw,isSome_iff_exists->Zx
open Option.some renaming inj->kX
open Or renaming inl->o_
open Prod.mk renaming inj->Aw
open Pure renaming pure->cA
open PyFlat renaming calls->Oe,told->Zt,rows->Zu,played->Zv
open PyProof.Rows renaming envOfC->tp,callWith_type1->yl,AllBare->ym,slot_tupleiter_next->Au,Call_->Av,subscriptTail->Oa,boot_range->Ob,boot_enumerate->Oc,Subscript_->Od,subscriptTail_builtinR->Zo,importsNone->Zp,entry_tupleiter_next->Zq,args_tupleiter_next->Zr,mulOk_of_bits->D3,callWith_builtin1->C3
open PySem renaming Addr->ax,Value->aB,Str->aC,Shared->ba,Expr->bI,eval->bN,model->bQ,World->bS,Heap->bT,wpAny->cf,Program->cn,Obj->cU,Pos->dj,Stmt->du,starEach->dC,sizeLine->dG,wpAny_bind->eB,valueAt->eR,Around->fG,swapsWith->fS,wpAny_pure->gB,assignEach->gL,PyData->gM,attributeBase->ie,Env->ig,mainGlobals->iA,compareOp->jy,holding->jW,cellsFrom->jX,FuncData->jY,assign->kE,compEnvC->lF,bootBuiltins->lG,backTo->lH,NameKind->mV,wpAny_mono->nU,mem_of_lookup->nV,cLine->nW,Scope->nY,call->oX,behindInMarks->oY,IntMulOk->oZ,keywordEach->pV,foldedSetIterable->pW,backToKw->pX,sysModules->qS,setItem->qT,Keyword->qV,release->s_,intKind->tf,binaryOp->th,Tok->tm,bindArgs->uy,PassesOwn->uB,standAt->we,rawInt->wg,pushCells->wj,bindL->wk,bindC->wm,atKey->wo,wpAny_passesOwn->yc,wpAny_call->yd,wpAny_Call_Name_kw->yf,sliceBounds->yg,isTrue->yh,codeAny->yi,call_meets->yj,BindsTo->yk,wpAny_truthy_bool->Ac,wpAny_pyIter_enum->Ad,tupleKind->Ae,notedBy->Af,getItem->Ag,callerA->Ah,augStore->Ai,Paired->An,wpAny_loadPart->Di,IsEnum->Dq,Draws->Dv,DictEntry->Dw,wpAny_standAt->Hn,wpAny_holding->Ho,wpAny_execs_nil->Hq,tupleKind_room_in1->Hr,swapsWithSole->Hs,swappedStores->Ht,subscripted->Hu,pyIter->Hv,pushCells_keeps->Hw,letOwnedTupleGo->Hx,lastMarks->Hy,codeAny_mono->Hz,codeAny_call_builtin->HA,call_meetsIn->HB,IsRangeIter->HH,IsPart->HI,wpAny_pyIter_list->Nw,wpAny_letOwnedTupleGo_enum->Ny,wpAny_Name->Nz,wpAny_Call_method->NA,typeIs_int->NB,storeName->NC,sizeLine_eq->ND,seqIndex_of->NF,seqIndex_neg->NG,recursionLimit->NH,operate->NI,getAttr->NJ,compPost->NK,builtinsNs->NL,Within->NM,wpAny_stack->Yc,wpAny_setField->Yd,wpAny_pyNext_range_end->Ye,wpAny_pyNext_enum_itemD->Yf,wpAny_pyNext_enum_endD->Yg,wpAny_pyIter_zip->Yh,wpAny_pyIter_tuple->Yi,wpAny_pyIter_revIter->Yj,wpAny_pyIter_rangeiter->Yk,wpAny_pyIter_range->Yl,wpAny_loadName_local->Ym,wpAny_loadName_cell->Yn,wpAny_isTrue_Compare1->Yo,wpAny_execs_cons->Yp,wpAny_callSpecial?_slot->Yq,wpAny_assign_Name->Yr,sub_enumerate->Ys,slot_list_getitem->Yt,rangeSize_one->Yu,newFunctionEnv->Yv,meets_dict_get_default->Yw,interactive->Yx,hashInt->Yz,evalPart_none->YA,comprehension->YB,call_range_1->YC,call_list_seq->YD
open PySem.Around renaming frames_deeper->Zn
open PySem.AutoSeq1 renaming wpAny_loadPart'->Zm
open PySem.Builtin.Int renaming intBits->Zl
open PySem.Builtin.List renaming listTooLong->As,listFitsIndex->E2
open PySem.Builtin.Range renaming rangeSize->Ar,small->N_,rangeFitsLong->Zk
open PySem.Builtin.SmallTypes renaming nextOf->Zj,stopIteration->J2,fitsIndex->G2
open PySem.Calls renaming spliced_cons->Aq,callWith_builtin->Dx,spliced_nil->HL,evalArgs_plain->HM,Name_function_global->Zi
open PySem.CmpOp renaming NotIn->Zg,In->Zh
open PySem.Data renaming seq->HK,dict->Zf
open PySem.EqMixed renaming ne_str_int->S2,ne_str_bool->R2,ne_int_str->P2,ne_bool_str->O2,eq_str_int->N2,eq_str_bool->M2,eq_int_str->L2,eq_bool_str->K2
open PySem.EqNone renaming ne_str_none->U4,ne_none_str->l5,ne_none_none->B4,ne_none_int->x3,ne_none_bool->v3,ne_int_none->p3,ne_bool_none->o3,eq_str_none->m3,eq_none_str->l3,eq_none_none->j3,eq_none_int->Z2,eq_none_bool->V2,eq_int_none->U2,eq_bool_none->T2
open PySem.F renaming plainAttrs_list->uC,slot_list_extend->Ds,slot_list_append->Dt,slot_dict_get->Du,type_list_append->HJ,type_list_extend->NX,plainAttrs_dict->NY,entry_dict_get->NZ,args_dict_get_3->N',type_dict_get->YY,slot_list_pop->YZ,slot_list_index->Y',slot_int_rmul->Y_,slot_dict_pop->Za,entry_list_extend->Zb,entry_enumerate_new->Zc,called_enumerate->Zd,args_list_extend_2->Ze
open PySem.Heap renaming lt_size->eU,get?_push_of_some->gN,get?_push_size->jb,size_push->rT,SameBut->Dr,get?_update_self->YV,get?_update_other->YW
open PySem.Heap.DictOf renaming new->V4
open PySem.Heap.IsSliceOf renaming new->Z4
open PySem.Heap.SameBut renaming update->YX
open PySem.IsRange renaming new->YU
open PySem.NameKind renaming free->Ap,cell->NW
open PySem.Obj renaming mapSeq->Ao
open PySem.Paired renaming length->NV,snoc->YT
open PySem.PassesOwn renaming never->fT
open PySem.PyData renaming int->kF,depthAll->lJ,canLayAll0->rS,eqvAll->Dn,eqv->YS
open PySem.PylongRoom renaming of->j5
open PySem.SeqAt renaming shaped->Am
open PySem.SeqAt.EqAt renaming str_int->C4,int_str->k5
open PySem.SeqAt.Reads renaming unique->D4
open PySem.Str renaming ofString->uA,empty->YR
open PySem.Value renaming ref->iB,type->qU,int->wu,bool->Al,str->Dl,none->HG,isStrOf->YM,isInt->YN,float->YO,bytes->YQ
open PySem.Value.type renaming inj->YL
open PySem.W renaming Frag->aZ,WData->lI,keepIn->mr,fnOf->nX,mg_none_of->pY,findIn->pZ,nsIn->tj,emptyDict->uz,instObj->wq,WellAll->wt,mg_of->Aj,codeIn->Dj,plainGet->HC,hasDictIn->HD,takerIn->NN,plainOver->NO,methodObj->NP,makesIn->NQ,lookIn->NR,isFn->NS,callWith_K->NT,length_le_weightAllW->YG,handedIn->YH,cellsFrom_some->YI,WalkOS->YJ
open PySem.W.Codec renaming encAll->Ak,app->Dk,denoteAll->HF,withinAll->YK
open PySem.W.Looks renaming of_pure->G4,here->E4
open PySem.W.WData renaming weightAll->HE,int->NU
open PySem.Walks renaming range->YE
open PySem.Within renaming cons->J4
open PyVbbcao renaming shape->Dh,whole->Hm,answers_asked->Nu,answers->Nv
open Rat renaming intCast_mul->dF,mul_nonneg->mU,intCast_sub->qR,intCast_add->rQ,div_def->rR,intCast_eq_zero_iff->sZ,mul_pos->uw,mul_eq_zero->ux,le_of_lt->x_,intCast_inj->ya,intCast_le_intCast->Ab,intCast_neg->Dg,natCast_mul->Hj,le_refl->Hk,inv_pos->Hl,divInt->Nt,num_eq_zero->XY,natCast_le_natCast->XZ,mul_inv_cancel->X',intCast_lt_intCast->X_,divInt_eq_div->Ya,add_nonneg->Yb
open Sum renaming inl->hJ,inr->De
open ToString renaming toString->Aa
open True renaming intro->xZ
open Vbbcao renaming frac->aQ,zero->aU,count->cD,whole->cG,Frac->dq,Edge->dM,times->dS,no->eu,BIG->eQ,flows->fi,numbered->fm,joinAll->fw,from_->fN,Net->fY,Row->gc,row->gn,groups->gp,cutAt->gq,addAt->gu,isZero->gA,step->gU,minus->gW,yes->iO,plus->iP,fracOf->iZ,conductance->i_,State->ja,readNet->jx,readLines->jT,over->jU,circulates->jV,isOpen->kC,feeds->kD,natural->lE,boilerAt->mT,mixing->nS,joinStep->nT,balance->oW,without->pS,pressures->pT,course->pU,rows->qM,kindOf->qN,isEdge->qO,digit->qP,work->rP,isPart->sX,fracs->sY,withOpening->uo,scaled->uq,onlyPump->ur,flowOf->uu,decimal->uv,withHead->vZ,solve->v_,readLine->wa,given->wb,edgeAt->wc,brought->wd,warmths->xW,throttled->xX,positive->xY,text->zX,isNode->zY,energy->zZ,eliminate->z_,sum->CW,showFrac->CY,showEdge->CZ,lessRow->C',excess->C_,applied->Dc,letter->Hf,friction->Hg,farther->Hh,Boilers->Hi,mustFall->Np,fallStep->Nq,accepts->Nr,kindName->XU
open VbbcaoNeutral renaming start->vY,asked1->CV,whole60->Nm,step->Nn,natural->XT,asked->K4
open _root_ renaming rfl->aa,List->af,Nat->ag,Int->ah,Rat->ak,if_neg->aE,if_pos->aG,Option->aJ,absurd->bG,Bool->da,trivial->dU,False->eo,True->eA,congrArg->fk,of_decide_eq_true->iM,Array->kS,of_decide_eq_false->mQ,String->qQ,decide_eq_true->vL,decide_eq_true_iff->xN,if_true->zP,beq_eq_false_iff_ne->zQ,Decidable->CA,decide_eq_true_eq->CB,decide_eq_false->CC,beq_iff_eq->CD,funext->GH,reduceIte->MD,or_congr->ME,if_false->MF,DecidableEq->Xd,forall_congr'->Xh,beq_self_eq_true->Xi
open PySem PySem.Spec PyProof.Rows
set_option compiler.extract_closed false
noncomputable section
namespace Zz
local macro_rules|`(command|def $i:declId $b*:$t $v:declVal)=>let f(s:Lean.Syntax):=if s.isOfKind ``Lean.Parser.Term.arrow then s[2]else s;let s:=f<|f<|f<|f<|f<|f<|f t;let s:=if s.isOfKind ``Lean.Parser.Term.app then s[0]else s;if s.isOfKind ``Lean.Parser.Term.prop||s.isOfKind `«term_×_»||s.isOfKind `«term_⊕_»||("af ak ah aJ cS da hX bF ag oo k_ my oq iR dq bB aR rf dM kB iD yH az gM sL gc aH ay AX cw nY du fY PySem.KeyKind bT Ei bA Arguments lB bL ja aC zL".splitOn " ").contains s.getId.toString then`(command|noncomputable def $i:declId $b*:$t $v:declVal)else`(command|theorem $i:declId $b*:$t $v:declVal)|`(command|abbrev $i:declId $s:optDeclSig $v:declVal)=>`(command|noncomputable abbrev $i:declId $s:optDeclSig $v:declVal)|`(($a,$b,*))=>`(⟨$a,$b,*⟩)
def Q1{P:af α->Prop}(h:∀a,P [a])(l)(e:l.length=1):P l:=by cases l with|nil=>cases e|cons a l=>cases l with|nil=>exact h a|cons b l=>cases e
def Q2{P:af α->Prop}(h:∀a b,P [a,b])(l)(e:l.length=2):P l:=by cases l with|nil=>cases e|cons a l=>exact Q1 (P:=λl=>P (a::l)) (h a) l (Nat.succ.inj e)
def Q3{P:af α->Prop}(h:∀a b c,P [a,b,c])(l)(e:l.length=3):P l:=by cases l with|nil=>cases e|cons a l=>exact Q2 (P:=λl=>P (a::l)) (h a) l (Nat.succ.inj e)
def Q4{P:af α->Prop}(h:∀a b c d,P [a,b,c,d])(l)(e:l.length=4):P l:=by cases l with|nil=>cases e|cons a l=>exact Q3 (P:=λl=>P (a::l)) (h a) l (Nat.succ.inj e)
def Q5{P:af α->Prop}(h:∀a b c d e,P [a,b,c,d,e])(l)(e:l.length=5):P l:=by cases l with|nil=>cases e|cons a l=>exact Q4 (P:=λl=>P (a::l)) (h a) l (Nat.succ.inj e)
def Q6{P:af α->Prop}(h:∀a b c d e f,P [a,b,c,d,e,f])(l)(e:l.length=6):P l:=by cases l with|nil=>cases e|cons a l=>exact Q5 (P:=λl=>P (a::l)) (h a) l (Nat.succ.inj e)
def Q7{P:af α->Prop}(h:∀a b c d e f g,P [a,b,c,d,e,f,g])(l)(e:l.length=7):P l:=by cases l with|nil=>cases e|cons a l=>exact Q6 (P:=λl=>P (a::l)) (h a) l (Nat.succ.inj e)
local macro_rules|`(())=>`(by first|(intro h;cases (h);done)|omega|(simp;done)|grind)|`(∅)=>`(by simp_all)|`((_))=>`(by solve_by_elim)|`(!_)=>`(by lia)|`(¬_)=>`(by simp)|`(tactic|left)=>`(tactic|(simp_all;grind -order))|`(tactic|ac_rfl)=>`(tactic|and_intros<;>simp_all)|`(tactic|nofun)=>`(tactic|simp_all)|`(tactic|symm)=>`(tactic|solve_by_elim)|`(tactic|grind?)=>`(tactic|grind -order)|`(tactic|grind?[$a,*])=>`(tactic|grind -order[$a,*])
def U1(_:eA:=by rfl)(_:eA:=by decide)(_:eA:=by ext)(_:eA:=by first|(intro _;rfl)|(intro _ _;rfl)|(intros;rfl))(_:eA:=by with_unfolding_all rfl):eA:=dU
local macro_rules|`($t|>$n:num)=>`(autoParam $t $(Lean.mkIdent<|.str `U1 s!"_auto_{n.getNat}"))|`(⋯)=>`(by decide+kernel)|`(tactic|ext)=>`(tactic|first|rfl|assumption|exact Or.inl rfl|exact Or.inr rfl|exact Or.inr (Or.inl rfl)|exact Or.inr (Or.inr rfl)|exact λ_ _ _ _ _ _=>Q1 λ_=>rfl|exact λ_ _ _ _ _ _=>Q2 λ_ _=>rfl|exact λ_ _ _ _ _ _=>Q3 λ_ _ _=>rfl|exact λ_ _ _ _ _ _=>Q4 λ_ _ _ _=>rfl)
def aN(x:dq):ak:=Nt x.num x.den
def nP(q:ak):dq:={num:=q.num,den:=q.den}
def cM(x:dq):Prop:=nP (aN x)=x
def CF(q:ak):aN (nP q)=q:=by show Nt q.num q.den=q;nofun
def GW(q:ak):cM (nP q):=by unfold cM;rw[CF]
def cM.a0(hx:cM x)(a:cM y)(h:aN x=aN y):x=y:=by rw[<-hx,<-a,h]
def cM.a3(hx:cM x):0<x.den:=by rw[<-hx];exact Nat.pos_of_ne_zero<|Rat.den_nz _
def cM.a1(hx:cM x):(aN x).num=x.num:=fk Vbbcao.Frac.num hx
def cM.a2(hx:cM x):(aN x).den=x.den:=fk Vbbcao.Frac.den hx
def MZ(a b:ah):aQ a b=nP (Nt a b):=by
 unfold aQ nP;rw[Rat.num_divInt,Rat.den_divInt];by_cases c:b=0;nofun
 rw[aE c,aE c,show b.gcd a=a.natAbs.gcd b.natAbs from Nat.gcd_comm ..];dsimp only;by_cases d:b<0
 ·rw[aG d,Int.sign_eq_neg_one_of_neg d,Int.neg_mul,Int.one_mul,show -b=(b.natAbs:ah)by lia];rfl
 ·obtain⟨k,rfl⟩:=En (show 0<=b by lia);rw[aE d,Int.sign_eq_one_of_pos !_,Int.one_mul];rfl
def fV(a b:ah):aN (aQ a b)=(a:ak)/(b:ak):=by rw[MZ,CF,Ya]
def fE(a b:ah):cM (aQ a b):=by simp[MZ,GW]
def rJ(x:dq):aN x=(x.num:ak)/((x.den:ah):ak):=by simp[aN,Ya]
def pQ(a:ah):cM (cG a):=by
 have:cG a=aQ a 1:=by unfold cG aQ;simp
 simp[*,fE]
def vM(a:ah):aN (cG a)=a:=by rw[rJ];show a/((1:ah):ak)=a;lia
def qL:cM aU:=pQ 0
def pO:aN aU=0:=vM 0
def xT(h:cM x):((x.den:ah):ak)≠0:=by intro e;have:=sZ.mp e;have:=h.a3;nofun
def ud(hx:cM x)(a:cM y):aN (iP x y)=aN x+aN y:=by unfold iP;rw[fV,rJ x,rJ y,rQ];grind[xT]
def qI(hx:cM x)(a:cM y):aN (gW x y)=aN x- aN y:=by unfold gW;rw[fV,rJ x,rJ y,qR];grind[xT]
def iw:aN (dS x y)=aN x*aN y:=by unfold dS;rw[fV,rJ x,rJ y,dF,dF,rR,rR,rR,Rat.inv_mul_rev];grind
def Xw(hx:cM x):x.num=0↔aN x=0:=by rw[<-XY,hx.a1]
def V1(a b c d:ak):a*d/(b*c)=a/b/(c/d):=by rw[rR,rR,rR,rR,Rat.inv_mul_rev,Rat.inv_mul_rev,Rat.inv_inv];grind
def xP(hy:cM y):aN (jU x y)=aN x/aN y:=by unfold jU;rw[fV,rJ x,rJ y,dF,dF,V1]
def vS(x y:dq):cM (iP x y):=fE _ _
def vT(x y:dq):cM (gW x y):=fE _ _
def gK(x y:dq):cM (dS x y):=fE _ _
def GV(x y:dq):cM (jU x y):=fE _ _
def nQ(hx:cM x):gA x=ao↔aN x=0:=by unfold gA;simp[*,Xw]
def ug(hx:cM x):xY x=ao↔0<aN x:=by unfold xY;rw[<-hx.a1];have a:0<=(aN x).num↔0<=aN x:=Rat.num_nonneg;rfl
def Xx(hx:cM x)(a:cM y):Vbbcao.less x y=ao↔aN x<aN y:=by unfold Vbbcao.less;rw[xN,Rat.lt_iff,hx.a1,a.a1,hx.a2,a.a2]
def Xm(a:ak):0<=a*a:=by rcases Rat.le_total with h|h;exact mU h h;have b:0<= -a:=();have:=mU b b;grind
def aS:ag->(ag->ak)->ak
 |0,_=>0|n+1,f=>aS n f+f n
def eP(h:∀i,i<n->f i=g i):aS n f=aS n g:=by
 induction n with|zero=>rfl|succ n a=>(simp[aS];grind?)
def mn(h:∀i,i<n->f i=0):aS n f=0:=by
 induction n with|zero=>rfl|succ n a=>grind?[aS]
def rK(n:ag)(f g:ag->ak):aS n (λi=>f i+g i)=aS n f+aS n g:=by
 induction n with|zero=>show 0=0+0;grind|succ n a=>(simp_all[aS];grind?)
def vN(n:ag)(f g:ag->ak):aS n (λi=>f i- g i)=aS n f- aS n g:=by
 induction n with|zero=>show 0=0- 0;grind|succ n a=>(simp_all[aS];grind?)
def fD(n:ag)(c:ak)(f:ag->ak):aS n (λi=>c*f i)=c*aS n f:=by
 induction n with|zero=>show 0=c*0;nofun|succ n a=>(simp[aS];grind?)
def kA(hj:j<n)(h:∀i,i<n->i≠j->f i=0):aS n f=f j:=by
 induction n with|zero=>nofun|succ n a=>
  unfold aS;by_cases e:j=n;subst e;rw[mn λi k=>h i (by lia) (by lia),Rat.zero_add];rw[a (by lia) (λi k=>h i (by lia)),h n (by lia) (dZ e),Rat.add_zero]
def MN(h:∀i,i<n->0<=f i):0<=aS n f:=by
 induction n with|zero=>exact Hk|succ n a=>exact Yb (a λi b=>h i (_))<|h n (_)
def bM(r:gc)(j:ag):ak:=aN<|r.getD j aU
def dI(r:gc):Prop:=∀x∈r,cM x
def dI.a0(h:dI r)(j:ag):cM (r.getD j aU):=by
 rw[gO];cases e:r[j]? with|none=>exact qL|some x=>exact h x<|eC e
def dP(n:ag)(r:gc)(x:ag->ak):ak:=aS n λj=>bM r j*x j
def iN(n:ag)(r:gc)(x:ag->ak):ak:=dP n r x- bM r n
def GL(k:dq)(r:gc):(uq k r).length=r.length:=by simp[uq]
def MO(k:dq)(r:gc)(j:ag):bM (uq k r) j=aN k*bM r j:=by unfold bM uq;(nofun;grind?[cV,aN,pO,iw])
def MY(k:dq)(r:gc):dI (uq k r):=by intro x a;obtain⟨y,_,rfl⟩:=cJ.mp a;exact gK _ _
def Xy(h:r.length=q.length):(C' r q).length=r.length:=by simp[C',h]
def Xs(hr:dI r)(d:dI q)(h:r.length=q.length)(j:ag):bM (C' r q) j=bM r j- bM q j:=by
 unfold bM C';rw[gO,gO,gO,cV];by_cases b:j<r.length;·have a:j<q.length:=∅;have c:j<(r.zip q).length:=∅;rw[cK b,cK a,cK c,List.getElem_zip];exact qI (hr _<|ph b)<|d _<|ph a
 all_goals (nofun;grind?[aN,pO])
def XE(r q:gc):dI (C' r q):=by intro x a;obtain⟨y,_,rfl⟩:=cJ.mp a;exact vT _ _
def Xr(j:ag)(a:dI r)(h:r.length=p.length)(i:ag):bM (pS j p r) i=bM r i- bM r j*bM p i:=by unfold pS;rw[Xs a (MY _ _) (by rwa[GL]),MO];rfl
def Xj(j:ag)(h:r.length=p.length):(pS j p r).length=r.length:=Xy (by rwa[GL])
def XD(j:ag)(p r:gc):dI (pS j p r):=XE _ _
def MX(h:∀i,i<n->bM q i=bM r i- c*bM p i):dP n q x=dP n r x- c*dP n p x:=by unfold dP;rw[<-fD,<-vN];grind[eP]
def XH(h:∀i,i<=n->bM q i=bM r i- c*bM p i):iN n q x=iN n r x- c*iN n p x:=by unfold iN;rw[MX λi a=>h i !_];left
structure uk(n j k:ag)(rows ready rest:af gc):Prop where
 jk:j+k=n
 lr:ready.length=j
 ls:rest.length=k
 a9:∀r∈ready++rest,dI r/\r.length=n+1
 a6:∀(i:ag) (r:gc),ready[i]?=ai r->∀c,c<j->bM r c=if c=i then 1 else 0
 b1:∀r∈rest,∀c,c<j->bM r c=0
 a8:∀x,(∀r∈rows,iN n r x=0)↔∀r∈ready++rest,iN n r x=0
 a7:∀x,(∀r∈rows,dP n r x=0)↔∀r∈ready++rest,dP n r x=0
def Nb{p:α->da}:∀{l:af α} {a:α},l.find? p=ai a->p a=ao/\a∈l/\(∀x,x∈l↔x=a\/x∈l.eraseP p)/\(l.eraseP p).length+1=l.length
 |[],a,h=>by simp at h|b::l,a,h=>by by_cases e:p b=ao;ac_rfl;rw[List.find?_cons_of_neg ()]at h;obtain⟨d,c,g,f⟩:=Nb h;refine(d,cO _ c,λx=>?_,?_);grind;nofun
def J0{φ:gc->ak}{m:gc->ak}{a K L:af gc}{g:gc->gc}(f:∀q∈a++K,φ (g q)=φ q- m q*φ p)(z:φ r=m r*φ p)(F:m r≠0)(I:∀x,x∈K↔x=r\/x∈L):(∀q∈a++K,φ q=0)↔∀q∈(a.map g++[p])++L.map g,φ q=0:=by
 have o:φ p=0->∀q∈a++K,φ (g q)=φ q:=λk q l=>by rw[f q l,k];grind
 constructor;intro H;have k:φ p=0:=(ux.mp (z.symm.trans (H r (nZ.mpr (.inr ((I r).mpr (.inl aa))))))).resolve_left F
 intro q l;rcases nZ.mp l with l|l;rcases nZ.mp l with l|l;obtain⟨q,i,rfl⟩:=cJ.mp l;have l:q∈a++K:=nZ.mpr (.inl i);rw[o k q l,H q l];cases l with|head=>exact k|tail _ l=>cases l
 obtain⟨q,i,rfl⟩:=cJ.mp l;have l:q∈a++K:=nZ.mpr (.inr ((I q).mpr (.inr i)));rw[o k q l,H q l]
 intro H q l;have k:φ p=0:=H p (by simp);rcases nZ.mp l with i|i;rw[<-o k q l];exact H _ (nZ.mpr (.inl (nZ.mpr (.inl (cJ.mpr (q,i,aa))))));rcases (I q).mp i with rfl|i;rw[z,k];grind;rw[<-o k q l];exact H _ (nZ.mpr (.inr (cJ.mpr (q,i,aa))))
def uk.a0{b a K:af gc}(E:uk n j (k+1) b a K)(w:(K.find? λr=> !gA (r.getD j aU))=ai r):
  uk n (j+1) k b (a.map (pS j<|uq (jU (cG 1)<|r.getD j aU) r)++[uq (jU (cG 1)<|r.getD j aU) r])
   ((K.eraseP λq=> !gA (q.getD j aU)).map<|pS j<|uq (jU (cG 1)<|r.getD j aU) r):=by
 obtain⟨J,y,I,H⟩:=Nb w;obtain⟨D,t,C,c,s,u,h,g⟩:=E;have m:=c r<|nZ.mpr<|.inr y;have F:bM r j≠0:=by intro e;have:=(nQ<|m.1.a0 j).mpr e;lia
 generalize v:uq (jU (cG 1)<|r.getD j aU) r=p;have A:p.length=n+1:=by rw[<-v,GL];exact m.2
 have B:dI p:=by rw[<-v];exact MY _ _
 have G:∀i,bM p i=bM r i/bM r j:=by intro i;rw[<-v,MO,xP<|m.1.a0 j];show(1:ak)/bM r j*bM r i=_;grind
 have l:∀q∈a++K,∀i,bM (pS j p q) i=bM q i- bM q j*bM p i:=λq L i=>Xr j (c q L).1 (by rw[A,(c q L).2]) i;have z:∀i,bM r i=bM r j*bM p i:=λi=>by rw[G];grind
 have o:∀x,dP n r x=bM r j*dP n p x:=λx=>by unfold dP;rw[<-fD];exact eP λi _=>by rw[z i];grind
 have M:∀q,q∈(K.eraseP λq=> !gA (q.getD j aU))->q∈a++K:=λq e=>nZ.mpr (.inr ((I q).mpr (.inr e)));have pj:bM p j=1:=by rw[G];grind
 have X:∀q∈a++K,∀c,c<j->bM (pS j p q) c=bM q c:=λq L c f=>by rw[l q L,G c,u r y c f];grind
 have Y:∀q∈a++K,bM (pS j p q) j=0:=λq L=>by rw[l q L,pj];grind
 refine(by lia,by simp[t],by rw[cb];lia,λq e=>?_,λi q e d f=>?_,λq e d f=>?_,λx=>(h x).trans (J0 (λq L=>XH λi _=>l q L i) (by unfold iN;rw[o x,z n];grind) F I),λx=>(g x).trans (J0 (λq L=>MX λi _=>l q L i) (o x) F I))
 ·have Z:∀q∈a++K,dI (pS j p q)/\(pS j p q).length=n+1:=λq L=>(XD _ _ _,(Xj j (by rw[A,(c q L).2])).trans (c q L).2);rcases nZ.mp e with e|e;rcases nZ.mp e with e|e;obtain⟨q,i,rfl⟩:=cJ.mp e;exact Z q (nZ.mpr (.inl i));cases e with|head=>exact(B,A)|tail _ e=>cases e
  obtain⟨q,i,rfl⟩:=cJ.mp e;exact Z q (M q i)
 ·by_cases S:i<(a.map (pS j p)).length
  ·rw[yr S,cV]at e;obtain⟨q,x,rfl⟩:=p'.mp e;have L:q∈a++K:=nZ.mpr (.inl (eC x));by_cases k:d=j;subst k;rw[Y q L,aE (by simp at S;lia)];rw[X q L d (by lia)];exact s i q x d (by lia)
  ·rw[List.getElem?_append_right (by lia)]at e;obtain⟨S',e⟩:=eM.mp e;simp at e S S';subst e;by_cases k:d=j;subst k;rw[pj,aG (by lia)];rw[G,u r y d (by lia),aE (by lia)];grind
 ·obtain⟨q,i,rfl⟩:=cJ.mp e;by_cases k:d=j;subst k;exact Y q (M q i);rw[X q (M q i) d (by lia)];exact u q ((I q).mpr (.inr i)) d (by lia)
def uk.a5{b a:af gc}(E:uk n n 0 b a []):
  (a.map λr=>r.getD n aU).length=n/\dI (a.map λr=>r.getD n aU)/\
  (∀x,(∀r∈b,iN n r x=0)↔∀i,i<n->x i=bM (a.map λr=>r.getD n aU) i)/\
  (∀x,(∀r∈b,dP n r x=0)↔∀i,i<n->x i=0):=by
 obtain⟨t,p,s,d,o,q,l,k⟩:=E;rw[kH]at d;have g:∀x i (r:gc),a[i]?=ai r->dP n r x=x i:=λx i r e=>by have:=(eM.mp e).1;have v:i<n:=(by lia);unfold dP;rw[kA v λc k d=>by rw[o i r e c k,aE d,Rat.zero_mul],o i r e i v,aG aa,Rat.one_mul]
 have m:∀i (e:i<a.length),bM (a.map λr=>r.getD n aU) i=bM a[i] n:=by intro i e;unfold bM;grind?
 refine(by grind,?_,?_,?_);intro x m;obtain⟨r,f,rfl⟩:=cJ.mp m;exact(d r f).1.a0 n;intro x;rw[l x,kH];constructor;intro h i e;have c:i<a.length:=∅;have j:=h a[i]<|ph c;unfold iN at j;rw[g x i _<|cK c]at j;grind;intro h r f;obtain⟨i,e,rfl⟩:=iC f;unfold iN;rw[g x i _<|cK e,h i (by simp at*;nofun)];grind;intro x;rw[k x,kH];constructor;intro h i e;have c:i<a.length:=(by ac_rfl);have j:=h a[i]<|ph c;rw[g x i _<|cK c]at j;symm;intro h r f;obtain⟨i,e,rfl⟩:=iC f;rw[g x i _<|cK e,h i (by left)]
def uk.a4{b a A:af gc}(E:uk n j (k+1) b a A)(z:(A.find? λr=> !gA (r.getD j aU))=aq):
  ∃v:ag->ak,v j=1/\∀r∈b,dP n r v=0:=by
 obtain⟨w,u,t,g,m,o,s,l⟩:=E;have x:∀r∈A,bM r j=0:=by intro r p;have q:gA (r.getD j aU)=ao:=();exact(nQ<|(g r<|nZ.mpr<|.inr p).1.a0 j).mp q
 let v:ag->ak:=λi=>if i<j then- bM (a.getD i []) j else if i=j then 1 else 0
 have vj:v j=1:=by show(if j<j then _ else _)=_;rw[aE (tq _),aG aa]
 have vn:∀c,c≠j->¬c<j->v c=0:=λc f d=>by show(if c<j then _ else _)=_;rw[aE d,aE f]
 refine(v,vj,?_);rw[l v];intro r p;unfold dP;rcases nZ.mp p with p|p
 ·obtain⟨i,h,rfl⟩:=iC p;have y:i<j:=by lia
  have e:aS n (λc=>bM a[i] c*v c)=aS n (λc=>(if c=i then- bM a[i] j else 0)+(if c=j then bM a[i] j else 0)):=eP λc _=>by
   by_cases d:c<j
   ·rw[m i _ (cK _) c d,aE (kY d),Rat.add_zero];by_cases f:c=i
    ·subst f;rw[aG aa,aG aa,Rat.one_mul];show(if c<j then- bM (a.getD c []) j else _)=_;rw[aG d];simp[h]
    ·rw[aE f,aE f,Rat.zero_mul]
   ·by_cases f:c=j
    ·subst f;rw[vj,aG aa,aE (dZ (kY y)),Rat.mul_one,Rat.zero_add]
    ·rw[vn c f d,aE f,aE (by lia),Rat.mul_zero,Rat.add_zero]
  rw[e,rK,kA (j:=i) (by lia)<|λc _ d=>aE d,kA (j:=j) (by lia)<|λc _ d=>aE d,aG aa,aG aa,Rat.neg_add_cancel]
 ·refine mn λc _=>?_;by_cases d:c<j;rw[o r p c d,Rat.zero_mul];by_cases f:c=j;subst f;rw[x r p,Rat.zero_mul];rw[vn c f d,Rat.mul_zero]
def Nd{c:af gc}:∀{k j:ag} {a g:af gc},uk n j k c a g->∀{b:af gc},z_ k j a g=ai b->uk n n 0 c b []
 |0,j,a,g,E,b,h=>by
  cases h;have f:j=n:=by have:=E.jk;symm
  have d:=ZZ.mp E.ls;subst f d;exact E
 |k+1,j,a,g,E,b,h=>by
  unfold z_ at h;cases e:(g.find? λr=> !gA (r.getD j aU))with
  |none=>rw[e]at h;cases h
  |some r=>rw[e]at h;exact Nd (E.a0 e) h
def Nf{b:af gc}:∀{k j:ag} {a f:af gc},uk n j k b a f->z_ k j a f=aq->∃(v:ag->ak) (i:ag),i<n/\v i≠0/\∀r∈b,dP n r v=0
 |0,j,a,f,E,h=>by cases h
 |k+1,j,a,f,E,h=>by
  unfold z_ at h;cases e:(f.find? λr=> !gA (r.getD j aU))with
  |none=>obtain⟨v,d,c⟩:=E.a4 e;exact(v,j,by have:=E.jk;(subst_vars;simp),by rw[d];nofun,c)
  |some r=>rw[e]at h;exact Nf (E.a0 e) h
def uk.a1{a:af gc}(b:a.length=n)(d:∀r∈a,dI r/\r.length=n+1):uk n 0 n a [] a:=(¬_,aa,b,d,λi r h=>by simp at h,λr _ c e=>∅,λx=>Eo,λx=>Eo)
def GJ{a:af gc}(c:a.length=n)(d:∀r∈a,dI r/\r.length=n+1)(h:v_ n a=ai xs):
  xs.length=n/\dI xs/\(∀x,(∀r∈a,iN n r x=0)↔∀i,i<n->x i=bM xs i)/\(∀x,(∀r∈a,dP n r x=0)↔∀i,i<n->x i=0):=by
 unfold v_ at h;cases e:z_ n 0 [] a with
 |none=>rw[e]at h;cases h
 |some b=>rw[e]at h;cases h;exact(Nd (uk.a1 c d) e).a5
def MI{a:af gc}(c:a.length=n)(d:∀r∈a,dI r/\r.length=n+1)(h:v_ n a=aq):
  ∃(v:ag->ak) (i:ag),i<n/\v i≠0/\∀r∈a,dP n r v=0:=by
 unfold v_ at h;cases e:z_ n 0 [] a with|none=>exact Nf (uk.a1 c d) e|some b=>rw[e]at h;cases h
def Xn{a:af gc}(c:a.length=n)(d:∀r∈a,dI r/\r.length=n+1)(p:∀v,(∀r∈a,dP n r v=0)->∀i,i<n->v i=0)(f:∀r∈a,iN n r x=0):v_ n a=ai ((bP n).map λi=>nP<|x i):=by
 cases e:v_ n a with
 |none=>obtain⟨v,i,b,l,m⟩:=MI c d e;solve_by_elim
 |some k=>obtain⟨o,j,h,_⟩:=GJ c d e;have:=(h x).mp f;congr 1;refine uL ∅ λi b g=>?_;rw[Ia,Oz,this i ∅];unfold bM;rw[gO,cK b];exact(j _<|ph b).symm
def MJ{rows:af gc}(b:rows.length=n)(c:∀r∈rows,dI r/\r.length=n+1)(h:∀v,(∀r∈rows,dP n r v=0)->∀i,i<n->v i=0):
  ∃a,v_ n rows=ai a/\a.length=n/\dI a/\(∀x,(∀r∈rows,iN n r x=0)↔∀i,i<n->x i=bM a i):=by
 cases e:v_ n rows with
 |none=>obtain⟨v,i,g,d,f⟩:=MI b c e;solve_by_elim
 |some a=>(nofun;grind?[GJ])
def cF(l:af ag)(v:ag):ag:=l.getD v 0
def iy(l:af ag)(e:dM):af ag:=if kC e=ao then
  let x:=pb (l.getD e.a 0) (l.getD e.b 0)
  (l.set e.a x).set e.b x
 else l
def qK(n:fY)(l:af ag):nT n l=n.edges.foldl iy l:=aa
def MS(hi:i<l.length)(x v:ag):cF (l.set i x) v=if v=i then x else cF l v:=by grind[cF]
def lD(N:ag)(e:dM):Prop:=e.a<N/\e.b<N
def sM(l:af ag)(e:dM):(iy l e).length=l.length:=by grind[iy]
def xR(he:lD l.length e)(v:ag):cF (iy l e) v=if kC e=ao/\(v=e.a\/v=e.b)then pb (cF l e.a) (cF l e.b)else cF l v:=by unfold iy;by_cases h:kC e=ao;rw[aG h];rw[MS (by simpa using he.2),MS he.1];by_cases c:v=e.b;rw[aG c,aG (h,.inr c)];rfl;rw[aE c];by_cases d:v=e.a;rw[aG d,aG (h,.inl d)];rfl;nofun;nofun
def GI(he:lD l.length e)(v:ag):cF (iy l e) v<=cF l v:=by rw[xR he];split;rename_i h;obtain⟨_,rfl|rfl⟩:=h;exact Nat.min_le_left ..;exact Nat.min_le_right ..;exact b_ _
def CO:∀(a:af dM) (l:af ag),(a.foldl iy l).length=l.length
 |[],l=>aa|e::a,l=>by rw[fO,CO a,sM]
def vU:∀{b:af dM} {l:af ag},(∀e∈b,lD l.length e)->∀v,cF (b.foldl iy l) v<=cF l v
 |[],l,_,v=>b_ _|e::b,l,h,v=>by rw[fO];refine fx (vU (λc a=>?_) v)<|GI (h e gY) v;rw[sM];exact h c<|cO _ a
def oV{c:Type}(d:af dM)(x:ag->c):Prop:=∀e∈d,kC e=ao->x e.a=x e.b
def oV.a0(h:oV (e::es) x):oV es x:=λb a=>h b<|cO _ a
def Xl(he:lD l.length e){x:ag->α}(d:kC e=ao->x e.a=x e.b)(c:∀v,v<l.length->x (cF l v)=x v):∀v,v<l.length->x (cF (iy l e) v)=x v:=by intro v f;rw[xR he];split;rename_i h;have ha:=c e.a he.1;have g:=c e.b he.2;lia;symm
def M_:∀{a:af dM} {l:af ag},(∀e∈a,lD l.length e)->oV a x->(∀v,v<l.length->x (cF l v)=x v)->∀v,v<l.length->x (cF (a.foldl iy l) v)=x v
 |[],l,_,_,b=>b|e::a,l,h,d,b=>by intro v g;rw[fO];have:=M_ (λf c=>by rw[sM];exact h f<|cO _ c) d.a0 (by rw[sM];exact Xl (h e gY) (d e gY) b) v (by rwa[sM]);exact this
def CN:∀{es:af dM} {l:af ag},(∀e∈es,lD l.length e)->oV es m->(∀v,m v<=cF l v)->∀v,m v<=cF (es.foldl iy l) v
 |[],l,_,_,c=>c|e::es,l,h,f,c=>by rw[fO];refine CN (λg d=>by rw[sM];exact h g<|cO _ d) f.a0 λv=>?_;rw[xR<|h e gY];split;rename_i q;have j:=f e gY q.1;have ha:=c e.a;have i:=c e.b;rcases q.2 with rfl|rfl<;>left;symm
def XG(h:l.length=l'.length)(e:∀v,cF l v=cF l' v):l=l':=by refine uL h λi b a=>?_;have:=e i;simp_all[cF]
def Na:∀{f:af dM} {l:af ag},(∀e∈f,lD l.length e)->f.foldl iy l=l->oV f (cF l)
 |[],l,_,_=>λe n=>by cases n
 |e::f,l,h,g=>by
  rw[fO]at g;have j:∀c∈f,lD (iy l e).length c:=λc d=>by rw[sM];exact h c<|cO _ d
  have k:iy l e=l:=by refine XG (sM _ _) λv=>DC (GI (h e gY) v) ?_;have:=vU j v;rwa[g]at this
  rw[k]at g j;have m:=Na j g;intro c d i;rcases fq.mp d with rfl|q;have p:=xR (h c gY) c.a;have o:=xR (h c gY) c.b;rw[aG (i,.inl aa),k]at p;rw[aG (i,.inr aa),k]at o;lia;exact m c q i
def MH:∀{l l':af ag},l.length=l'.length->(∀v,cF l v<=cF l' v)->l.sum<=l'.sum/\(l≠l'->l.sum<l'.sum)
 |[],[],_,_=>(b_ _,λh=>bG aa h)|a::l,b::l',d,h=>by
  obtain⟨g,f⟩:=MH (l:=l) (l':=l') ∅ (λv=>by simpa[cF]using h (v+1));have i:a<=b:=by simpa[cF]using h 0
  rw[qW,qW];refine(!_,λc=>?_);by_cases e:a=b;nofun;lia
def rN(n:fY):∀(k:ag) (l:af ag),(fw n k l).length=l.length
 |0,l=>aa|k+1,l=>by show(fw n k<|nT n l).length=_;rw[rN n k,qK,CO]
def ui(n:fY):∀(k:ag) (l:af ag),fw n (k+1) l=nT n (fw n k l)
 |0,l=>aa|k+1,l=>by show fw n (k+1) (nT n l)=nT n (fw n k<|nT n l);rw[ui n k]
def MV(n:fY):∀(s:ag) (l:af ag),l.sum<=s->(∀e∈n.edges,lD l.length e)->∃k,nT n (fw n k l)=fw n k l
 |s,l,c,h=>by
  by_cases e:nT n l=l;exact(0,e);have a:=(MH (by rw[qK,CO]) (λv=>by rw[qK];exact vU h v)).2 e
  match s with|0=>nofun|s+1=>obtain⟨k,b⟩:=MV n s (nT n l) (by lia) (by rwa[qK,CO]);exact(k+1,b)
def M':∀{f:af dM} {l:af ag} {e:dM} {p q:ag},(∀e∈f,lD l.length e)->oV f m->(∀v,m v<=cF l v)->e∈f->kC e=ao->(e.a=p/\e.b=q\/e.a=q/\e.b=p)->cF l p=m p->cF (f.foldl iy l) q=m q:=by
 intro f;induction f with|nil=>grind?|cons t f M'=>
  intro l e p q h j r w n i u;rw[fO];have s:∀g∈f,lD (iy l t).length g:=λg c=>by rw[sM];exact h g<|cO _ c
  have d:=CN (es:=[t]) (λg c=>h g ∅) (λg c=>j g ()) r;have o:=GI<|h t gY;rcases fq.mp w with rfl|c;have y:=j e gY n;have a:cF (iy l e) q=m q:=by have k:q=e.a\/q=e.b:=!_;rw[xR<|h e gY,aG (n,k)];have b:=r e.a;have x:=r e.b;rcases i with⟨rfl,rfl⟩|⟨rfl,rfl⟩<;>nofun
  refine DC ?_<|CN s j.a0 d q;rw[<-a];exact vU s q;refine M' s j.a0 d c n i<|DC ?_<|d p;rw[<-u];exact o p
def Nj(h:∀v,f v=ao->g v=ao)(e:q<N)(c:f q=aw)(b:g q=ao):((bP N).filter f).length+1<=((bP N).filter g).length:=by
 have z:∀l:af ag,(l.filter f).length+(if q∈l then 1 else 0)<=(l.filter g).length:=λl=>by
  induction l with
  |nil=>simp
  |cons x l a=>
   by_cases u:f x=ao;have w:q≠x:=λz=>by subst z;nofun
   simp[u,h x u,w];((repeat' split)<;>nofun);by_cases v:g x=ao;simp[u,v];split<;>split at a<;>lia;have w:q≠x:=λz=>by subst z;exact v b
   simp[u,v,w,a]
 have:=z (bP N);simp_all
def XB(N v:ag)(h:v<N):cF (bP N) v=v:=by simp[*,cF]
def GS(h:∀e∈n.edges,lD l.length e):∀k v,cF (fw n k l) v<=cF l v
 |0,v=>b_ _|k+1,v=>by rw[ui];refine fx (vU (λe a=>?_) v)<|GS h k v;rw[rN];exact h e a
def MT(h:∀e∈n.edges,lD l.length e)(a:oV n.edges m)(b:∀v,m v<=cF l v):∀k v,m v<=cF (fw n k l) v
 |0,v=>b v|k+1,v=>by rw[ui];exact CN (λe c=>by rw[rN];exact h e c) a (MT h a b k) v
def MU(h:∀e∈n.edges,lD l.length e)(b:oV n.edges x)(c:∀v,v<l.length->x (cF l v)=x v):∀k v,v<l.length->x (cF (fw n k l) v)=x v
 |0,v,a=>c v a|k+1,v,a=>by rw[ui];exact M_ (λe f=>by rw[rN];exact h e f) b (λu d=>MU h b c k u (by rwa[rN]at d)) v (by rwa[rN])
structure XS(n:fY)(gs:af ag):Prop where
 d:gs.length=cD n
 b:∀v,v<cD n->cF gs v<=v
 c:oV n.edges (cF gs)
 a:∀{α:Type} (x:ag->α),oV n.edges x->∀v,v<cD n->x (cF gs v)=x v
def XCz{k m f g:ag}(q:pb k m<=f)(t:f+1<=g):pb (k+1) m<=g:=by rcases Nat.le_total k m with u|u;rw[Nat.min_eq_left u]at q;exact fx (Nat.min_le_left ..) (fx (Nat.succ_le_succ q) t);rw[Nat.min_eq_right u]at q;exact fx (Nat.min_le_right ..) (fx (fx q (Nat.le_succ _)) t)
def XC(h:∀e∈n.edges,lD (cD n) e):XS n (gp n):=by
 have G:(bP<|cD n).length=cD n:=uH;have y:∀e∈n.edges,lD (bP<|cD n).length e:=∅;have a:∀{z:Type} (x:ag->z) v,v<(bP<|cD n).length->x (cF (bP<|cD n) v)=x v:=by simp_all[XB]
 have S:∀{z:Type} k (x:ag->z),oV n.edges x->∀v,v<cD n->x (cF (fw n k<|bP<|cD n) v)=x v:=λk x D v j=>MU y D (a x) k v ∅;have U:∀k v,v<cD n->cF (fw n k<|bP<|cD n) v<=v:=by intro k v j;have:=GS y k v;nofun
 obtain⟨K,O⟩:=MV n _ (bP<|cD n) (b_ _) y;generalize M:fw n K (bP<|cD n)=c at O;have C:c.length=cD n:=by rw[<-M,rN,G]
 have i:=Na (λe d=>by rw[C];exact h e d) (by rwa[<-qK]);have B:∀v,cF c v<=cF (bP<|cD n) v:=by grind[GS]
 have H:=MT y i B;have u:∀k,pb k (cD n)<=((bP<|cD n).filter λv=>aT<|cF (fw n k<|bP<|cD n) v=cF c v).length:=by
  intro k;induction k with|zero=>simp|succ k Q=>
   by_cases t:∀v,v<cD n->cF (fw n k<|bP<|cD n) v=cF c v;have e:((bP<|cD n).filter λv=>aT<|cF (fw n (k+1)<|bP<|cD n) v=cF c v)=bP (cD n):=by rw[OF];intro v j;have I:=jz.mp j;refine vL<|DC ?_<|H _ _;rw[ui,qK];grind[vU,rN]
   (simp[*];lia);obtain⟨P,m⟩:=Classical.not_forall.mp t;obtain⟨m,L⟩:=Classical.not_imp.mp m;have l:∃e∈n.edges,kC e=ao/\∃p q,(e.a=p/\e.b=q\/e.a=q/\e.b=p)/\cF (fw n k<|bP<|cD n) p=cF c p/\cF (fw n k<|bP<|cD n) q≠cF c q/\q<cD n:=by
    apply Xe;intro s;have A:oV n.edges λv=>aT<|cF (fw n k<|bP<|cD n) v=cF c v:=by intro e d r;by_cases T:cF (fw n k<|bP<|cD n) e.a=cF c e.a;by_cases F:cF (fw n k<|bP<|cD n) e.b=cF c e.b;nofun;exact bG (e,d,r,e.a,e.b,.inl (aa,aa),T,F,(h e d).2) s;by_cases F:cF (fw n k<|bP<|cD n) e.b=cF c e.b;exact bG (e,d,r,e.b,e.a,.inr (aa,aa),F,T,(h e d).1) s;nofun
    grind
   obtain⟨e,d,r,p,q,J,R,V,E⟩:=l;have N:∀e∈n.edges,lD (fw n k<|bP<|cD n).length e:=λe d=>by rw[rN,G];exact h e d
   have o:cF (fw n (k+1)<|bP<|cD n) q=cF c q:=by rw[ui,qK];grind?[M']
   have:=Nj (f:=λv=>aT<|cF (fw n k<|bP<|cD n) v=cF c v) (g:=λv=>aT<|cF (fw n (k+1)<|bP<|cD n) v=cF c v) (by intro v j;have j:=iM j;refine vL<|DC ?_<|H _ _;rw[<-j,ui];exact vU N v) E (CC V)<|vL o;exact XCz Q this
 have b:∀v,v<cD n->cF (gp n) v=cF c v:=by
  intro v j;have g:=u<|cD n;rw[Nat.min_self]at g;have e:((bP<|cD n).filter λv=>aT<|cF (fw n (cD n)<|bP<|cD n) v=cF c v)=bP (cD n):=by grind?[OE]
  have:=(OF.mp e) v<|jz.mpr j;exact iM this
 have w:(gp n).length=cD n:=by show(fw n (cD n)<|bP<|cD n).length=_;rw[rN,G]
 refine(w,U _,?_,λx D v j=>S _ x D v j);intro e d r;rw[b _ (h e d).1,b _ (h e d).2];exact i e d r
def a_{b:Type}:af b->(b->ak)->ak
 |[],_=>0|a::l,f=>f a+a_ l f
def fF:∀{l:af α} {f g:α->ak},(∀a∈l,f a=g a)->a_ l f=a_ l g
 |[],_,_,_=>aa|a::l,f,g,h=>by show f a+a_ l f=g a+a_ l g;rw[h a gY,fF λb c=>h b<|cO _ c]
def GY(l:af α)(f g:α->ak):a_ l (λa=>f a+g a)=a_ l f+a_ l g:=by
 induction l with|nil=>show 0=0+0;grind|cons a l b=>show _+a_ l _=(f a+a_ l f)+(g a+a_ l g);rw[b];grind
def lC(l:af α)(c:ak)(f:α->ak):a_ l (λa=>c*f a)=c*a_ l f:=by
 induction l with|nil=>show 0=c*0;simp|cons a l b=>show _+a_ l _=c*(f a+a_ l f);rw[b];grind
def vV:∀{l:af α} {f:α->ak},(∀a∈l,0<=f a)->0<=a_ l f
 |[],_,_=>Hk|a::l,f,h=>Yb (h a gY)<|vV λb c=>h b<|cO _ c
def CP:∀{l:af α} {f:α->ak},(∀a∈l,0<=f a)->a_ l f=0->∀a∈l,f a=0
 |b::l,f,h,e,a,ha=>by have d:=vV λb c=>h b<|cO _ c;have g:f b+a_ l f=0:=e;rcases fq.mp ha with rfl|ha;grind;exact CP (λb c=>h b<|cO _ c) () a ha
def ue(n:ag):∀(l:af α) (f:ag->α->ak),aS n (λi=>a_ l<|f i)=a_ l λa=>aS n λi=>f i a
 |[],f=>mn λ_ _=>aa|a::l,f=>by show aS n (λi=>f i a+a_ l (f i))=(aS n λi=>f i a)+a_ l _;rw[rK,ue n l]
def CG(hi:i<n)(b:j<n)(a:i≠j)(h:∀c,c<n->c≠i->c≠j->f c=0):aS n f=f i+f j:=by
 have e:aS n f=aS n (λc=>(if c=i then f i else 0)+(if c=j then f j else 0)):=eP λc k=>by
  by_cases p:c=i
  ·subst p;rw[aG aa,aE a,Rat.add_zero]
  ·rw[aE p,Rat.zero_add];by_cases q:c=j;subst q;rw[aG aa];rw[aE q,h c k p q]
 rw[e,rK,kA hi<|λc _ a=>aE a,kA b<|λc _ a=>aE a,aG aa,aG aa]
structure nR(N:ag)(e:dM):Prop where
 a:e.a<N
 b:e.b<N
 j:e.a≠e.b
 n:cM e.g
 p:cM e.h
 m:cM e.opening
 i:cM e.gives
 l:cM e.room
 g:0<aN e.g
 o:0<=aN e.opening
def kW(e:dM):ak:=aN e.g*aN e.opening
def vX(e:dM):aN (i_ e)=kW e:=iw
def XQ(h:nR N e):0<=kW e:=mU (by have:=h.g;grind) h.o
def MW(e:dM):kC e=ao↔0<kW e:=by unfold kC;have a:cM (i_ e):=gK _ _;rw[ug a,vX]
def sS(j:ag)(x:dq)(r:gc):(gu j x r).length=r.length:=by simp[gu]
def sU(hr:dI r):dI (gu j x r):=by
 intro y b;unfold gu at b;obtain⟨i,a⟩:=List.mem_iff_getElem?.mp b;rw[Ic]at a;cases e:r[i]? with
 |none=>rw[e]at a;cases a
 |some z=>rw[e]at a;have a:ai (if j=i then iP x z else z)=ai y:=a;by_cases h:j=i;grind[vS];rw[aE h]at a;cases a;exact hr _<|eC e
def rL(hr:dI r)(a:cM x)(b:j<r.length)(i:ag):bM (gu j x r) i=bM r i+if i=j then aN x else 0:=by
 unfold bM gu;rw[gO,gO,Ic];cases e:r[i]? with|none=>left|some z=>show aN (if j=i then iP x z else z)=aN z+_;by_cases h:i=j;subst h;rw[aG aa];rw[ud a<|hr z<|eC e];left;left
def sQ(hr:dI r)(a:cM x)(b:r.length=N+1)(c:j<=N)(y:ag->ak):dP N (gu j x r) y=dP N r y+if j<N then aN x*y j else 0:=by
 unfold dP;have e:(aS N λi=>bM (gu j x r) i*y i)=aS N λi=>bM r i*y i+(if i=j then aN x*y j else 0):=eP λi _=>by
  rw[rL hr a !_];by_cases h:i=j
  ·subst h;rw[aG aa,aG aa,Rat.add_mul]
  ·rw[aE h,aE h,Rat.add_zero,Rat.add_zero]
 rw[e,rK];congr 1;by_cases h:j<N;rw[aG h,kA h λi _ k=>aE k,aG aa];rw[aE h];exact mn λi k=>aE !_
def oU(x:ag->ak)(v:ag)(e:dM):ak:=if e.a=v then kW e*(x v- x e.b)else if e.b=v then kW e*(x v- x e.a)else 0
def kT(es:af dM)(x:ag->ak)(v:ag):ak:=a_ es<|oU x v
def uf(h:dM->ak)(v:ag)(e:dM):ak:=if e.a=v then-(kW e*h e)else if e.b=v then kW e*h e else 0
def qJ(es:af dM)(h:dM->ak)(v:ag):ak:=a_ es<|uf h v
def iY(e:dM):ak:=aN e.h
def sR(N v:ag)(r:gc)(e:dM):gc:=
 let c:=i_ e
 if e.a=v then gu N (dS (cG (-1))<|dS c e.h)<|gu e.b (dS (cG (-1)) c)<|gu v c r
 else if e.b=v then gu N (dS c e.h)<|gu e.a (dS (cG (-1)) c)<|gu v c r
 else r
def uh:aN (cG (-1))= -1:=by rw[vM];rfl
def XR(he:nR N e)(f:dI r)(i:r.length=N+1)(x:ag->ak):
  dI (sR N v r e)/\(sR N v r e).length=N+1/\dP N (sR N v r e) x=dP N r x+oU x v e/\bM (sR N v r e) N=bM r N+uf iY v e:=by
 unfold sR oU uf;have a:=he.a;have m:=he.b;have j:cM (i_ e):=gK _ _;by_cases k:e.a=v;subst k;rw[aG aa];have d:dI (gu e.a (i_ e) r):=sU f;have h:(gu e.a (i_ e) r).length=N+1:=by rw[sS,i]
 have c:dI (gu e.b (dS (cG (-1))<|i_ e)<|gu e.a (i_ e) r):=sU d;have g:(gu e.b (dS (cG (-1))<|i_ e)<|gu e.a (i_ e) r).length=N+1:=by rw[sS,h]
 refine(sU c,by rw[sS,g],?_,?_);rw[sQ c (gK _ _) g<|b_ _,sQ d (gK _ _) h !_,sQ f j i !_,iw,uh,vX];left;rw[rL c (gK _ _) ∅,rL d (gK _ _) !_,rL f j !_,aE !_,aE !_,iw,iw,uh,vX];unfold iY;grind;rw[aE k];by_cases l:e.b=v;subst l;rw[aG aa];have d:dI (gu e.b (i_ e) r):=sU f;have h:(gu e.b (i_ e) r).length=N+1:=by rw[sS,i]
 have c:dI (gu e.a (dS (cG (-1))<|i_ e)<|gu e.b (i_ e) r):=sU d;have g:(gu e.a (dS (cG (-1))<|i_ e)<|gu e.b (i_ e) r).length=N+1:=by rw[sS,h]
 refine(sU c,by rw[sS,g],?_,?_);rw[sQ c (gK _ _) g<|b_ _,sQ d (gK _ _) h !_,sQ f j i !_,iw,uh,vX];left;rw[rL c (gK _ _) ∅,rL d (gK _ _) !_,rL f j !_,aE !_,aE !_,iw,vX];unfold iY;left;left
def Nk(x:ag->ak):∀{a:af dM} {r:gc},(∀e∈a,nR N e)->dI r->r.length=N+1-> dI (a.foldl (sR N v) r)/\(a.foldl (sR N v) r).length=N+1/\dP N (a.foldl (sR N v) r) x=dP N r x+kT a x v/\bM (a.foldl (sR N v) r) N=bM r N+qJ a iY v
 |[],r,_,b,c=>(b,c,by show _=_+0;left,by show _=_+0;left)|e::a,r,h,b,c=>by obtain⟨o,n,m,l⟩:=XR (h e gY) b c x;obtain⟨k,j,i,g⟩:=Nk x (λf d=>h f<|cO _ d) o n;rw[fO];refine(k,j,?_,?_);rw[i,m];show dP N r x+oU x v e+kT a x v=dP N r x+(oU x v e+kT a x v);grind;rw[g,l];show bM r N+uf iY v e+qJ a iY v=bM r N+(uf iY v e+qJ a iY v);grind
def CM(k:ag):dI (cg k aU):=λx a=>by rw[(Ov.mp a).2];exact qL
def vQ(k i:ag):bM (cg k aU) i=0:=by unfold bM;grind?[DJ,pO]
def vP(hj:j<r.length)(x:dq)(i:ag):bM (r.set j x) i=if i=j then aN x else bM r i:=by unfold bM;grind
def CL(hr:dI r)(b:cM x):dI (r.set j x):=by intro y a;rcases Az a with h|h;exact hr y h;nofun
def GU(hv:v<N)(x:ag->ak):dP N ((cg (N+1) aU).set v<|cG 1) x=x v:=by
 unfold dP;have l:v<(cg (N+1) aU).length:=by simp;lia
 rw[kA hv λi _ k=>by rw[vP l,aE k,vQ,Rat.zero_mul],vP l,aG aa,vM];show 1*_=_;rw[Rat.one_mul]
def CU(hE:∀e∈n.edges,nR (cD n) e)(a:af ag)(i:v<cD n)(x:ag->ak):
  dI (oW n a v)/\(oW n a v).length=cD n+1/\dP (cD n) (oW n a v) x=(if cF a v=v then x v else kT n.edges x v)/\bM (oW n a v) (cD n)=(if cF a v=v then 0 else qJ n.edges iY v):=by
 unfold oW;by_cases h:cF a v=v;have b:a.getD v 0=v:=h;(nofun;grind?[CL,CM,pQ,GU,vP,vQ]);have b:¬a.getD v 0=v:=h;rw[aE b];obtain⟨g,f,d,c⟩:=Nk x (r:=cg (cD n+1) aU) hE (CM _) ();refine(g,f,?_,?_);refine Eq.trans d ?_;(simp_all[dP,mn,vQ];grind?);refine Eq.trans c ?_;(simp[vQ];grind?)
def XA:∀{c:af dM},(∀e∈c,nR N e)->∀x:ag->ak,(aS N λv=>x v*kT c x v)=a_ c λe=>kW e*((x e.a- x e.b)*(x e.a- x e.b)):=by
 intro c f x;have g:(aS N λv=>x v*kT c x v)=aS N λv=>a_ c λe=>x v*oU x v e:=eP λv _=>by unfold kT;rw[lC]
 rw[g,ue];refine fF λe d=>?_;have ok:=f e d;rw[CG ok.a ok.b ok.j];all_goals (unfold oU;grind?)
def Xz(hE:∀e∈es,nR N e)(h:∀v,v<N->x v=0\/kT es x v=0):oV es x:=by
 have z:(a_ es λe=>kW e*((x e.a- x e.b)*(x e.a- x e.b)))=0:=by rw[<-XA hE];grind[mn]
 intro e d c;grind[CP,mU,XQ,Xm,MW]
def MR(hE:∀e∈n.edges,nR (cD n) e)(g:∀v,v<cD n->cF (gp n) v=v->x v=0)(h:∀v,v<cD n->x v=0\/kT n.edges x v=0):∀v,v<cD n->x v=0:=by have G:=XC λe d=>((hE e d).a,(hE e d).b);intro v c;have f:=Xz hE h;rw[<-G.a x f v c];have i:=G.b v c;exact g _ !_<|G.a (cF<|gp n) G.c v c
def zV(n:fY)(h:dM->ak)(x:ag->ak):Prop:=∀v,v<cD n->if cF (gp n) v=v then x v=0 else kT n.edges x v=qJ n.edges h v
def Xu(hE:∀e∈n.edges,nR (cD n) e)(x:ag->ak):(∀r∈(bP<|cD n).map (oW n<|gp n),iN (cD n) r x=0)↔zV n iY x:=by constructor;intro h v a;have:=h _<|cJ.mpr (v,jz.mpr a,aa);obtain⟨_,_,d,c⟩:=CU hE (gp n) a x;unfold iN at this;left;intro h r b;obtain⟨v,a,rfl⟩:=cJ.mp b;have a:=jz.mp a;obtain⟨_,_,d,c⟩:=CU hE (gp n) a x;have:=h v a;unfold iN;grind
def Xt(hE:∀e∈n.edges,nR (cD n) e):(pT n).length=cD n/\dI (pT n)/\∀x,zV n iY x↔∀i,i<cD n->x i=bM (pT n) i:=by
 have f:((bP<|cD n).map<|oW n<|gp n).length=cD n:=();have g:∀r∈(bP<|cD n).map (oW n<|gp n),dI r/\r.length=cD n+1:=by intro r d;obtain⟨v,a,rfl⟩:=cJ.mp d;obtain⟨s,p,_,_⟩:=CU hE (gp n) (jz.mp a)<|λ_=>0;symm
 have t:∀x,(∀r∈(bP<|cD n).map (oW n<|gp n),dP (cD n) r x=0)->∀i,i<cD n->x i=0:=by
  intro x m;have c:∀v,v<cD n->(if cF (gp n) v=v then x v else kT n.edges x v)=0:=by intro v a;obtain⟨_,_,o,_⟩:=CU hE (gp n) a x;nofun
  refine MR hE (λv a q=>?_) λv a=>?_;all_goals left
 obtain⟨b,l,k,j,h⟩:=MJ f g t;have e:pT n=b:=by unfold pT;rw[l];rfl
 rw[e];exact(k,j,λx=>by rw[<-Xu hE x];exact h x)
def MP(hE:∀e∈n.edges,nR (cD n) e)(h:zV n iY x):pT n=(bP<|cD n).map λi=>nP<|x i:=by obtain⟨f,d,c⟩:=Xt hE;have:=(c x).mp h;refine uL ∅ λi a b=>?_;rw[Ia,Oz,this i ∅];unfold bM;rw[gO,cK a];exact(d _<|ph a).symm
def gJ(c i:ag):ag:=if i<c then i else i+1
def sN(c:ag):ak:=if c%2=0 then 1 else-1
def Xq(c:ag):sN (c+1)= - sN c:=by unfold sN;rcases Nat.mod_two_eq_zero_or_one c with h|h<;>rw[Nat.add_mod,h]<;>rfl
def br:ag->(ag->ag->ak)->ak
 |0,_=>1|n+1,M=>aS (n+1) λc=>sN c*M c 0*br n λi r=>M (gJ c i)<|r+1
def bR(M:ag->ag->ak)(c:ag)(u:ag->ak):ag->ag->ak:=λi=>if i=c then u else M i
def fW(M:ag->ag->ak)(c:ag)(u:ag->ak):bR M c u c=u:=aG aa
def fX(u:ag->ak)(h:i≠c):bR M c u i=M i:=aE h
def GK(hi:i<n):gJ c i<n+1:=by unfold gJ;split<;>lia
def Xo(c i:ag):gJ c i≠c:=by unfold gJ;split<;>left
def jw:∀{n:ag} {M a:ag->ag->ak},(∀c r,c<n->r<n->M c r=a c r)->br n M=br n a
 |0,_,_,_=>aa|n+1,M,a,h=>by refine eP λc d=>?_;rw[h c 0 d ¬_,jw λi r b e=>h (gJ c i) (r+1) (GK b) ∅]
def xO(d c:ag):ag:=if c<d then c else c- 1
def MK(h:c≠d):gJ d i=c↔i=xO d c:=by (simp[gJ,xO];lia)
def Xk(hc:c<n+1)(a:d<n+1)(h:c≠d):xO d c<n:=by grind[xO]
def GP(h:c≠d)(u:ag->ak):(λi r=>bR M c u (gJ d i)<|r+1)=bR (λi r=>M (gJ d i)<|r+1) (xO d c) (λr=>u<|r+1):=by
 funext i r;by_cases e:i=xO d c;·have a:=(MK h).mpr e;simp_all[fW]
 ·have a:gJ d i≠c:=λq=>e<|(MK h).mp q;(simp[*,fX])
def GO(u:ag->ak):(λi r=>bR M c u (gJ c i)<|r+1)=λi r=>M (gJ c i)<|r+1:=by simp_all[fX,Xo]
def G_:∀{n:ag} {M:ag->ag->ak} {c:ag} {u w:ag->ak} {a b:ak},c<n->br n (bR M c λr=>a*u r+b*w r)=a*br n (bR M c u)+b*br n (bR M c w)
 |n+1,M,c,u,w,a,b,g=>by show aS (n+1) _=a*aS (n+1) _+b*aS (n+1) _;rw[<-fD,<-fD,<-rK];refine eP λd f=>?_;by_cases e:c=d;subst e;rw[fW,fW,fW,GO,GO,GO];grind;rw[fX _ (λq:d=c=>e q.symm),fX _ (λq:d=c=>e q.symm),fX _ (λq:d=c=>e q.symm),GP e,GP e,GP e,G_<|Xk g f e];grind
def rO(hc:c<n):br n (bR M c λr=>u r+w r)=br n (bR M c u)+br n (bR M c w):=by have:=G_ (M:=M) (u:=u) (w:=w) (a:=1) (b:=1) hc;nofun
def vW(hc:c<n):br n (bR M c λr=>a*u r)=a*br n (bR M c u):=by have:=G_ (M:=M) (u:=u) (w:=u) (a:=a) (b:=0) hc;left
def CS:∀{n:ag} {M:ag->ag->ak} {c:ag},c+1<n->(∀r,M c r=M (c+1) r)->br n M=0
 |n+1,M,c,g,h=>by
  show aS (n+1) _=0;rw[CG (i:=c) (Nat.le_of_lt (_)) g ¬_]
  ·have e:(λi r=>M (gJ c i)<|r+1)=λi r=>M (gJ (c+1) i)<|r+1:=by
    funext i r;unfold gJ;by_cases m:i<c;·lia
    ·grind
   rw[e,Xq,h];grind
  ·intro d j l k;have f:br n (λi r=>M (gJ d i)<|r+1)=0:=by
    by_cases e:d<c
    ·refine CS (c:=c- 1) (by lia) λr=>?_;have b:gJ d (c- 1)=c:=by unfold gJ;rw[aE ()];lia
     have a:gJ d (c- 1+1)=c+1:=by unfold gJ;rw[aE !_];left
     rw[b,a,h]
    ·refine CS (c:=c) (by left) λr=>?_;have b:gJ d c=c:=by unfold gJ;rw[aG !_]
     have a:gJ d (c+1)=c+1:=by unfold gJ;rw[aG !_]
     rw[b,a,h]
   rw[f];nofun
def vR(h:c≠d)(u w:ag->ak):bR (bR M c u) d w=bR (bR M d w) c u:=by grind[fX,fW]
def CJ(M:ag->ag->ak)(c:ag):bR M c (M c)=M:=by grind[fW,fX]
def XJ(hc:c+1<n)(u w:ag->ak):br n (bR (bR M c u) (c+1) w)= - br n (bR (bR M c w) (c+1) u):=by
 have z:∀x:ag->ak,br n (bR (bR M c x) (c+1) x)=0:=λx=>CS hc λr=>by rw[fW,fX _ ¬_,fW]
 have e:=z λr=>u r+w r;rw[rO ()]at e;rw[vR (by simp:c≠c+1),vR (by ac_rfl:c≠c+1),rO (by apply Nat.le_of_lt;solve_by_elim),rO (by grind)]at e;(simp_all[vR];grind?)
def Hc:∀{k n:ag} {M:ag->ag->ak} {c:ag},c+k+1<n->(∀r,M c r=M (c+k+1) r)->br n M=0
 |0,n,M,c,h,e=>CS h e|k+1,n,M,c,h,e=>by
  have s:=XJ (M:=M) (c:=c+k+1) h (M<|c+k+1)<|M<|c+k+1+1;have a:bR (bR M (c+k+1)<|M<|c+k+1) (c+k+1+1) (M<|c+k+1+1)=M:=by rw[CJ,CJ]
  rw[a]at s;rw[s];have z:br n (bR (bR M (c+k+1)<|M<|c+k+1+1) (c+k+1+1)<|M<|c+k+1)=0:=by refine Hc (k:=k) (c:=c) (Nat.le_of_lt (_)) λr=>?_;rw[fX _ !_,fX _ !_,fX _ ¬_,fW];exact e r
  rw[z];rfl
def Ha(hc:c<n)(b:d<n)(a:c≠d)(e:∀r,M c r=M d r):br n M=0:=by rcases Nat.lt_or_gt_of_ne a with h|h;obtain⟨k,rfl⟩:∃k,d=c+k+1:=(d- c- 1,());exact Hc b e;obtain⟨k,rfl⟩:∃k,c=d+k+1:=(c- d- 1,());exact Hc hc λr=>(e r).symm
def Hb(hl:l<n):∀{m:ag} (f:ag->ak) (C:ag->ag->ak),br n (bR M l λr=>aS m λc=>f c*C c r)=aS m λc=>f c*br n (bR M l<|C c)
 |0,f,C=>by show br n (bR M l λ_=>0)=0;have:=vW (M:=M) (u:=λ_=>0) (a:=0) hl;have e:(λ_:ag=>(0:ak)*0)=λ_=>0:=();rw[e]at this;rw[this];simp|m+1,f,C=>by show br n (bR M l λr=>(aS m λc=>f c*C c r)+f m*C m r)=(aS m λc=>f c*br n (bR M l<|C c))+f m*br n (bR M l<|C m);rw[rO hl,Hb hl f C,vW hl]
def Ni:∀(n:ag),br n (λc r=>if c=r then 1 else 0)=1
 |0=>aa|n+1=>by
  show aS (n+1) _=1;rw[kA (j:=0) ¬_]
  ·have e:(λi r=>if gJ 0 i=r+1 then(1:ak)else 0)=λi r=>if i=r then 1 else 0:=by
    funext i r;have b:gJ 0 i=i+1:=aE ¬_;rw[b];by_cases h:i=r;·rw[aG h,aG (_)]
    ·rw[aE h,aE ∅]
   rw[e,Ni n];unfold sN;simp;try grind
  ·intro i _ a;dsimp only;rw[aE a];nofun
def iz(q:ak):Prop:=∃z:ah,q=z
def iz.a1(ha:iz a)(c:iz b):iz (a+b):=by obtain⟨x,rfl⟩:=ha;obtain⟨y,rfl⟩:=c;exact(x+y,(rQ x y).symm)
def iz.a0(ha:iz a)(c:iz b):iz (a*b):=by obtain⟨x,rfl⟩:=ha;obtain⟨y,rfl⟩:=c;exact(x*y,(dF x y).symm)
def iz.a2{n:ag}{f:ag->ak}(h:∀i,i<n->iz (f i)):iz (aS n f):=by
 induction n with|zero=>exact(0,aa)|succ n a=>exact(a λi b=>h i (_)).a1<|h n (_)
def CQ:∀{n:ag} {M:ag->ag->ak},(∀c r,c<n->r<n->iz (M c r))->iz (br n M)
 |0,_,_=>(1,aa)|n+1,M,h=>by refine iz.a2 λc b=>((?_:iz (sN c)).a0<|h c 0 b (by ac_rfl)).a0<|CQ λi r a d=>h _ _ (GK a) (by ac_rfl);unfold sN;split;exact(1,aa);exact(-1,aa)
def XN(a:ak)(d:c<n)(e:k<n)(b:c≠k):br n (bR M c λr=>M c r+a*M k r)=br n M:=by rw[rO d,CJ,vW d,Ha (M:=bR M c<|M k) d e b λr=>by rw[fW,fX _<|λq=>b q.symm]];left
def Hd(hk:k<n)(M:ag->ag->ak)(w:ag->ak):∀j,j<=n->br n (λc r=>if c<j/\c≠k then M c r+w c*M k r else M c r)=br n M
 |0,_=>by refine jw λc r _ _=>?_;rw[aE ¬_]|j+1,a=>by rw[<-Hd hk M w j !_];by_cases e:j=k;grind?;rw[<-XN (M:=λc r=>if c<j/\c≠k then M c r+w c*M k r else M c r) (w j) (_) hk e];refine jw λc r _ _=>?_;by_cases h:c=j;subst h;rw[fW,aG ((_),e),aE ¬_,aE ¬_];rw[fX _ h];by_cases b:c<j/\c≠k;left;(simp[*];lia)
def G'(N:ag->ag->ak)(v u:ag->ak)(x:ak):∀j,j<=n->br n (λc r=>if c<j then N c r+x*(v c*u r)else N c r)=br n N+x*aS j λc=>v c*br n (bR N c u)
 |0,_=>by
  have e:br n (λc r=>if c<0 then N c r+x*(v c*u r)else N c r)=br n N:=jw λc r _ _=>by rw[aE ¬_]
  rw[e];show br n N=br n N+x*0;left
 |j+1,i=>by
  have b:=G' (n:=n) N v u x j !_;have g:br n (λc r=>if c<j+1 then N c r+x*(v c*u r)else N c r)=br n (bR (λc r=>if c<j then N c r+x*(v c*u r)else N c r) j λr=>N j r+(x*v j)*u r):=by refine jw λc r _ _=>?_;by_cases h:c=j;subst h;rw[fW];left;rw[fX _ h];by_cases a:c<j;left;left
  have f:br n (bR (λc r=>if c<j then N c r+x*(v c*u r)else N c r) j<|N j)=br n (λc r=>if c<j then N c r+x*(v c*u r)else N c r):=by refine jw λc r _ _=>?_;by_cases h:c=j;subst h;rw[fW,aE ¬_];rw[fX _ h]
  have d:br n (bR (λc r=>if c<j then N c r+x*(v c*u r)else N c r) j u)=br n (bR N j u):=by rw[<-Hd (show j<n by symm) (bR N j u) (λc=>x*v c) j (by left)];refine jw λc r _ _=>?_;by_cases h:c=j;subst h;rw[fW,aE ¬_,fW];rw[fX _ h];by_cases a:c<j;rw[aG a,fX _ h,fW];left;rw[aE a,aE ∅,fX _ h]
  rw[g,rO (by assumption),vW (),f,d,b];show _=_+x*(aS j _+v j*br n (bR N j u));grind
def XM(N:ag->ag->ak)(v u:ag->ak)(x:ak):br n (λc r=>N c r+x*(v c*u r))=(1- x)*br n N+x*br n (λc r=>N c r+v c*u r):=by
 have a:∀x:ak,br n (λc r=>N c r+x*(v c*u r))=br n N+x*aS n λc=>v c*br n (bR N c u):=λx=>by rw[<-G' N v u x n<|b_ _];exact jw λc r b _=>by rw[aG b]
 have e:br n (λc r=>N c r+v c*u r)=br n (λc r=>N c r+1*(v c*u r)):=jw λc r _ _=>by nofun
 rw[e,a x,a 1];grind
structure kB where
 c:ah
 d:ah
 v:ag->ah
 u:ag->ah
def kB.w(e:kB):ak:=(e.c:ak)/(e.d:ak)
def rM(M:ag->ag->ak)(a:af kB):ag->ag->ak:=λc r=>M c r+a_ a λe=>e.w*((e.v c:ak)*(e.u r:ak))
def xQ(M:ag->ag->ak)(a:af kB):ag->ag->ak:=λc r=>M c r+a_ a λe=>(e.v c:ak)*(e.u r:ak)
def gx(es:af kB):ah:=(es.map (·.d)).foldr (· * ·) 1
def mS(es:af kB):ag:=(es.map λe=>e.d.natAbs+2*e.c.natAbs).foldr (· * ·) 1
def uj(B:ag)(q:ak):Prop:=∃z:ah,q=z/\z.natAbs<=B
def GR:∀(f:af kB) (M:ag->ag->ak),(∀e∈f,e.d≠0)->(∀fs,fs.Sublist f->uj W (br n<|xQ M fs))->uj (mS f*W) ((gx f:ak)*br n (rM M f))
 |[],M,_,h=>by have:=h []<|G1 _;have e:br n (rM M [])=br n (xQ M []):=aa;rw[e];obtain⟨z,F,G⟩:=this;exact(z,by rw[F];show((1:ah):ak)*z=z;have:((1:ah):ak)=1:=aa;rw[this];nofun,by show z.natAbs<=1*W;nofun)
 |e::f,M,j,h=>by
  have C:=GR f M (λx g=>j x<|cO _ g) λfs i=>h fs<|i.cons e;have B:=GR f (λc r=>M c r+(e.v c:ak)*(e.u r:ak)) (λx g=>j x<|cO _ g) λfs i=>by
   have:=h (e::fs)<|i.cons_cons e;have q:xQ M (e::fs)=xQ (λc r=>M c r+(e.v c:ak)*(e.u r:ak)) fs:=by funext c r;show M c r+((e.v c:ak)*(e.u r:ak)+a_ fs _)=(M c r+(e.v c:ak)*(e.u r:ak))+a_ fs _;grind
   rwa[q]at this
  obtain⟨a,ha,l⟩:=C;obtain⟨b,E,k⟩:=B;have D:(e.d:ak)≠0:=λq=>j e (_)<|sZ.mp q;have A:br n (rM M (e::f))=br n (λc r=>rM M f c r+e.w*((λc=>(e.v c:ak)) c*(λr=>(e.u r:ak)) r)):=by refine jw λc r _ _=>?_;show M c r+(e.w*((e.v c:ak)*(e.u r:ak))+a_ f _)=(M c r+a_ f _)+e.w*((e.v c:ak)*(e.u r:ak));grind
  have y:br n (λc r=>rM M f c r+(λc=>(e.v c:ak)) c*(λr=>(e.u r:ak)) r)=br n (rM (λc r=>M c r+(e.v c:ak)*(e.u r:ak)) f):=by refine jw λc r _ _=>?_;show(M c r+a_ f _)+(e.v c:ak)*(e.u r:ak)=(M c r+(e.v c:ak)*(e.u r:ak))+a_ f _;grind
  have t:gx (e::f)=e.d*gx f:=aa;have s:mS (e::f)=(e.d.natAbs+2*e.c.natAbs)*mS f:=aa;refine((e.d- e.c)*a+e.c*b,?_,?_);rw[A,XM,y,t,dF,rQ,dF,dF,<-ha,<-E];have hw:e.d*e.w=e.c:=by unfold kB.w;grind
  generalize br n (rM M f)=X;generalize br n (rM (λc r=>M c r+(e.v c:ak)*(e.u r:ak)) f)=Y;have p:e.d*(gx f:ak)*((1- e.w)*X+e.w*Y)=(gx f:ak)*((e.d- e.d*e.w)*X+e.d*e.w*Y):=();rw[p,hw];left;rw[s];have o:((e.d- e.c)*a+e.c*b).natAbs<=(e.d- e.c).natAbs*a.natAbs+e.c.natAbs*b.natAbs:=by have:=Int.natAbs_add_le ((e.d- e.c)*a)<|e.c*b;rwa[QL,QL]at this
  have m:(e.d- e.c).natAbs<=e.d.natAbs+e.c.natAbs:=Int.natAbs_sub_le ..
  calc((e.d- e.c)*a+e.c*b).natAbs<=(e.d- e.c).natAbs*a.natAbs+e.c.natAbs*b.natAbs:=o
   _<=(e.d.natAbs+e.c.natAbs)*(mS f*W)+e.c.natAbs*(mS f*W):=Nat.add_le_add (uE m l) (Oi _ k)
   _=(e.d.natAbs+2*e.c.natAbs)*mS f*W:=by rw[<-Nat.add_mul,Oj];congr 1;lia
def dW(A:ag->ag->ak)(k:ag):ag->ag->ak:=λc r=>if c<k then A r c else if c=r then 1 else 0
def Ng(h:∀r,r<n->u r=w r):br n (bR M l u)=br n (bR M l w):=by refine jw λc r b a=>?_;by_cases e:c=l;simp_all[fW];simp_all[fX]
def Nc(hD:D≠0)(i:br n V=D){a f:ag->ak}(h:∀r,r<n->D*a r=aS n λl=>f l*V l r)(d:l<n):br n (bR V l a)=f l:=by have e:D*br n (bR V l a)=br n (bR V l λr=>D*a r):=(vW d).symm;rw[Ng h,Hb d]at e;rw[kA d]at e;grind[CJ];intro c g b;rw[Ha d g (λq=>b q.symm) λr=>by rw[fW,fX _ b]];nofun
structure um(n m k:ag)(A R:ag->ag->ak)(d:ak):Prop where
 d0:d≠0
 dv:br n (dW A k)=d
 a2:∀j,j<m->∀r,r<n->d*A r j=aS n λl=>R l j*dW A k l r
def um.a4(n m:ag)(A:ag->ag->ak):um n m 0 A A 1:=by
 refine(⋯,?_,λj _ r a=>?_);have e:dW A 0=λc r=>if c=r then 1 else 0:=by funext c r;unfold dW;rfl
 rw[e,Ni];rw[kA a];unfold dW;nofun;intro l _ b;unfold dW;nofun
def um.a0(B:um n m k A R d)(a:l<n)(b:j<m):br n (bR (dW A k) l λr=>A r j)=R l j:=Nc B.d0 B.dv (B.a2 j b) a
def Nl(A:ag->ag->ak)(k:ag):dW A (k+1)=bR (dW A k) k λr=>A r k:=by funext c r;by_cases h:c=k;subst h;rw[fW];unfold dW;nofun;rw[fX _ h];unfold dW;lia
def pP(k:ag)(R:ag->ag->ak)(d:ak):ag->ag->ak:=λl j=>if l=k then R k j else(R k k*R l j- R l k*R k j)/d
def um.a7(B:um n m k A R d)(g:k<n)(b:k<m)(f:R k k≠0):um n m (k+1) A (pP k R d) (R k k):=by
 refine(f,by rw[Nl,B.a0 g b],λj h r a=>?_);have o:=B.a2 j h r a;have i:=B.a2 k b r a;have q:=B.d0;have c:d*(aS n λl=>pP k R d l j*dW A (k+1) l r)=R k k*(d*A r j)- R k j*(d*A r k)+d*(R k j*A r k):=by
  rw[o,i,<-fD,<-fD,<-fD,<-vN];have a:d*(R k j*A r k)=aS n λl=>if l=k then d*(R k j*A r k)else 0:=by grind[kA]
  rw[a,<-rK];refine eP λl p=>?_;rw[Nl];unfold pP;by_cases e:l=k;·grind[fW]
  ·rw[fX _ e];left
 grind
def um.a5(B:um n m n A R d)(c:j<m)(b:r<n):
  (aS n λl=>A r l*(R l j/d))=A r j:=by
 have f:=B.d0;have h:=B.a2 j c r b;have a:d*(aS n λl=>A r l*(R l j/d))=aS n λl=>R l j*dW A n l r:=by rw[<-fD];refine eP λl e=>?_;unfold dW;left
 grind
def um.a6(B:um n m n A R d){v:ag->ak}(h:∀r,r<n->(aS n λl=>A r l*v l)=0):∀l,l<n->v l=0:=by
 intro l b;have:=Nc (a:=λ_=>0) B.d0 B.dv (λr c=>by
  have e:(aS n λl=>v l*dW A n l r)=aS n λl=>A r l*v l:=eP λl b=>by unfold dW;rw[aG b];grind
  rw[e];nofun) b
 rw[<-this];have z:=vW (M:=dW A n) (u:=λ_=>0) (a:=0) b;nofun
def ML:∀(n:ag) (f:ag->ak),aS (n+1) f=f 0+aS n λi=>f<|i+1
 |0,f=>by show 0+f 0=f 0+0;grind|n+1,f=>by show aS (n+1) f+f (n+1)=f 0+(aS n (λi=>f<|i+1)+f (n+1));rw[ML n f];grind
structure sW(n k:ag)(R:ag->ag->ak):Prop where
 a0:∀l j,k<=l->l<n->k<=j->j<n->l≠j->R l j<=0
 a2:∀l,k<=l->l<n->0<=aS (n- k) λi=>R l (k+i)
def MM(h:∀i,i<n->f i<=0):aS n f<=0:=by
 have:=MN (n:=n) (f:=λi=> -1*f i) λi a=>by grind
 rw[fD]at this;grind
def sW.a1(R:ag->ag->ak)(a:k<n)(l:ag):(aS (n- k) λi=>R l<|k+i)=R l k+aS (n-(k+1)) λi=>R l<|k+1+i:=by obtain⟨m,rfl⟩:∃m,n=k+m+1:=(n- k- 1,());have b:k+m+1- k=m+1:=!_;(simp_all[ML];lia)
def sW.a5(D:sW n k R)(a:k<n):0<=R k k:=by have h:=D.a2 k (b_ _) a;rw[sW.a1 R a]at h;have:=MM (n:=n-(k+1)) (f:=λi=>R k<|k+1+i) λi b=>D.a0 k _ (b_ _) a (by lia) () !_;grind
def Xp(h:∀i,i<n->f i<=0)(b:0<=aS n f):∀i,i<n->f i=0:=by
 induction n with|zero=>intro i c;nofun|succ n a=>
  unfold aS at b;have c:=MM (n:=n) (f:=f) λi k=>h i (by lia);have d:=h n (by lia);have e:f n=0:=by grind
  have g:=a (λi k=>h i (by lia)) (by grind);intro i k;by_cases l:i=n;subst l;exact e;exact g i (by lia)
def sW.a3(D:sW n k R)(a:k<n)(b:R k k=0):∀j,k<=j->j<n->R k j=0:=by have h:=D.a2 k (b_ _) a;rw[sW.a1 R a,b]at h;intro j d c;by_cases e:j=k;nofun;have:=Xp (n:=n-(k+1)) (f:=λi=>R k<|k+1+i) (λi g=>D.a0 k _ (b_ _) a (by lia) () !_) () (j-(k+1)) !_;grind?
def xS{a d:ak}(c:0<=a)(b:0<d):0<=a/d:=by grind[mU,Hl]
def MQ{a b:ak}(d:a<=0)(c:b<=0):0<=a*b:=by have:=mU (a:= -a) (b:= -b) () ();grind
def CK{a b:ak}(d:0<=a)(c:b<=0):a*b<=0:=by have:=mU (b:= -b) d ();grind
def sW.a4(D:sW n k R)(c:k<n)(m:0<d)(h:0<R k k):sW n (k+1) (pP k R d):=by
 refine(λl j q b t f g=>?_,λl q b=>?_);·unfold pP;rw[aE !_];have p:=D.a0 l j (by lia) b (by lia) f g;have o:=D.a0 l k (by left) b (_) c (by left);have r:=D.a0 k j (by ac_rfl) c (by left) f !_;have w:=CK (x_ h) p;have v:=MQ o r;have u:=xS (a:= -(R k k*R l j- R l k*R k j)) () m;grind
 ·have e:(aS (n-(k+1)) λi=>pP k R d l<|k+1+i)=(R k k*(aS (n- k) λi=>R l<|k+i)- R l k*(aS (n- k) λi=>R k<|k+i))/d:=by
   rw[sW.a1 R c,sW.a1 R c];have s:(aS (n-(k+1)) λi=>pP k R d l<|k+1+i)=aS (n-(k+1)) λi=>d⁻¹ *(R k k*R l (k+1+i)- R l k*R k (k+1+i)):=eP λi _=>by unfold pP;rw[rR];grind
   rw[s,fD,vN,fD,fD];grind
  rw[e];refine xS ?_ m;have p:=mU (x_ h)<|D.a2 l (by lia) b;have o:=CK (D.a2 k (_) c)<|D.a0 l k (by grind) b (by ac_rfl) c !_;grind
def zW(n k:ag)(A R:ag->ag->ak):Prop:=∀l,k<=l->l<n->∃c:ag->ak,c l≠0/\(∀r,k<=r->r≠l->c r=0)/\∀j,j<=n->(if j<k then 0 else R l j)=aS n λr=>c r*A r j
def zW.a2(n:ag)(A:ag->ag->ak):zW n 0 A A:=λl _ b=>(λr=>if r=l then 1 else 0,(),λr _ h=>aE h,λj _=>by rw[kA b λi _ a=>by dsimp only;rw[aE a];nofun];dsimp only;rw[aG aa];nofun)
def zW.a1(h:zW n k A R)(g:k<n)(v:d≠0)(t:R k k≠0):zW n (k+1) A (pP k R d):=λl u a=>by
 obtain⟨c,C,B,o⟩:=h l (by lia) a;obtain⟨e,z,y,m⟩:=h k (b_ _) g;refine(λr=>d⁻¹ *(R k k*c r- R l k*e r),?_,λr p f=>?_,λj b=>?_);·grind
 ·grind?
 ·have x:=o j b;have w:=m j b;have s:(aS n λr=>d⁻¹ *(R k k*c r- R l k*e r)*A r j)=d⁻¹ *(R k k*(aS n λr=>c r*A r j)- R l k*(aS n λr=>e r*A r j)):=by rw[<-fD,<-fD,<-vN,<-fD];exact eP λi _=>by grind
  rw[s];unfold pP;rw[aE (show ¬l=k by lia)];by_cases q:j<k;·grind
  ·grind
def zW.a0(h:zW n k A R)(D:sW n k R)(a:k<n)(b:R k k=0):∃c:ag->ak,c k≠0/\∀j,j<n->(aS n λr=>c r*A r j)=0:=by obtain⟨c,f,_,e⟩:=h k (b_ _) a;refine(c,f,λj d=>?_);rw[<-e j !_];by_cases q:j<k;nofun;rw[aE q];exact D.a3 a b j ∅ d
def xV(n:ag)(S:ah)(A:ag->ag->ak):Prop:=∀k l j,k<=n->l<n->j<=n->iz ((S:ak)*br n (bR (dW A k) l λr=>A r j))
structure sV(n k:ag)(S:ah)(A R:ag->ag->ak)(d:ak)(z:ag->ag->ah)(b:ah):Prop where
 bq:um n (n+1) k A R d
 dd:sW n k R
 cm:zW n k A R
 dp:0<d
 bd:(b:ak)=S*d
 zd:∀l j,k<=l->l<n->k<=j->j<=n->(z l j:ak)=S*R l j
def zT(k:ag)(z:ag->ag->ah)(b:ah):ag->ag->ah:=λl j=>(z k k*z l j- z l k*z k j)/b
def kU{z:ah}:(0:ak)<(z:ak)↔0<z:=by have:(0:ak)=0:=aa;rw[<-this];exact X_
def sV.a6(h:sV n k S A R d z b)(a:0<S):0<b:=by rw[<-kU,h.bd];exact uw (kU.mpr a) h.dp
def sV.a1(h:sV n k S A R d z b)(f:0<S)(a:k<n):(z k k=0->R k k=0)/\(z k k≠0->0<R k k/\0<z k k):=by have e:=h.zd k k (b_ _) a (b_ _) !_;have c:=h.dd.a5 a;grind[sZ,kU,uw]
def sV.a4(h:sV n k S A R d z b)(i:0<S)(t:xV n S A)(c:k<n)(p:z k k≠0):
  sV n (k+1) S A (pP k R d) (R k k) (zT k z b) (z k k):=by
 have f:=((h.a1 i c).2 p).1;have s:=h.a6 i;have r:=h.dp;have m:=h.bq.a7 c (_) ();refine(m,h.dd.a4 c h.dp f,h.cm.a1 c () (),f,h.zd k k (b_ _) c (b_ _) !_,λl j u a v e=>?_);have g:=t (k+1) l j (_) a e;rw[m.a0 a !_]at g;obtain⟨q,w⟩:=g;have o:z k k*z l j- z l k*z k j=b*q:=by apply ya.mp;rw[qR,dF,dF,dF,h.bd,h.zd k k (b_ _) c (b_ _) !_,h.zd l j (by lia) a (by lia) e,h.zd l k (by left) a (_) (by left),h.zd k j (_) c (by left) e];grind[pP]
 (nofun;grind?[zT,wN])
def gy(B x:ak):Prop:= -B<=x/\x<=B
def gy.a2(h:gy A x)(e:gy B y):gy (A+B) (x+y):=by obtain⟨a,b⟩:=h;obtain⟨c,d⟩:=e;constructor<;>grind
def gy.a0(h:gy A x)(e:gy B y):gy (A*B) (x*y):=by obtain⟨a,b⟩:=h;obtain⟨c,d⟩:=e;have j:=mU (a:=A- x) (b:=B+y) () ();have i:=mU (a:=A+x) (b:=B- y) () ();have g:=mU (a:=A- x) (b:=B- y) () ();have f:=mU (a:=A+x) (b:=B+y) () ();constructor<;>grind
def gy.a1{B:ak}{n:ag}{f:ag->ak}(h:∀i,i<n->gy B (f i)):gy (n*B) (aS n f):=by
 induction n with|zero=>have e:((0:ag):ak)*B=0:=();rw[e];exact(by show-(0:ak)<=0;rfl,by show(0:ak)<=0;rfl)|succ n a=>have:=(a λi b=>h i (_)).a2<|h n (_);have e:((n+1:ag):ak)*B=n*B+B:=();rw[e];exact this
def mq(B:ag):ag->ag
 |0=>1|n+1=>(n+1)*(B*mq B n)
def GZ{B:ag}:∀{n:ag} {M:ag->ag->ak},(∀c r,c<n->r<n->gy B (M c r))->gy (mq B n:ag) (br n M)
 |0,_,_=>by show gy ((1:ag):ak) 1;have:(1:ak)=1:=aa;rw[this];exact(aa,aa)|n+1,M,h=>by
  show gy (((n+1)*(B*mq B n):ag):ak)<|aS (n+1) _;rw[Hj];refine gy.a1 λc b=>?_;rw[Hj];have s:gy 1 (sN c):=by
   unfold sN;split;·exact(aa,aa)
   ·exact(aa,(by rfl))
  have:=(s.a0<|h c 0 b (by simp)).a0<|GZ (M:=λi r=>M (gJ c i)<|r+1) λi r a d=>h _ _ (GK a) (by nofun);have e:(1:ak)*B*(mq B n:ag)=B*(mq B n:ag):=();rwa[e]at this
def MG{B:ag}{z:ah}:gy B (z:ak)↔z.natAbs<=B:=by have e:(B:ak)=((B:ah):ak):=aa;unfold gy;rw[e,<-Dg,Ab,Ab];omega
def XO{l B H:ag}(f:l<n)(j:1<=B)(o:∀c r,c<n->r<n->c≠l->gy B (M c r))(d:∀r,r<n->gy H (u r)):gy ((n*(H*mq B n):ag):ak) (br n<|bR M l u):=by
 have e:br n (bR M l u)=br n (bR M l λr=>aS n λc=>u c*(λc r=>if r=c then 1 else 0) c r):=Ng λr b=>by rw[kA b λi _ a=>by dsimp only;rw[aE<|λq=>a q.symm];simp];dsimp only;rw[aG aa];nofun
 rw[e,Hb f,Hj];refine gy.a1 λc h=>?_;rw[Hj];refine(d c h).a0<|GZ λm r g b=>?_;have k:(1:ak)<=B:=by have:(1:ak)<=B:=XZ.mpr j;symm
 by_cases q:m=l;subst q;rw[fW];split;exact((),k);exact((),(by grind?));(simp[*,fX])
def mR(σ:ag->aJ ag)(A:ag->ag->ak):ag->ag->ak:=λc r=>match σ c with|some j=>A r j|none=>if c=r then 1 else 0
def zS(k:ag):ag->aJ ag:=λc=>if c<k then ai c else aq
def vO(k l j:ag):ag->aJ ag:=λc=>if c=l then ai j else if c<k then ai c else aq
def He(A:ag->ag->ak)(k:ag):dW A k=mR (zS k) A:=by funext c r;unfold dW mR zS;(split<;>nofun)
def GN(A:ag->ag->ak)(k l j:ag):bR (dW A k) l (λr=>A r j)=mR (vO k l j) A:=by funext c r;by_cases h:c=l;simp[*,fW,mR,vO];rw[fX _ h];unfold dW mR vO;lia
def sP(M:ag->ag->ah)(a:af kB):ag->ag->ak:=λr j=>M r j+a_ a λe=>(e.v j:ak)*(e.u r:ak)
structure xU(n:ag)(es:af kB)(M:ag->ag->ah)(A:ag->ag->ak):Prop where
 b:∀r j,r<n->j<=n->A r j=M r j+a_ es λe=>e.w*((e.v j:ak)*(e.u r:ak))
 a:∀e∈es,e.d≠0
def sO(σ:ag->aJ ag)(e:kB):kB:=(e.c,e.d,λc=>match σ c with|some j=>e.v j|none=>0,e.u)
def zR(σ:ag->aJ ag)(M:ag->ag->ah):ag->ag->ak:=λc r=>match σ c with|some j=>M r j|none=>if c=r then 1 else 0
def pR(f:α->β)(g:β->ak):∀l:af α,a_ (l.map f) g=a_ l λa=>g<|f a
 |[]=>aa|a::l=>by show g (f a)+a_ (l.map f) g=_;rw[pR f g l];rfl
def GX{l:af α}{f:α->ak}(h:∀a∈l,f a=0):a_ l f=0:=by
 rw[fF h];induction l with|nil=>rfl|cons a l b=>show 0+a_ l _=0;rw[b λa ha=>h a<|cO _ ha];grind
def CI(P:xU n b M A)(d:∀c j,c<n->σ c=ai j->j<=n)(q:∀w,w.Sublist b->uj W (br n<|mR σ<|sP M w)):
  uj (mS b*W) ((gx b:ak)*br n (mR σ A)):=by
 have g:=GR (b.map<|sO σ) (zR σ M) (λe o=>by
  obtain⟨s,f,rfl⟩:=cJ.mp o;exact P.a s f) λw m=>by
   obtain⟨l,k,rfl⟩:=List.sublist_map_iff.mp m;have:=q l k;have e:br n (mR σ<|sP M l)=br n (xQ (zR σ M)<|l.map<|sO σ):=jw λc r _ _=>by
    unfold mR xQ zR;rw[pR];cases h:σ c with|none=>rw[GX λa _=>by unfold sO;dsimp only;rw[h];have:(0:ak)=0:=aa;rw[this];nofun];left|some j=>show(M r j:ak)+_=(M r j:ak)+_;congr 1;exact fF λa _=>by unfold sO;dsimp only;rw[h]
   rwa[e]at this
 have v:mS (b.map<|sO σ)=mS b:=by unfold mS;rw[eS];rfl
 have u:gx (b.map<|sO σ)=gx b:=by unfold gx;rw[eS];rfl
 have t:br n (rM (zR σ M)<|b.map<|sO σ)=br n (mR σ A):=jw λc r p i=>by
  unfold mR rM zR;rw[pR];cases h:σ c with|none=>rw[GX λa _=>by unfold sO;dsimp only;rw[h];have:(0:ak)=0:=aa;rw[this];nofun];left|some j=>show(M r j:ak)+_=A r j;rw[P.b r j i<|d c j p h];congr 1;exact fF λa _=>by unfold sO kB.w;dsimp only;rw[h]
 nofun
def CT:∀(c:af α) (f:af α->ak),(∀l,l.Sublist c->iz (f l))->∃W,∀l,l.Sublist c->uj W (f l)
 |[],f,h=>by obtain⟨z,b⟩:=h []<|G1 _;exact(z.natAbs,λl a=>by rw[List.sublist_nil.mp a];exact(z,b,b_ _))
 |e::c,f,h=>by
  obtain⟨k,i⟩:=CT c f λl a=>h l<|a.cons e;obtain⟨j,g⟩:=CT c (λl=>f (e::l)) λl a=>h (e::l)<|a.cons_cons e;refine(mX k j,λl a=>?_);cases a with
  |cons _ a=>obtain⟨z,b,d⟩:=i l a;exact(z,b,!_)
  |cons_cons _ a=>obtain⟨z,b,d⟩:=g _ a;exact(z,b,!_)
def iz.a3{c:Type}{f:c->ak}:∀{l:af c},(∀a∈l,iz<|f a)->iz (a_ l f)
 |[],_=>(0,aa)|a::l,h=>(h a (_)).a1<|iz.a3 λb d=>h b<|cO _ d
def zU(z:ah):iz (z:ak):=(z,aa)
def Xv(M:ag->ag->ah)(a:af kB)(r j:ag):iz (sP M a r j):=(zU _).a1<|iz.a3 λe _=>(zU _).a0<|zU _
def CH(σ:ag->aJ ag)(M:ag->ag->ah)(a:af kB)(c r:ag):iz (mR σ (sP M a) c r):=by
 unfold mR;cases σ c with|none=>show iz (if c=r then 1 else 0);split;exact(1,aa);exact(0,aa)|some j=>exact Xv M a r j
def GQ(P:xU n es M A):xV n (gx es) A:=λk l j e d f=>by rw[GN];obtain⟨W,b⟩:=CT es (λfs=>br n<|mR (vO k l j)<|sP M fs) λfs _=>CQ λc r _ _=>CH _ _ _ _ _;obtain⟨z,a,_⟩:=CI P (λc i g h=>by unfold vO at h;split at h;nofun;split at h;left;cases h) b;exact(z,a)
def XI(hc:c<n)(b:i<n)(a:c≠i)(u w:ag->ak):br n (bR (bR M c u) i w)= - br n (bR (bR M c w) i u):=by
 have z:∀x:ag->ak,br n (bR (bR M c x) i x)=0:=λx=>Ha hc b a λr=>by rw[fW,fX _ a,fW]
 have e:=z λr=>u r+w r;rw[rO b]at e;rw[vR a,vR a,rO hc,rO hc]at e;grind[vR]
def Nh(N:ag->ag->ak)(v u:ag->ak)(x:ak):br n (λc r=>N c r+x*(v c*u r))=br n N+x*aS n λc=>v c*br n (bR N c u):=by rw[<-G' N v u x n<|b_ _];simp_all[jw]
def XF(N:ag->ag->ak)(r u v:ag->ak)(x g:ak):
  (aS n λc=>v c*br n (bR (λc i=>N c i+x*(v c*u i)) c λi=>r i+x*(g*u i)))- g*br n (λc i=>N c i+x*(v c*u i))=(aS n λc=>v c*br n (bR N c r))- g*br n N:=by
 have q:∀c,c<n->br n (bR (λc i=>N c i+x*(v c*u i)) c λi=>r i+x*(g*u i))=br n (bR (λc i=>N c i+x*(v c*u i)) c r)+x*g*br n (bR N c u):=λc a=>by
  have e:(λi=>r i+x*(g*u i))=λi=>r i+(x*g)*u i:=();rw[e,rO a,vW a];have o:br n (bR (λc i=>N c i+x*(v c*u i)) c u)=br n (bR N c u):=by rw[<-Hd a (bR N c u) (λc=>x*v c) n<|b_ _];refine jw λi j l _=>?_;by_cases h:i=c;subst h;rw[fW,aE ¬_,fW];rw[fX _ h,fX _ h,fW];left
  rw[o]
 have w:∀c,c<n->br n (bR (λc i=>N c i+x*(v c*u i)) c r)=br n (bR N c r)+x*aS n λi=>(if i=c then 0 else v i)*br n (bR (bR N c r) i u):=λc a=>by rw[<-Nh];refine jw λi j l _=>?_;by_cases h:i=c;subst h;rw[fW,fW];left;rw[fX _ h,aE h,fX _ h]
 have b:(aS n λc=>aS n λi=>v c*((if i=c then 0 else v i)*br n (bR (bR N c r) i u)))=0:=by
  have e:(aS n λc=>aS n λi=>v c*((if i=c then 0 else v i)*br n (bR (bR N c r) i u)))=aS n λi=>aS n λc=> -1*(v i*((if c=i then 0 else v c)*br n (bR (bR N i r) c u))):=by
   have p:∀f:ag->ag->ak,(aS n λi=>aS n λj=>f i j)=aS n λj=>aS n λi=>f i j:=λf=>by
    have d:∀m k:ag,(aS m λi=>aS k λj=>f i j)=aS k λj=>aS m λi=>f i j:=by
     intro m k;induction m with|zero=>exact(mn λ_ _=>aa).symm|succ m s=>show(aS m λi=>aS k λj=>f i j)+(aS k λj=>f m j)=aS k λj=>(aS m λi=>f i j)+f m j;rw[s,rK]
    exact d n n
   rw[p];refine eP λi l=>eP λc a=>?_;grind[br,bR,XI,vR]
  have o:(aS n λi=>aS n λc=> -1*(v i*((if c=i then 0 else v c)*br n (bR (bR N i r) c u))))= -1*aS n λi=>aS n λc=>v i*((if c=i then 0 else v c)*br n (bR (bR N i r) c u)):=by simp[fD]
  grind
 have t:(aS n λc=>v c*br n (bR (λc i=>N c i+x*(v c*u i)) c λi=>r i+x*(g*u i)))=(aS n λc=>v c*br n (bR N c r))+x*(aS n λc=>aS n λi=>v c*((if i=c then 0 else v i)*br n (bR (bR N c r) i u)))+x*g*aS n λc=>v c*br n (bR N c u):=by rw[<-fD,<-fD,<-rK,<-rK];refine eP λc a=>?_;rw[q c a,fD];left
 rw[t,b,Nh];grind
abbrev fA:=Sum ah aC
def yD:fA->aB->da
 |.inl k,v=>YN k v|.inr x,v=>YM x v
def aci(w:bS):fA->ah
 |.inl k=>Yz k|.inr x=>hashStr w x
def tv:∀{k:fA} {v:aB},yD k v=ao->(∃i t,k=hJ i/\v=wu i t)\/(∃x t,k=De x/\v=Dl x t)
 |.inl i,v,h=>by obtain⟨t,e⟩:=Value.isInt_shape (k:=i) (v:=v) h;exact .inl (i,t,aa,e)
 |.inr x,v,h=>by obtain⟨t,e⟩:=Value.isStrOf_shape (x:=x) (v:=v) h;exact .inr (x,t,aa,e)
def ach(i:ah)(t:tm):yD (.inl i) (.int i t)=ao:=by simp[yD,YN]
def acg(x:aC)(t:tm):yD (.inr x) (.str x t)=ao:=by simp[yD,YM]
def acf(a b:ah):aT ((hJ a:fA)=hJ b)=(a==b):=(by left)
def acb(a b:aC):aT ((De a:fA)=De b)=aT (a=b):=()
def ace(a:ah)(b:aC):aT ((hJ a:fA)=De b)=aw:=CC (λq=>nomatch q)
def acd(a:aC)(b:ah):aT ((De a:fA)=hJ b)=aw:=CC (λq=>nomatch q)
def mx(prog:cn)(w:bS):PySem.KeyKind prog w fA where
 is:=yD
 hash:=aci w
 inj:=λv a b ha f=>by rcases tv ha with⟨i,t,rfl,rfl⟩|⟨x,t,rfl,rfl⟩;rcases tv f with⟨j,u,rfl,e⟩|⟨y,u,rfl,e⟩;injection e with c _;rw[c];exact nomatch e;rcases tv f with⟨j,u,rfl,e⟩|⟨y,u,rfl,e⟩;exact nomatch e;injection e with c _;rw[c]
 byValue:=λk v h=>by rcases tv h with⟨i,t,rfl,rfl⟩|⟨x,t,rfl,rfl⟩<;>rfl
 pyHash:=λd h=>by rcases tv d with⟨i,t,rfl,rfl⟩|⟨x,t,rfl,rfl⟩;exact wpAny_pyHash_int h;exact wpAny_pyHash_str h
 eqBool:=λg d h=>by rcases tv g with⟨i,t,rfl,rfl⟩|⟨x,t,rfl,rfl⟩;rcases tv d with⟨j,u,rfl,rfl⟩|⟨y,u,rfl,rfl⟩;rw[acf]at h;exact wpAny_eqBool_int h;rw[ace]at h;exact k5 i t y u _ _ _ _ h;rcases tv d with⟨j,u,rfl,rfl⟩|⟨y,u,rfl,rfl⟩;rw[acd]at h;exact C4 x t j u _ _ _ _ h;rw[acb]at h;exact wpAny_eqBool_str h
 «strs»:=λk x t v h=>by rcases tv h with⟨i,u,rfl,e⟩|⟨y,u,rfl,e⟩;exact nomatch e;injection e with c _;subst c;cases v<;>rfl
def ab5(prog:cn)(w:bS)(i:ah)(t:tm):(mx prog w).is (.inl i) (.int i t)=ao:=ach i t
def ab4(prog:cn)(w:bS)(x:aC)(t:tm):(mx prog w).is (.inr x) (.str x t)=ao:=acg x t
inductive aH where
 |f|e (b:da)|d (i:ah)|g (x:aC)|h (b:kS UInt8)|j (b:UInt64)|c (a:ax)|k (n:qQ)
 deriving Xd
def cy:aH->aB->Prop
 |.f,u=>u=HG|.e b,u=>u=Al b|.d i,u=>∃t,u=wu i t|.g x,u=>∃t,u=Dl x t|.h b,u=>∃t,u=YQ b t|.j b,u=>∃t,u=YO b t|.c a,u=>u=iB a|.k n,u=>u=qU n
def Y1(r:cy (.c a) u):u=.ref a:=r
def Y2(r:cy (.e a) u):u=.bool a:=r
def Y3(r:cy .f u):u=.none:=r
def X3(h:An R [] u):u=[]:=by cases h;rfl
def X4{x:α}{s:af α}{motive:(u:af β)->An R (x::s) u->Prop}(cons:∀{v t}(r:R x v)(g:An R s t),motive (v::t) (.cons r g)){u:af β}(h:An R (x::s) u):motive u h:=by cases h with|cons r g=>exact cons r g
local macro_rules|`(tactic|exists $f,$x:ident)=>`(tactic|(have h:=$f $x;clear $x;subst h))|`(tactic|injection $x:ident)=>`(tactic|first|exists X3,$x|exists Y1,$x|exists Y2,$x|exists Y3,$x|contradiction|exact(oT $x).elim|cases ($x:ident))|`(tactic|cases $x:ident)=>`(tactic|injection $x:ident)
abbrev dh:af aH->af aB->Prop:=An cy
def dh.a0(r:dh xs us):xs.length=us.length:=NV r
def dh.a1:∀{a:af aH} {b:af aB} {i:ag} {x:aH},dh a b->a[i]?=ai x->∃u,b[i]?=ai u/\cy x u
 |_,_,_,_,.nil,e=>by simp at e|_,_,0,_,.cons r _,e=>by simp at e;subst e;exact(_,aa,r)|_,_,i+1,x,.cons _ t,e=>by obtain⟨u,d,c⟩:=dh.a1 (i:=i) (x:=x) t (by simpa using e);exact(u,by simpa using d,c)
def dh.a6(r:cy x u):∀{a:af aH} {b:af aB} (i:ag),dh a b->dh (a.set i x) (b.set i u)
 |_,_,_,.nil=>.nil|_,_,0,.cons _ t=>.cons r t|_,_,i+1,.cons q t=>.cons q<|dh.a6 r i t
def dh.a2(h:dh b d)(s:dh a c):dh (b++a) (d++c):=by
 induction h with|nil=>exact s|cons r t i=>exact .cons r i
def dh.b1:∀{a:af aH} {b:af aB} (n:ag),dh a b->dh (a.take n) (b.take n)
 |_,_,0,_=>.nil|_,_,_+1,.nil=>.nil|_,_,n+1,.cons r t=>.cons r<|dh.b1 n t
def dh.a8:∀{a:af aH} {b:af aB} (n:ag),dh a b->dh (a.drop n) (b.drop n)
 |_,_,0,r=>r|_,_,_+1,.nil=>.nil|_,_,n+1,.cons _ t=>dh.a8 n t
def tw:aJ aH->aJ aB->Prop
 |some v,ai u=>cy v u|none,aq=>eA|_,_=>eo
def kI{a:Type}:af (a×aH)->af (a×aB)->Prop:=An λ(p:a×aH) (q:a×aB)=>p.1=q.1/\cy p.2 q.2
def lO:fA->aH
 |.inl i=>.d i|.inr x=>.g x
inductive lQ where
 |a (xs:af aH)
 |b (xs:af aH)
 |d (kvs:af (fA×aH))|h (kvs:af (af fA×aH))
 |j (S:ah->da) (n:ag)
 |c (C dx:ax) (fs:af (aC×aH))
 |e (x:ax)
 |m (fs:af (aC×aH))
 |p (f x:ax)
 |k (lo hi:ah)
 |g (o:cU) (u:lQ)
 |i (ps:kS aB)
 |l (φ:bT->Prop)
abbrev ay:=ax->aJ lQ
def bu(H:ay)(a:ax)(o:lQ):ay:=λb=>if b=a then ai o else H b
def bO:bu H a o a=ai o:=by unfold bu;rw[aG aa]
def aO(h:b≠a):bu H a o b=H b:=by unfold bu;rw[aE h]
def ab1{H:ay}(h:H a=ai o)(c:H b=ai u)(d:o≠u):a≠b:=!_
def lN{H:ay}(h:H a=ai o)(c:H b=aq):a≠b:=!_
section
variable(P:cn)(w:bS)
def hZ(H:ay)(h:bT)(a:ax):lQ->Prop
 |.a d=>d.length<=dG/\∃(c:af aB) (n:ag),dh d c/\h.get? a=ai {cls:=.type "list",data:=.seq c.toArray n}|.b d=>d.length<=dG/\∃c:af aB,dh d c/\IsTup h a c.toArray|.d b=>b.length<=dG/\(a==qS)=aw/\∃j,kI b j/\h.DictOf (mx P w) a j|.h b=>b.length<=dG/\(a==qS)=aw/\∃d:af (af fA×ax×aB),
  An (λ(p:af fA×aH) (q:af fA×ax×aB)=>p.1=q.1/\H q.2.1=ai (.b<|p.1.map lO)/\cy p.2 q.2.2) b d/\
  ∃o m z,h.get? a=ai o/\o.ExactDict/\o.data=.dict m z/\m.toList=d.map (entryOfKey<|Ae<|mx P w)/\(d.map (·.1)).Nodup
 |.j S n=>h.SetOf (tf P w) a S n|.c C g fs=>H g=ai (.e a)/\fs.length<=1000/\g≠a/\h.get? a=ai (wq C g)/\∃e,h.Ns1 g e/\(∀f,tw (fs.lookup f)<|e f)/\NM e (fs.map (·.1))|.e _=>∃o,h.get? a=ai o|.m fs=>∃e,h.Ns1 a e/\∀f,tw (fs.lookup f) (e f)|.k s y=>∃t u v,h.get? a=ai {cls:=.type "range",data:=.fields #[.int s t,.int y u,.int 1 v]}|.g o u=>h.get? a=ai o/\hZ H h a u|.i r=>h.get? a=ai {cls:=.none,data:=.fields r}|.p f x=>h.get? a=ai (NP (.ref f)<|.ref x)|.l i=>i h/\(∃o,h.get? a=ai o)/\∀l k:bT,i l->(∀o,l.get? a=ai o->k.get? a=ai o)->i k
def gC(H:ay)(h:bT):Prop:=∀a o,H a=ai o->hZ P w H h a o
end
section
variable{P:cn}{w:bS}{H g:ay}{h h':bT}{a:ax}{o:lQ}
def hZ.lt(x:hZ P w H h a o):a<h.objs.size:=by
 cases o with
 |a c=>obtain⟨_,_,_,_,e⟩:=x;exact eU e
 |b c=>obtain⟨_,_,_,p⟩:=x;exact p.lt
 |d b=>obtain⟨_,_,_,_,o,_,_,e,_⟩:=x;exact eU e
 |h b=>obtain⟨_,_,_,_,o,_,_,e,_⟩:=x;exact eU e
 |j S n=>obtain⟨o,_,_,_,e,_⟩:=x;exact eU e
 |c C m fs=>obtain⟨_,_,_,e,_⟩:=x;exact eU e
 |e y=>obtain⟨_,e⟩:=x;exact eU e
 |m fs=>obtain⟨_,⟨_,_,_,e,_⟩,_⟩:=x;exact eU e
 |k k l=>obtain⟨_,_,_,e⟩:=x;exact eU e
 |g j u=>obtain⟨e,_⟩:=x;exact eU e
 |i i=>exact eU (show h.get? a=ai _ from x)|p f y=>exact eU (show h.get? a=ai _ from x)|l d=>obtain⟨_,⟨_,e⟩,_⟩:=x;exact eU e
def Paired.mapP{F G:α->β->Prop}(h:An F d c)(f:∀a b,F a b->G a b):An G d c:=by
 induction h with|nil=>exact .nil|cons r t i=>exact .cons (f _ _ r) i
def hZ.a0(x:hZ P w H h a o)(k:∀b u,(b=a\/H b=ai (.e a))->h.get? b=ai u->h'.get? b=ai u)
  (ho:∀b,H b=ai (.e a)->g b=ai (.e a))(K:∀b s,H b=ai (.b s)->g b=ai (.b s)):hZ P w g h' a o:=by
 induction o with
 |a s=>obtain⟨z,m,n,r,e⟩:=x;exact(z,m,n,r,k _ _ (.inl aa) e)
 |b s=>obtain⟨z,m,r,i,e,c⟩:=x;exact(z,m,r,i,k _ _ (.inl aa) e,c)
 |d D=>obtain⟨z,y,G,r,i,j,l,e,c⟩:=x;exact(z,y,G,r,i,j,l,k _ _ (.inl aa) e,c)
 |h D=>obtain⟨z,y,s,r,i,j,l,e,c⟩:=x;exact(z,y,s,Paired.mapP r λp q z=>(z.1,K _ _ z.2.1,z.2.2),i,j,l,k _ _ (.inl aa) e,c)
 |j S n=>obtain⟨i,j,l,t,e,c⟩:=x;exact(i,j,l,t,k _ _ (.inl aa) e,c)
 |c C Q fs=>obtain⟨d,z,I,e,B,⟨A,j,l,L,c⟩,r⟩:=x;exact(ho _ d,z,I,k _ _ (.inl aa) e,B,(A,j,l,k _ _ (.inr d) L,c),r)
 |e y=>obtain⟨i,e⟩:=x;exact(i,k _ _ (.inl aa) e)
 |m fs=>obtain⟨B,⟨A,j,l,e,c⟩,r⟩:=x;exact(B,(A,j,l,k _ _ (.inl aa) e,c),r)
 |k N O=>obtain⟨t,u,v,e⟩:=x;exact(t,u,v,k _ _ (.inl aa) e)
 |g i u J=>obtain⟨e,q⟩:=x;exact(k _ _ (.inl aa) e,J q)
 |i F=>have e:h.get? a=ai {cls:=.none,data:=.fields F}:=x;show h'.get? a=ai {cls:=.none,data:=.fields F};exact k a _ (.inl aa) e|p f y=>have e:h.get? a=ai (NP (.ref f)<|.ref y):=x;show h'.get? a=ai (NP (.ref f)<|.ref y);exact k a _ (.inl aa) e|l M=>obtain⟨p,⟨o,e⟩,E⟩:=x;exact(E _ _ p λo q=>k _ _ (.inl aa) q,(o,k _ _ (.inl aa) e),E)
def gC.lt(x:gC P w H h)(e:H a=ai o):a<h.objs.size:=(x a o e).lt
def gC.a0(x:gC P w H h)(e:h.objs.size<=a):H a=aq:=by
 cases q:H a with|none=>rfl|some u=>exact bG (gX (x.lt q) e)<|tq _
def gC.a1(x:gC P w H h)(k:∀b u,h.get? b=ai u->h'.get? b=ai u):gC P w H h':=λa o e=> (x a o e).a0 (λb u _ q=>k b u q) (λ_ q=>q) λ_ _ q=>q
def gC.a3(x:gC P w H h)(k:∀b u,h.get? b=ai u->h'.get? b=ai u)(i:h.objs.size<=a)(l:hZ P w (bu H a o) h' a o):gC P w (bu H a o) h':=λb u e=>by have d:=x.a0 i;by_cases f:b=a;subst f;rw[bO]at e;cases e;exact l;rw[aO f]at e;exact(x b u e).a0 (λc v _ q=>k c v q) (λc q=>by rw[aO<|lN q d];exact q) λc j q=>by rw[aO<|lN q d];exact q
end
def pA(H:ay)(a:ax)(u:lQ):Prop:=H a=ai u\/∃o,H a=ai (.g o u)
def pA.ok(r:pA H a u)(x:gC P w H h):hZ P w H h a u:=by rcases r with r|⟨o,r⟩;exact x a u r;obtain⟨_,q⟩:=x a _ r;exact q
def AZ:aJ lQ->Prop
 |some (.a _)=>eA|some (.d _)=>eA|some (.h _)=>eA|some (.j _ _)=>eA|some (.c _ _ _)=>eA|some (.l _)=>eA|_=>eo
section
variable{P:cn}{w:bS}{H:ay}{h a:bT}{x e:ax}{d:lQ}
def gC.a4(ok:gC P w H h)(l:AZ (H x))(s:e=x\/H e=ai (.e x))(k:∀b u,b≠e->h.get? b=ai u->a.get? b=ai u)(o:∃u,a.get? e=ai u)
  (new:hZ P w (bu H x d) a x d):gC P w (bu H x d) a:=λb u q=>by
 have g:∀c y,H c=ai (.e y)->c≠x:=λc y r z=>by subst z;rw[r]at l;exact l
 have i:∀c j,H c=ai (.b j)->c≠x:=λc j r z=>by subst z;rw[r]at l;exact l
 by_cases n:b=x;subst n;rw[bO]at q;cases q;exact new;rw[aO n]at q;by_cases f:b=e;have p:H b=ai (.e x):=by rcases s with z|z;exact bG (f.trans z) n;rw[f];exact z
 rw[q]at p;cases p;obtain⟨v,t⟩:=o;exact(v,by rw[f];exact t);refine(ok b u q).a0 (λc v m r=>k c v ?_ r) (λc r=>by rw[aO<|g c b r];exact r) λc j r=>by rw[aO<|i c j r];exact r
 rcases m with rfl|m;exact f;rintro rfl;rcases s with z|z;exact g c b m z;rw[m]at z;cases z;exact n aa
end
structure ng(fs ex:af ax)(H H':ay)(h h':bT):Prop where
 a1:∀b o,h.get? b=ai o->H b=aq->b∉fs->b∉ex->h'.get? b=ai o
 a5:∀b o,h.get? b=ai o->H b=aq->b∈fs->b∉ex->∃sl,h'.get? b=ai {o with slots:=sl}
 a0:∀b o,h.get? b=ai o->H b=aq->b∉ex->H' b=aq
 a2:∀b o,h.get? b=ai o->b∉ex->∃o',h'.get? b=ai o'
 a4:∀b xs,H b=ai (.b xs)->H' b=ai (.b xs)
 a3:∀b o u,H b=ai (.g o u)->H' b=ai (.g o u)
 a6:∀b ps,H b=ai (.i ps)->∃more,H' b=ai (.i (ps++more))
section
variable{fs j d i:af ax}{H g l:ay}{h f m h':bT}{a x e:ax}{o:lQ}
def ng.a8(u:ng fs d H g h f)(q:h.get? b=ai ob)(n:H b=aq)(c:b∉d):∃p,f.get? b=ai {ob with slots:=p}:=by by_cases k:b∈fs;exact u.a5 b ob q n k c;exact(ob.slots,u.a1 b ob q n k c)
def ng.a7(k:∀b u,h.get? b=ai u->h'.get? b=ai u):ng fs d H H h h':=(λb c q _ _ _=>k b c q,λb c q _ _ _=>(c.slots,k b c q),λ_ _ _ n _=>n,λb c q _=>(c,k b c q),λ_ _ q=>q,λ_ _ _ q=>q,λ_ p q=>(#[],by rw[q];rfl))
def ng.a9:ng fs d H H h h:=ng.a7 λ_ _ q=>q
def ng.b0(k:∀b u,h.get? b=ai u->h'.get? b=ai u)(r:h.objs.size<=a)(c:H a=aq):ng fs d H (bu H a o) h h' where
 a1:=λb u q _ _ _=>k b u q
 a5:=λb u q _ _ _=>(u.slots,k b u q)
 a0:=λb u q n _=>by rw[aO<|kY<|gX (eU q) r];exact n
 a2:=λb u q _=>(u,k b u q)
 a4:=λb p q=>by rw[aO<|lN q c];exact q
 a3:=λb u p q=>by rw[aO<|lN q c];exact q
 a6:=λb s q=>(#[],by rw[aO<|lN q c,q];rfl)
def ng.b1(mu:AZ (H x))(y:e=x\/H e=ai (.e x))(k:∀b u,b≠e->h.get? b=ai u->h'.get? b=ai u)(w:∃u,h'.get? e=ai u):ng fs d H (bu H x o) h h':=by
 have p:∀b,H b=aq->b≠x:=λb n z=>by subst z;rw[n]at mu;exact mu
 have s:∀b,H b=aq->b≠e:=λb n z=>by subst z;rcases y with r|r;exact p b n r;rw[n]at r;cases r
 have c:∀b u,H b=ai u->¬AZ (ai u)->b≠x:=λb u q v z=>by subst z;rw[q]at mu;exact v mu
 refine(λb u q n _ _=>k b u (s b n) q,λb u q n _ _=>(u.slots,k b u (s b n) q),λb u q n _=>by rw[aO<|p b n];exact n,λb u q _=>?_, λb t q=>by rw[aO<|c b _ q λz=>z];exact q,λb u t q=>by rw[aO<|c b _ q λz=>z];exact q,λb A q=>(#[],by rw[aO<|c b _ q λz=>z,q];rfl));grind
end
def DQ(h:bT)(H:ay):af ax:=(bP h.objs.size).filter λa=>(H a).isSome
def r_(h:bT)(H:ay):bT:=PySem.W.hideAll h<|DQ h H
def acv(h:bT)(H:ay):(r_ h H).objs.size=h.objs.size:=PySem.W.hideAll_size _ _
def acw(e:h.get? b=ai o)(n:H b=aq):(r_ h H).get? b=ai o:=PySem.W.hideAll_get _ e λa=>by have q:(H b).isSome=ao:=(tr.mp a).2;rw[n]at q;simp at q
def abY(e:(r_ h H).get? b=ai o):h.get? b=ai o/\H b=aq:=by
 have a:h.get? b=ai o:=PySem.W.of_hideAll (DQ h H) e;refine(a,?_);cases q:H b with|none=>rfl|some x=>have c:b∈DQ h H:=tr.mpr (jz.mpr<|eU a,by nofun);have z:(r_ h H).get? b=aq:=PySem.W.hideAll_none (DQ h H) c;nofun
structure El(K:aZ)(mg:aC->aJ aB)(base:bT):Prop where
 a:K.In base
 b:base.Ns iA mg
 e:∃mb,base.Ns NL mb/\∀x:aC,x≠"__name__"->mb x=lG x
 c:base.NoLimit
 d:base.NoSeer
structure bA where
 a2:cn
 w:bS
 K:aZ
 mg:aC->aJ aB
 a8:bT
 A:fG
 N:af aC
 b1:ba
 c1:ay
 a0:ig
 b5:af ig
 b2:af ig
 ex:af ax
 fn:aC->da
 a9:da
 pn:af (ax×cU)
 xe:aB->ba->Prop
abbrev dA(x:aC):Prop:=(x==("__debug__":aC))=aw
abbrev fP(x:aC):Prop:=(x==("__classdict__":aC))=aw
abbrev iE(X:bA)(x:aC):Prop:=X.fn x=ao\/X.a0.scope.names.lookup x=ai .local
abbrev eI(X:bA)(e:bI)(a:af bI):Prop:=dC (e::a) X.a0=(aw,bN e X.a0)::dC a X.a0
abbrev eG(X:bA)(p:dj)(a:af bI):Prop:=(lH p<|dC a X.a0).any (·.1)=aw
abbrev wM(X:bA)(p:dj)(e:bI):Prop:=((lH p<|dC [e] X.a0).all (λx=> !x.1)&&(pX p<|pV [] X.a0).all (λx=>x.1.isSome)&&aT ([e].length+([]:af qV).length+(if([]:af qV).isEmpty then 0 else 1)<30))=ao
def q_(l:af ig):af ax:=l.filterMap (·.frame)
abbrev bA.fs(X:bA):af ax:=q_ X.b5
def eF(sc:nY)(x:aC):Prop:=sc.names.lookup x=ai .local\/sc.names.lookup x=ai .cell\/sc.names.lookup x=ai .free
def h_(sc:nY)(x:aC):Prop:=sc.names.lookup x=ai .local\/sc.names.lookup x=ai .cell
def ada(env:ig)(h:bT)(m:aC->aJ aB)(x:aC)(u:aB):Prop:=(env.kindOf x=ai .local/\m x=ai u)\/((env.kindOf x=ai .cell\/env.kindOf x=ai .free)/\∃c,env.cells.lookup x=ai c/\h.IsCell c (ai u))
structure bA.Ok(X:bA):Prop where
 a2:El X.K X.mg X.a8
 a1:X.a0.scope.kind=.function
 b1:X.a0.globals=iA
 b9:X.a0.builtins=NL
 a3:X.b1.heap.objs.size<=X.a0.locals
 b4:∀x y c,X.a0.cells.lookup x=ai c->X.a0.cells.lookup y=ai c->x=y
 a4:∀x,(X.a0.kindOf x=ai .cell\/X.a0.kindOf x=ai .free)->∃c,X.a0.cells.lookup x=ai c
 a8:∀x c,X.fn x=ao->X.a0.cells.lookup x=ai c->X.b1.heap.objs.size<=c
 hd:X.a9=ao->X.A.handled=aq
 b6:X.A.frames=ai X.b2
 b5:X.b2=X.b5\/(X.b2=X.a0::X.b5/\X.a0.frame=ai X.a0.locals)
 b7:∀b∈X.ex,b≠X.a0.locals/\∀x c,X.a0.cells.lookup x=ai c->c≠b
 bs:∀b o,X.a8.get? b=ai o->X.b1.heap.get? b=ai o/\X.c1 b=aq
 a5:X.a8.objs.size<=X.b1.heap.objs.size
 a9:∀b o,X.a8.get? b=ai o->b∉X.ex
 b0:∀b∈X.ex,b∉X.fs
 a6:X.b1.heap.FunFrames X.a8 X.b5
 b3:∀b∈X.fs,X.c1 b=aq
 b8:X.a2.given.tree=aq
 b2:∀h:bT,(∀b o,X.a8.get? b=ai o->h.get? b=ai o)->SeerAt (bQ X.a2 X.w) X.A h
structure aV(X:bA)(pins:af (ax×cU))(σ:af (aJ aH))(H:ay)(s:ba):Prop where
 ok:X.Ok
 os:s.os=X.b1.os
 a9:ym s.gens
 a2:ng X.fs X.ex X.c1 H X.b1.heap s.heap
 a6:∃m,s.heap.Ns X.a0.locals m/\∀(i:ag) (x:aC) (v:aH),X.N[i]?=ai x->σ[i]?=ai (ai v)->eF X.a0.scope x->∃u,cy v u/\ada X.a0 s.heap m x u
 b2:∀x c,X.a0.cells.lookup x=ai c->∃v,s.heap.IsCell c v
 b3:H X.a0.locals=aq
 b4:∀x c,X.a0.cells.lookup x=ai c->H c=aq
 b1:∀p∈X.pn++pins,s.heap.get? p.1=ai p.2/\H p.1=aq/\p.1≠X.a0.locals/\p.1∉X.fs/\∀v,p.2.data≠.cell v
 a1:gC X.a2 X.w H s.heap
 b7:σ.length=X.N.length
section
variable{X:bA}{f:af (ax×cU)}{g:af (aJ aH)}{H B:ay}{s:ba}{h':bT}
def bA.Ok.c2(ok:X.Ok)(e:X.a8.get? b=ai o):b∉X.fs:=λa=>by have:=(ok.a6.mem a).1;rw[e]at this;cases this
def aV.bs(I:aV X f g H s):∀b o,X.a8.get? b=ai o->s.heap.get? b=ai o/\H b=aq:=λb o e=> (I.a2.a1 b o (I.ok.bs b o e).1 (I.ok.bs b o e).2 (I.ok.c2 e)<|I.ok.a9 b o e,I.a2.a0 b o (I.ok.bs b o e).1 (I.ok.bs b o e).2<|I.ok.a9 b o e)
def aV.bk(I:aV X f g H s):∀b o,X.a8.get? b=ai o->s.heap.get? b=ai o:=λb o e=>(I.bs b o e).1
def aV.c5(I:aV X f g H s):El X.K X.mg X.a8:=I.ok.a2
def aV.b0(I:aV X f g H s):X.K.In s.heap:=I.ok.a2.a.keeps I.bk
def aV.f9(I:aV X f g H s):s.heap.NoLimit:=I.ok.a2.c.keeps I.bk
def aV.fr(I:aV X f g H s):∃m,Fr X.a8 X.a0.locals s.heap m:=
 let(m,a,_):=I.a6
 (m,a,I.bk,fx I.ok.a5 I.ok.a3)
def aV.lt(I:aV X f g H s):X.a0.locals<s.heap.objs.size:=let(_,a,_):=I.a6;a.lt
def aV.sz(I:aV X f g H s):X.b1.heap.objs.size<=s.heap.objs.size:=fx I.ok.a3<|uF I.lt
def aV.f3(I:aV X f g H s)(h:s.heap.objs.size<=a):a∉X.fs:=λc=>by obtain⟨_,o,b,_⟩:=I.ok.a6.mem c;exact bG (gX (eU b)<|fx I.sz h)<|tq _
def aV.d6(I:aV X f g H s):∀x c,X.a0.cells.lookup x=ai c->c≠X.a0.locals:=λx c e z=>by obtain⟨v,o,d,h⟩:=I.b2 x c e;obtain⟨m,⟨i,j,k,a,b,_⟩,_⟩:=I.a6;rw[z,a]at d;cases d;rw[b]at h;cases h
def aV.d7(I:aV X f g H s):s.heap.FunFrames X.a8 X.b5:=by
 have v:∀(l:af ig),(∀b∈q_ l,b∈X.fs)->X.b1.heap.FunFrames X.a8 l->s.heap.FunFrames X.a8 l:=by
  intro l;induction l with|nil=>intro _ _;trivial|cons t r i=>intro h n;obtain⟨p,⟨L,o,a,m,k,q⟩,j⟩:=n;have d:L∈X.fs:=h L (by unfold q_;rw[Ii,a];exact gY);obtain⟨u,e⟩:=I.a2.a5 L o k (I.ok.b3 L d) d λz=>I.ok.b0 L z d;exact(p,(L,_,a,m,e,q),i (λb c=>h b (by unfold q_;rw[Ii,a];exact cO _ c)) j)
 exact v X.b5 (λ_ c=>c) I.ok.a6
def aV.e8(I:aV X f g H s):s.heap.FunFrames X.a8 X.b2:=by rcases I.ok.b5 with e|⟨e,b⟩;rw[e];exact I.d7;rw[e];obtain⟨m,a,_⟩:=I.a6;refine .cons (by rw[I.ok.a1];decide) b a ?_ I.d7;exact Heap.get?_none_of_le<|fx I.ok.a5 I.ok.a3
def aV.d4(I:aV X f g H s):∀b∈q_ X.b2,b∈X.a0.locals::X.fs:=λb a=>by rcases I.ok.b5 with e|⟨e,c⟩;rw[e]at a;exact cO _ a;rw[e]at a;unfold q_ at a;rw[Ii,c]at a;exact a
def aV.e4(I:aV X f g H s):∀b∈q_ X.b2,H b=aq:=λb a=>by rcases fq.mp (I.d4 b a)with e|a;rw[e];exact I.b3;obtain⟨_,o,c,_⟩:=I.ok.a6.mem a;exact I.a2.a0 b o c (I.ok.b3 b a) λz=>I.ok.b0 b z a
def aV.c4{g':kS GenState}{Q:ag}{d':Drawn}{ch:af ax}(I:aV X f g H s)
  (hch:∀b∈ch,(b∈X.ex\/X.b1.heap.objs.size<=b)/\b≠X.a0.locals/\(∀x c,X.a0.cells.lookup x=ai c->c≠b)/\∀p∈X.pn++f,p.1≠b)
  (keep:∀b o,b≠X.a0.locals->b∉X.fs->b∉ch->s.heap.get? b=ai o->H b=aq->h'.get? b=ai o)
  (slot:∀b o,b≠X.a0.locals->b∈X.fs->b∉ch->s.heap.get? b=ai o->H b=aq->∃K,h'.get? b=ai {o with slots:=K})(w:∀b o,b∉ch->s.heap.get? b=ai o->H b=aq->B b=aq)
  (there:∀b o,b∉ch->s.heap.get? b=ai o->∃J,h'.get? b=ai J)
  (tups:∀b h,H b=ai (.b h)->B b=ai (.b h))(F:∀b o u,H b=ai (.g o u)->B b=ai (.g o u))(N:∀b G,H b=ai (.i G)->∃g0,B b=ai (.i<|G++g0))
  (ns:∀m,s.heap.Ns X.a0.locals m->h'.Ns X.a0.locals m)(L:gC X.a2 X.w B h')(V:ym g'):
  aV X f g B {s with heap:=h',gens:=g',drawn:=d',toks:=Q}:=by
 have D:∀b o,X.b1.heap.get? b=ai o->b≠X.a0.locals:=λb o e=>kY<|gX (eU e) I.ok.a3;have j:∀b o,X.b1.heap.get? b=ai o->b∉X.ex->b∉ch:=λb o e a t=>by rcases(hch b t).1 with z|z;exact a z;exact bG (gX (eU e) z)<|tq _
 have A:∀x c,X.a0.cells.lookup x=ai c->∀v,s.heap.IsCell c v->h'.IsCell c v:=λx c e v (o,C,M)=>by have E:c∉ch:=λz=>(hch c z).2.2.1 x c e aa;by_cases O:c∈X.fs;obtain⟨K,q⟩:=slot c o (I.d6 x c e) O E C<|I.b4 x c e;exact(_,q,M);exact(o,keep c o (I.d6 x c e) O E C<|I.b4 x c e,M)
 refine(I.ok,I.os,V,(λb o e n t a=>?_,λb o e n t a=>?_,λb o e n a=>?_,λb o e a=>?_,λb h e=>tups b h<|I.a2.a4 b h e,λb o h e=>F b o h<|I.a2.a3 b o h e,λb G e=>?_),?_,λx c e=>?_,?_,λx c e=>?_,λp S=>?_,L,I.b7);exact keep b o (D b o e) t (j b o e a) (I.a2.a1 b o e n t a)<|I.a2.a0 b o e n a;obtain⟨K,y⟩:=I.a2.a5 b o e n t a;obtain⟨R,P⟩:=slot b _ (D b o e) t (j b o e a) y<|I.a2.a0 b o e n a;symm;obtain⟨J,y⟩:=I.a2.a2 b o e a;exact w b J (j b o e a) y<|I.a2.a0 b o e n a;obtain⟨J,y⟩:=I.a2.a2 b o e a;symm;obtain⟨m1,y⟩:=I.a2.a6 b G e;left;obtain⟨m,T,U⟩:=I.a6;refine(m,ns m T,λi x v y P W=>?_);obtain⟨u,r,l⟩:=U i x v y P W;refine(u,r,?_);rcases l with l|⟨k,c,e,z⟩;exact .inl l;exact .inr (k,c,e,A x c e _ z);obtain⟨v,z⟩:=I.b2 x c e;symm;obtain⟨m,⟨o,_,_,C,_⟩,_⟩:=I.a6;exact w _ o (λz=>(hch _ z).2.1 aa) C I.b3;obtain⟨v,o,C,M⟩:=I.b2 x c e;exact w c o (λz=>(hch c z).2.2.1 x c e aa) C<|I.b4 x c e;obtain⟨e,n,Z,Y,d⟩:=I.b1 p S;grind
def aV.un(I:aV X f g H s)(u:ng X.fs [] H B s.heap h')(c:gC X.a2 X.w B h'):aV X f g B {s with heap:=h',toks:=t'}:=by obtain⟨m,⟨o,x,y,j,r⟩,_⟩:=id I.a6;obtain⟨q,p⟩:=u.a8 j I.b3 ¬_;exact I.c4 (g':=s.gens) (d':=s.drawn) (ch:=[]) (λ_ z=>nomatch z) (λb o _ d _ e n=>u.a1 b o e n d (_)) (λb o _ d _ e n=>u.a5 b o e n d (_)) (λb o _ e n=>u.a0 b o e n (_)) (λb o _ e=>u.a2 b o e (_)) u.a4 u.a3 u.a6 (λv l=>by obtain⟨t,h,i,a,k⟩:=l;rw[j]at a;cases a;exact(_,h,i,p,k)) c I.a9
def aV.e5(I:aV X f g H s)(u:ng (q_ X.b2) ch H B s.heap h')(h:gC X.a2 X.w B h')(v:ym g')
  (hch:∀b∈ch,(b∈X.ex\/X.b1.heap.objs.size<=b)/\b≠X.a0.locals/\(∀x c,X.a0.cells.lookup x=ai c->c≠b)/\∀p∈X.pn++f,p.1≠b):
  aV X f g B {s with heap:=h',gens:=g',drawn:=d',toks:=t'}:=by
 obtain⟨m,⟨o,E,F,l,r⟩,_⟩:=id I.a6;obtain⟨A,i⟩:=u.a8 l I.b3 λz=>(hch _ z).2.1 aa;exact I.c4 (ch:=ch) hch (λb o i y a e n=>u.a1 b o e n (λz=>(fq.mp<|I.d4 b z).elim i y) a) (λb o _ _ a e n=>u.a8 e n a) (λb o a e n=>u.a0 b o e n a) (λb o a e=>u.a2 b o e a) u.a4 u.a3 u.a6 (λD t=>by obtain⟨C,j,k,d,q⟩:=t;rw[l]at d;cases d;exact(_,j,k,i,q)) h v
def aV.a5(I:aV X f g H s)(k:∀b o,b≠it->s.heap.get? b=ai o->h'.get? b=ai o)(i:H it=aq)(l:it≠X.a0.locals)
  (h1:it∈X.ex\/X.b1.heap.objs.size<=it)(D:∀x c,X.a0.cells.lookup x=ai c->c≠it)(C:∀p∈X.pn++f,p.1≠it):aV X f g H {s with heap:=h',toks:=t'}:=by
 have d:∀b u,H b=ai u->b≠it:=λb u e z=>by rw[z,i]at e;cases e
 refine I.c4 (g':=s.gens) (d':=s.drawn) (ch:=[it]) (λb A=>?_) (λb o _ _ a e _=>k b o (λz=>a (by nofun)) e) (λb o _ _ a e _=>(o.slots,k b o (λz=>a (by nofun)) e)) (λ_ _ _ _ n=>n) (λb o a e=>(o,k b o (λz=>a (by nofun)) e)) (λ_ _ e=>e) (λ_ _ _ e=>e) (λb y e=>(#[],by rw[e];rfl)) (λm j=>?_) (λb u e=>?_) I.a9;left;obtain⟨o,t,w,h,r⟩:=j;exact(o,t,w,k _ o (dZ l) h,r);refine(I.a1 b u e).a0 (λc v a q=>k c v ?_ q) (λ_ q=>q) λ_ _ q=>q;lia
def aV.a4(I:aV X f g H s)(t:ag):aV X f g H {s with toks:=t}:=I.un (h':=s.heap) (t':=t) ng.a9 I.a1
def aV.a7(I:aV X f g H s)(k:∀b u,s.heap.get? b=ai u->h'.get? b=ai u):aV X f g H {s with heap:=h',toks:=t'}:=I.un (ng.a7 k)<|I.a1.a1 k
def aV.b5(I:aV X f g H s)(k:∀b u,s.heap.get? b=ai u->h'.get? b=ai u)(c:s.heap.objs.size<=a)(d:hZ X.a2 X.w (bu H a o) h' a o): aV X f g (bu H a o) {s with heap:=h',toks:=t'}:=I.un (ng.b0 k c<|I.a1.a0 c)<|I.a1.a3 k c d
def aV.c3(I:aV X f g H s)(c:AZ (H x))(d:e=x\/H e=ai (.e x))(k:∀b u,b≠e->s.heap.get? b=ai u->h'.get? b=ai u)(a:∃u,h'.get? e=ai u) (h:hZ X.a2 X.w (bu H x o) h' x o):aV X f g (bu H x o) {s with heap:=h',toks:=t'}:=I.un (ng.b1 c d k a)<|I.a1.a4 c d k a h
def aV.e9(I:aV X f g H s)(c:σ'.length=g.length)(w:∀(i:ag) v,σ'[i]?=ai (ai v)->g[i]?=ai (ai v)):aV X f σ' H s:=(I.ok,I.os,I.a9,I.a2,let(m,b,a):=I.a6;(m,b,λi x v h e d=>a i x v h (w i v e) d),I.b2,I.b3,I.b4,I.b1,I.a1,c.trans I.b7)
def aV.e3(I:aV X f g H s)(h:∀p∈pins',s.heap.get? p.1=ai p.2/\H p.1=aq/\p.1≠X.a0.locals/\p.1∉X.fs/\∀v,p.2.data≠.cell v):aV X pins' g H s:=(I.ok,I.os,I.a9,I.a2,I.a6,I.b2,I.b3,I.b4,λp a=>(nZ.mp a).elim (λz=>I.b1 p<|ZU _ z)<|h p,I.a1,I.b7)
def IK{N:af aC}(c:N.Nodup){i j:ag}(a:N[i]?=ai x)(b:N[j]?=ai x):i=j:=by grind only[eM,OA]
def OW(I:aV X f g H s)(hN:X.N.Nodup)(U:X.N[i]?=ai x)(F:h_ X.a0.scope x)(r:cy v u)
  (h:∀s',aV X f (g.set i<|ai v) H s'->(∃a,Dr a s.heap s'.heap/\(a=X.a0.locals\/X.a0.cells.lookup x=ai a))->Q ⟨⟩ s')(hf:iE X x|>3):cf M A (NC X.a0 x u) Q E s:=by
 obtain⟨m,hn,hl⟩:=id I.a6;have S:(X.a0.scope.kind==.class||(X.a0.scope.kind==.module&&X.a0.locals !=X.a0.globals))=aw:=by rw[I.ok.a1];rfl
 have K:i<g.length:=by rw[I.b7];exact(eM.mp U).1
 have w:=I.d6;have t:∀{a:ax} {h':bT},(∃o,s.heap.get? a=ai o/\H a=aq)->Dr a s.heap h'->gC X.a2 X.w H h':=λ{a h'} ha l b ob e=>by obtain⟨_,_,G⟩:=ha;refine(I.a1 b ob e).a0 (λc W D q=>(l.2 c ?_).trans q) (λ_ q=>q) λ_ _ q=>q;rintro rfl;rcases D with rfl|D;rw[G]at e;cases e;rw[G]at D;cases D
 rcases F with P|P;refine wpAny_storeName_local P hn (λh' g2 l=>?_) S;obtain⟨oL,_,_,g1,_⟩:=id hn;refine h _ (I.ok,I.os,I.a9,(λb o e n O F=>?_,λb o e n O F=>?_,I.a2.a0,λb o e F=>?_,I.a2.a4,I.a2.a3,I.a2.a6),(_,g2,λj y Y C J e3=>?_),λy c e=>?_,I.b3,I.b4,λp hp=>?_,t (oL,g1,I.b3) l,by simpa using I.b7) (_,l,.inl aa);exact(l.2 b<|kY<|gX (eU e) I.ok.a3).trans<|I.a2.a1 b o e n O F;obtain⟨N,C⟩:=I.a2.a5 b o e n O F;exact(N,(l.2 b<|kY<|gX (eU e) I.ok.a3).trans C);obtain⟨o',C⟩:=I.a2.a2 b o e F;exact(o',(l.2 b<|kY<|gX (eU e) I.ok.a3).trans C);by_cases R:j=i;subst R;rw[U]at C;cases C;rw[mY K]at J;cases J;exact(u,r,.inl (P,()));rw[hW<|dZ R]at J;obtain⟨Z,r',q⟩:=hl j y Y C J e3;refine(Z,r',?_);rcases q with⟨k,e⟩|⟨k,c,e,z⟩;refine .inl (k,?_);grind only[IK];exact .inr (k,c,e,z.sameBut l<|w y c e);obtain⟨W,z⟩:=I.b2 y c e;exact(W,z.sameBut l<|w y c e);obtain⟨e,n,T,nf,d⟩:=I.b1 p hp;exact((l.2 p.1 T).trans e,n,T,nf,d);have L:X.fn x=ao:=();obtain⟨c,D⟩:=I.ok.a4 x<|.inl P;obtain⟨W,z⟩:=I.b2 x c D;refine wpAny_storeName_cell I.ok.a1 P D z<|λh' g4 l=>?_;obtain⟨oc,g0,g5⟩:=id z;refine h {s with heap:=h'} (I.ok,I.os,I.a9,(λb o e n O F=>?_,λb o e n O F=>?_,I.a2.a0,λb o e F=>?_,I.a2.a4,I.a2.a3,I.a2.a6),(m,hn.sameBut l<|dZ<|w x c D,λj y Y C J e3=>?_),λy V e=>?_,I.b3,I.b4,λp hp=>?_,t (oc,g0,I.b4 x c D) l,by simpa using I.b7) (c,l,.inr D);exact(l.2 b<|kY<|gX (eU e)<|I.ok.a8 x c L D).trans<|I.a2.a1 b o e n O F;obtain⟨N,C⟩:=I.a2.a5 b o e n O F;exact(N,(l.2 b<|kY<|gX (eU e)<|I.ok.a8 x c L D).trans C);obtain⟨o',C⟩:=I.a2.a2 b o e F;exact(o',(l.2 b<|kY<|gX (eU e)<|I.ok.a8 x c L D).trans C);by_cases R:j=i;subst R;rw[U]at C;cases C;rw[mY K]at J;cases J;exact(u,r,.inr (.inl P,c,D,g4));rw[hW<|dZ R]at J;obtain⟨Z,r',q⟩:=hl j y Y C J e3;refine(Z,r',?_);rcases q with q|⟨k,V,e,z'⟩;exact .inl q;refine .inr (k,V,e,z'.sameBut l ?_);rintro rfl;exact R<|IK hN C<|I.ok.b4 _ _ _ e D▸U;by_cases g3:V=c;grind;obtain⟨w2,z2⟩:=I.b2 y V e;exact(w2,z2.sameBut l g3);obtain⟨e,n,T,nf,d⟩:=I.b1 p hp;refine((l.2 p.1 ?_).trans e,n,T,nf,d);grind
def Ip(I:aV X f g H s)(e:X.N.Nodup)(c:X.N[i]?=ai x)(b:h_ X.a0.scope x)(r:cy v u)
  (h:∀a,aV X f (g.set i<|ai v) H a->Q ⟨⟩ a)(d:iE X x|>3):cf M A (NC X.a0 x u) Q E s:=
 OW I e c b r (λa j _=>h a j) d
def aV.f6(I:aV X f g H s)(k:s'.os=s.os)(u:ng (q_ X.b2) ch H B s.heap s'.heap)(a:gC X.a2 X.w B s'.heap)(l:ym s'.gens)
  (hch:∀b∈ch,(b∈X.ex\/X.b1.heap.objs.size<=b)/\b≠X.a0.locals/\(∀x c,X.a0.cells.lookup x=ai c->c≠b)/\∀p∈X.pn++f,p.1≠b):aV X f g B s':=by
 obtain⟨h',h,i,d,j⟩:=s';have e:j=s.os:=k;subst e;exact I.e5 (g':=h) (t':=d) (d':=i) u a l hch
end
abbrev jC:=aB->aJ ax->ay->Prop
abbrev cw:=af<|aJ aH
abbrev dw:=aH->ay->Prop
abbrev cS:=cw->ay->dw->Prop
abbrev iR:=cw->ay->(da->ay->Prop)->Prop
abbrev iD:=cw->ay->(af aH->ay->Prop)->Prop
structure wJ where
 a:cw->ay->Prop
 b:dw
 d:cw->ay->Prop:=λ_ _=>eo
 c:cw->ay->Prop:=λ_ _=>eo
abbrev hX:=wJ->cw->ay->Prop
inductive je(X:bA)(a:af (ax×cU))(c:cw)(Q:dw)(u:aB)(d:ba):Prop|k(v b)(h:aV X a c b d)(g:cy v u)(q:Q v b)
def I_(X:bA)(a:af (ax×cU))(d:cw)(Q:da->ay->Prop)(b:da)(e:ba):Prop:=∃c,aV X a d c e/\Q b c
inductive QJ(X:bA)(a:af (ax×cU))(d:cw)(Q:af aH->ay->Prop)(e:af aB)(f:ba):Prop|k(b c)(h:aV X a d c f)(g:dh b e)(q:Q b c)
def yI(X:bA)(b:af (ax×cU))(D:wJ)(f:Flow)(d:ba):Prop:=
 match f with
 |.next=>∃a c,aV X b a c d/\D.a a c
 |.brk=>∃a c,aV X b a c d/\D.d a c|.cont=>∃a c,aV X b a c d/\D.c a c|.ret u=>∃v a c,aV X b a c d/\cy v u/\D.b v c
def aA(X:bA)(e:bI)(t:cS):Prop:=∀(pins:af (ax×cU)) (s:ba) (a:cw) (H:ay) (Q:dw),aV X pins a H s->t a H Q->cf (bQ X.a2 X.w) X.A (bN e X.a0) (je X pins a Q) X.xe s
def cP(X:bA)(e:bI)(t:iR):Prop:=∀(pins:af (ax×cU)) (s:ba) (a:cw) (H:ay) (Q:da->ay->Prop),aV X pins a H s->t a H Q->cf (bQ X.a2 X.w) X.A (yh e X.a0<|bN e X.a0) (I_ X pins a Q) X.xe s
def jD(X:bA)(e:bI)(t:iR):Prop:=∀(whole:Sem aB) (a:af (ax×cU)) (s:ba) (b:cw) (H:ay) (Q:da->ay->Prop),aV X a b H s->t b H Q->cf (bQ X.a2 X.w) X.A (yh e X.a0 whole) (I_ X a b Q) X.xe s
def jD.pt(h:jD X e t):cP X e t:=h _
def eW(X:bA)(c:af bI)(t:iD):Prop:=∀(pos:dj) (a:af (ax×cU)) (s:ba) (b:cw) (H:ay) (Q:af aH->ay->Prop),aV X a b H s->t b H Q->cf (bQ X.a2 X.w) X.A (spliced<|lH pos<|dC c X.a0) (QJ X a b Q) X.xe s
def cH(X:bA)(b:du)(t:hX):Prop:=∀(pins:af (ax×cU)) (s:ba) (a:cw) (H:ay) (D:wJ),aV X pins a H s->t D a H->cf (bQ X.a2 X.w) X.A (exec b X.a0) (yI X pins D) X.xe s
def bg(X:bA)(b:af du)(t:hX):Prop:=∀(pins:af (ax×cU)) (s:ba) (a:cw) (H:ay) (D:wJ),aV X pins a H s->t D a H->cf (bQ X.a2 X.w) X.A (execs b X.a0) (yI X pins D) X.xe s
def bZ{t:Sem α}{Q b:α->ba->Prop}(h:cf M A t Q E s)(c:∀a s,Q a s->b a s):cf M A t b E s:=nU h c λ_ _ x=>x
section
variable{X:bA}
def OQ(i:ag):cS:=λc H Q=>∃v,c[i]?=ai (ai v)/\Q v H
def yx(v:aH):cS:=λ_ H Q=>Q v H
def ft(hN:X.N[i]?=ai x)(z:eF X.a0.scope x)(q:dA x|>2)(t:fP x|>2):aA X (.Name x g) (OQ i):=by intro p s y H Q I h;obtain⟨v,e,h⟩:=h;obtain⟨m,A,C⟩:=I.a6;obtain⟨u,r,l⟩:=C i x v hN e z;have j:je X p y Q u s:=(v,H,I,r,h);rcases l with⟨f,B⟩|⟨f,c,w,d⟩;exact Nz (Ym I.ok.a1 f A B j) q;rcases f with f|f;exact Nz (Yn I.ok.a1 f w d j) q;exact Nz (wpAny_loadName_free I.ok.a1 f w d j t) q
def uQ{i j g}:aA X (.Constant (.int i) j g) (yx<|.d i):=λ_ _ _ H _ I h=>wpAny_Constant_int (.d i,H,I.a4 _,(_,aa),h)
def abL{b j g}:aA X (.Constant (.bool b) j g) (yx<|.e b):=λ_ _ _ H _ I h=>Constant_bool (.e b,H,I,aa,h)
def abE{j g}:aA X (.Constant .none j g) (yx .f):=λ_ _ _ H _ I h=>Constant_none (.f,H,I,aa,h)
def abC{x j g}:aA X (.Constant (.str x) j g) (yx<|.g x):=λ_ _ _ H _ I h=>Calls.Constant_str (.g x,H,I.a4 _,(_,aa),h)
def dn(X:bA)(x:aC):Prop:=X.a0.kindOf x=ai .globalImplicit
def yC(I:aV X pins σ H s)(d:dn X x)(c:X.mg x=ai u)(h:Q u s)
  (hd:dA x|>2):cf (bQ X.a2 X.w) X.A (bN (.Name x g) X.a0) Q E s:=
 Zi I.ok.a1 d (Calls.loadGlobal_global (by rw[I.ok.b1];exact I.c5.b.keeps I.bk) c h) hd
def tu(I:aV X pins σ H s)(e:dn X x)(d:X.mg x=aq)(c:lG x=ai u)(h:Q u s)
  (hn:x≠"__name__"|>2)(f:dA x|>2):cf (bQ X.a2 X.w) X.A (bN (.Name x g) X.a0) Q E s:=by
 obtain⟨l,j,i⟩:=I.c5.e;exact Zi I.ok.a1 e (Calls.loadGlobal_builtin (by rw[I.ok.b1];exact I.c5.b.keeps I.bk) d (by rw[I.ok.b9];exact j.keeps I.bk) ((i x hn).trans c) h) f
def AM(hg:dn X x)(c:X.mg x=ai u)(r:cy v u)(d:dA x|>2):aA X (.Name x g) (yx v):=λ_ _ _ H _ I h=>yC I hg c (v,H,I,r,h) d
variable{a b:bI}{k n:cS}{g:dj}
def Jd(X:bA)(f:CmpOp)(a b:bI)(t:cS):Prop:=∀(pins:af (ax×cU)) (s:ba) (e:cw) (H:ay) (Q:dw),aV X pins e H s->t e H Q-> cf (bQ X.a2 X.w) X.A (bN a X.a0) (λv d=>cf (bQ X.a2 X.w) X.A (bN b X.a0) (λu c=>cf (bQ X.a2 X.w) X.A (jy f v u) (je X pins e Q) X.xe c) X.xe d) X.xe s
def M0(b:bI)(h:op≠.In)(e:op≠.NotIn):oY op b=aw:=by have d:(op==Zh)=aw:=∅;have c:(op==Zg)=aw:=∅;cases b;all_goals first|rfl|(show(_&&(op==Zh||op==Zg)&&_)=_;rw[d,c];simp)
def OV(t:cS):iR:=λd H Q=>t d H λx e=>∃c,x=.e c/\Q c e
def Pl(h:Jd X op a b t)(f:oY op b=aw:=by first|exact M0 _ ⋯ ⋯|rfl):cP X (.Compare a [op] [b] g) (OV t):=by intro e s i H Q I o;refine Yo (bZ (h e s i H _ I o) λv z f=>bZ f λu y m=>bZ m λc w (x,r,p,j,l)=>?_) f;obtain⟨d,rfl,q⟩:=l;cases j;exact Ac (r,p,q)
def Pj(h:aA X e t)(m:(∀c,yh e X.a0 c=(do let v<-c;we e.pos;jW [v]<|truthy v))|>4):cP X e (OV t):=by intro f s i H Q I o;refine isTrue_plain (bZ (h f s i H _ I o) λv u (x,r,p,j,l)=>?_)<|m _;obtain⟨d,rfl,q⟩:=l;cases j;exact Ac (r,p,q)
variable{tA o:iR}{rest:af bI}
def aa2(t u:iR):iR:=λd H Q=>t d H λc e=>if c=ao then u d e Q else Q aw e
def aaG(t u:iR):iR:=λd H Q=>t d H λc e=>if c=ao then Q ao e else u d e Q
def aaH(t:iR):iR:=λd H Q=>t d H λc e=>Q (!c) e
def Pf(ha:cP X a tA):jD X (.BoolOp .And [a] g) tA:=by
 intro i d s f H Q I h;refine isTrue_and<|bZ (ha d s f H Q I h) λc j e=>?_;cases c with|true=>exact isTrue_and_nil e|false=>exact e
def Iu(ha:cP X a tA):jD X (.BoolOp .Or [a] g) tA:=by
 intro i d s f H Q I h;refine isTrue_or<|bZ (ha d s f H Q I h) λc j e=>?_;cases c with|false=>exact isTrue_or_nil e|true=>exact e
def Pg(ha:cP X a tA)(p:jD X (.BoolOp .And (b::rest) g) o):jD X (.BoolOp .And (a::b::rest) g) (aa2 tA o):=by
 intro l d s e H Q I h;refine isTrue_and<|bZ (ha d s e H _ I h) λc m (j,i,f)=>?_;cases c with|true=>exact p l d m e j Q i f|false=>exact(j,i,f)
def AK(ha:cP X a tA)(p:jD X (.BoolOp .Or (b::rest) g) o):jD X (.BoolOp .Or (a::b::rest) g) (aaG tA o):=by
 intro l d s e H Q I h;refine isTrue_or<|bZ (ha d s e H _ I h) λc m (j,i,f)=>?_;cases c with|true=>exact(j,i,f)|false=>exact p l d m e j Q i f
def Pk(ha:cP X a tA):cP X (.UnaryOp .Not a g) (aaH tA):=by intro d s e H Q I h;exact isTrue_not<|ha d s e H (λc f=>Q (!c) f) I h
def aa1(k n:cS):cS:=λd H Q=>k d H λx e=>∃c,x=.e c/\if c=ao then n d e Q else Q (.e aw) e
def abD{op}(h:aA X a t):aA X (.BoolOp op [a] g) t:=λc s d H Q I e=>BoolOp_one<|h c s d H Q I e
def Px(ha:aA X a k)(p:aA X (.BoolOp .And (b::rest) g) n):aA X (.BoolOp .And (a::b::rest) g) (aa1 k n):=by
 intro d s f H Q I h;refine BoolOp_and<|bZ (ha d s f H _ I h) λv l (x,j,i,m,e)=>?_;obtain⟨c,rfl,e⟩:=e;cases m;refine Ac ?_;cases c with|true=>exact p d l f j Q i e|false=>exact(.e aw,j,i,aa,e)
def aaN(t:iR)(k n:cS):cS:=λd H Q=>t d H λc e=>if c=ao then k d e Q else n d e Q
def Pu(hc:cP X c tA)(q:aA X a k)(p:aA X b n):aA X (.IfExp c a b g) (aaN tA k n):=by
 intro e s f H Q I h;refine wpAny_IfExp<|bZ (hc e s f H _ I h) λd i (m,l,j)=>?_;cases d with|true=>exact q e i f m Q l j|false=>exact p e i f m Q l j
end
def dX(K:aZ)(H:ay)(a:ax)(c:af aH):Prop:=pA H a (.a c)\/∃(o:cU) (b:kS aB) (n:ag),K.lookup a=ai o/\o.cls=.type "list"/\o.dict=aq/\o.data=.seq b n/\b.size<=dG/\dh c b.toList
def iS(K:aZ)(H:ay)(a:ax)(c:af aH):Prop:=pA H a (.b c)\/∃(o:cU) (b:kS aB) (n:ag),K.lookup a=ai o/\o.cls=.type "tuple"/\o.data=.seq b n/\b.size<=dG/\dh c b.toList
def ac_:aB->aJ aH
 |.none=>ai .f|.bool b=>ai (.e b)|.int i _=>ai (.d i)|.str x _=>ai (.g x)|.bytes b _=>ai (.h b)|.float b _=>ai (.j b)|.ref a=>ai (.c a)|.type n=>ai (.k n)|_=>aq
def cy.a0(r:cy x u):ac_ u=ai x:=by
 cases x with
 |f=>cases r;rfl
 |e _=>cases r;rfl
 |d _=>obtain⟨t,rfl⟩:=r;rfl
 |g _=>obtain⟨t,rfl⟩:=r;rfl
 |h _=>obtain⟨t,rfl⟩:=r;rfl
 |j _=>obtain⟨t,rfl⟩:=r;rfl
 |c _=>cases r;rfl
 |k _=>cases r;rfl
def cy.a1(r:cy x u)(q:cy y u):x=y:=kX<|r.a0.symm.trans q.a0
def dh.a4(h:dh b c)(g:dh a c):b=a:=by
 induction h generalizing a with|nil=>cases g;rfl|cons r t i=>cases g with|cons e d=>rw[r.a1 e,i d]
section
variable{X:bA}{b:af (ax×cU)}{g:cw}{H:ay}{s:ba}{a:ax}{c f:af aH}
def dX.of{K:aZ}(h:H a=ai (.a c)):dX K H a c:=.inl<|.inl h
def iS.of{K:aZ}(h:H a=ai (.b c)):iS K H a c:=.inl<|.inl h
def aV.a3(I:aV X b g H s)(h:dX X.K H a c):∃d:af aB,dh c d/\PlainL s.heap a d.toArray/\c.length<=dG:=by rcases h with h|⟨o,d,n,j,l,k,i,m,r⟩;obtain⟨z,d,n,r,e⟩:=h.ok I.a1;exact(d,r,(_,n,e,aa,aa,aa),z);refine(d.toList,r,(o,n,I.b0 a o j,l,k,by simpa using i),?_);have e:=r.a0;nofun
def aV.a8(I:aV X b g H s)(h:iS X.K H a c):∃d:af aB,dh c d/\IsTup s.heap a d.toArray/\c.length<=dG:=by rcases h with h|⟨o,d,n,j,k,i,l,r⟩;obtain⟨z,d,r,p⟩:=h.ok I.a1;left;refine(d.toList,r,(o,I.b0 a o j,k,n,by simpa using i),?_);have e:=r.a0;ac_rfl
def aV.c1(I:aV X b g H s)(h:dX X.K H a c)(p:dX X.K H a f):c=f:=by obtain⟨j,r,⟨o,n,e,_,_,d⟩,_⟩:=I.a3 h;obtain⟨i,m,⟨q,t,k,_,_,l⟩,_⟩:=I.a3 p;rw[e]at k;cases k;rw[d]at l;injection l with u _;have:j=i:=∅;subst this;exact r.a4 m
def aV.f0(I:aV X b g H s)(h:iS X.K H a c)(p:iS X.K H a f):c=f:=by obtain⟨j,r,⟨o,e,_,n,d⟩,_⟩:=I.a8 h;obtain⟨i,m,⟨q,k,_,t,l⟩,_⟩:=I.a8 p;rw[e]at k;cases k;rw[d]at l;injection l with u _;have:j=i:=();subst this;exact r.a4 m
end
abbrev bA.c0(X:bA)(E:aB->ba->Prop):bA:={X with xe:=E}
abbrev bA.b9(X:bA):bA:=X.c0 λ_ _=>eo
def bA.Ok.c1{X:bA}(ok:X.Ok)(E:aB->ba->Prop):(X.c0 E).Ok:=(ok.a2,ok.a1,ok.b1,ok.b9,ok.a3,ok.b4,ok.a4,ok.a8,ok.hd,ok.b6,ok.b5,ok.b7,ok.bs,ok.a5,ok.a9,ok.b0,ok.a6,ok.b3,ok.b8,ok.b2)
def bA.Ok.c0{X:bA}(ok:(X.c0 E).Ok):X.Ok:=(ok.a2,ok.a1,ok.b1,ok.b9,ok.a3,ok.b4,ok.a4,ok.a8,ok.hd,ok.b6,ok.b5,ok.b7,ok.bs,ok.a5,ok.a9,ok.b0,ok.a6,ok.b3,ok.b8,ok.b2)
section
variable{X:bA}{a:af (ax×cU)}{b:cw}{H:ay}{s:ba}{E:aB->ba->Prop}
def aV.d3(I:aV X a b H s)(E:aB->ba->Prop):aV (X.c0 E) a b H s:=(I.ok.c1 E,I.os,I.a9,I.a2,I.a6,I.b2,I.b3,I.b4,I.b1,I.a1,I.b7)
def aV.c2(I:aV (X.c0 E) a b H s):aV X a b H s:=(I.ok.c0,I.os,I.a9,I.a2,I.a6,I.b2,I.b3,I.b4,I.b1,I.a1,I.b7)
def yI.a0(h:yI (X.c0 E) a D f s'):yI X a D f s':=by
 cases f with
 |next=>obtain⟨c,d,I,q⟩:=h;exact(c,d,I.c2,q)
 |brk=>obtain⟨c,d,I,q⟩:=h;exact(c,d,I.c2,q)
 |cont=>obtain⟨c,d,I,q⟩:=h;exact(c,d,I.c2,q)
 |ret u=>obtain⟨v,c,d,I,r,q⟩:=h;exact(v,c,d,I.c2,r,q)
def bg.a0{c:af du}(h:bg X.b9 c t):bg X c t:=λa s b H D I d=>nU (h a s b H D (I.d3 _) d) (λ_ _ q=>q.a0) λ_ _ z=>mP z
end
section
variable{X:bA}{j:du}{rest:af du}{t u:hX}{e:bI}{i:cS}{g:dj}
def aaJ:hX:=λD a H=>D.a a H
def aaD(t u:hX):hX:=λD a H=>t {D with a:=u D} a H
def DU:bg X [] aaJ:=λ_ _ a H _ I h=>Hq (a,H,I,h)
def eN(h1:cH X j t)(k:bg X rest u):bg X (j::rest) (aaD t u):=by
 intro a s c H D I h;refine Yp<|bZ (h1 a s c H {D with a:=u D} I h) λf d q=>?_;cases f with
 |next=>obtain⟨b,m,l,q⟩:=q;exact k a d b m D l q
 |ret v=>exact q|brk=>exact q|cont=>exact q
def uM(h1:cH X j t):bg X [j] t:=by
 intro a s b H D I h;refine Yp<|bZ (h1 a s b H D I h) λf c q=>?_;cases f with
 |next=>exact Hq q
 |ret v=>exact q|brk=>exact q|cont=>exact q
def aV.f2(I:aV X pins σ H s):Yx X.a0=aw:=by (rw[Yx,I.ok.a1];solve_by_elim)
def aaQ(i:cS):hX:=λD a H=>i a H λ_ b=>D.a a b
def uN(he:aA X e i)(d:fS e aq g.line X.a0=cA aw|>1):cH X (.Expr e g) (aaQ i):=by intro a s b H D I h;exact wpAny_Expr_any (bZ (he a s b H _ I h) λv l (x,k,f,m,c)=>(b,k,f,c)) I.f2 d
def aaE(i:cS):hX:=λD a H=>i a H D.b
def yA(he:aA X e i):cH X (.Return (ai e) g) (aaE i):=by intro a s b H D I h;exact wpAny_Return_some<|bZ (he a s b H _ I h) λv l (x,k,f,c,d)=>(x,b,k,f,c,d)
def aaM(c:iR)(t u:hX):hX:=λD a H=>c a H λb d=>if b=ao then t D a d else u D a d
def rX(hc:cP X c tc)(q:bg X a t)(p:bg X b u):cH X (.If c a b g) (aaM tc t u):=by
 intro f s k H D I h;refine wpAny_If<|bZ (hc f s k H _ I h) λd l (o,n,m)=>?_;cases d with|true=>exact q f l k o D n m|false=>exact p f l k o D n m
def aaK:hX:=λ_ _ _=>eo
def lM:bg X sts aaK:=λ_ _ _ _ _ _ h=>h.elim
end
abbrev rf:=aH->cw->ay->(cw->ay->Prop)->Prop
abbrev AX:=af aH->cw->ay->(cw->ay->Prop)->Prop
def jd(X:bA)(a:bI)(t:rf):Prop:=∀(pins:af (ax×cU)) (s:ba) (c:cw) (H:ay) (v:aH) (u:aB) (Q:cw->ay->Prop),aV X pins c H s->cy v u->t v c H Q-> cf (bQ X.a2 X.w) X.A (kE a X.a0 u) (λ_ e=>∃b d,aV X pins b d e/\Q b d) X.xe s
def Ej(X:bA)(f:af bI)(t:AX):Prop:=∀(pins:af (ax×cU)) (s:ba) (b:cw) (H:ay) (c:af aH) (d:af aB) (Q:cw->ay->Prop),aV X pins b H s->dh c d->t c b H Q-> cf (bQ X.a2 X.w) X.A (assignInOrder ((gL f X.a0).map (·.2)) d) (λ_ g=>∃a e,aV X pins a e g/\Q a e) X.xe s
abbrev IZ:=aH->aH->aH->ay->(ay->Prop)->Prop
def Ja(X:bA)(t:IZ):Prop:=∀(pins:af (ax×cU)) (s:ba) (a:cw) (H:ay) (o i v:aH) (e b u:aB) (Q:ay->Prop),aV X pins a H s->cy o e->cy i b->cy v u->t o i v H Q-> cf (bQ X.a2 X.w) X.A (qT e b u) (λ_ d=>∃c,aV X pins a c d/\Q c) X.xe s
abbrev Ei:=aH->aH->ay->dw->Prop
def tD(X:bA)(b:Operator)(t:Ei):Prop:=∀(pins:af (ax×cU)) (s:ba) (a:cw) (H:ay) (x y:aH) (v u:aB) (Q:dw),aV X pins a H s->cy x v->cy y u->t x y H Q-> cf (bQ X.a2 X.w) X.A (inplaceOp b v u) (je X pins a Q) X.xe s
section
variable{X:bA}{d:dj}
def Ec(i:ag):rf:=λv a H Q=>Q (a.set i<|ai v) H
def uP(hN:X.N.Nodup)(c:X.N[i]?=ai x)(b:h_ X.a0.scope x)(e:iE X x|>3):jd X (.Name x d) (Ec i):=by intro a s g H v u Q I r h;exact Yr<|Ip I hN c b r (λj f=>(_,H,f,h)) e
def acC:AX:=λb a H Q=>b=[]/\Q a H
def acD(t:rf)(u:AX):AX:=λc b H Q=>∃v r,c=v::r/\t v b H λa e=>u r a e Q
def IA:Ej X [] acC:=by intro a s b H c f Q I r h;obtain⟨e,h⟩:=h;subst e;cases r;exact assignInOrder_nil (b,H,I,h)
def wD(h1:jd X e t)(j:Ej X es u)
  (hs:(gL (e::es) X.a0).map (·.2)=kE e X.a0::(gL es X.a0).map (·.2)|>1):Ej X (e::es) (acD t u):=by
 intro a s c H n p Q I r h;obtain⟨v,o,k,h⟩:=h;subst k;cases r using X4 with|cons r g=>rw[hs];refine assignInOrder_cons<|bZ (h1 a s c H _ _ _ I r h) λ_ f (b,m,l,i)=>?_;exact j a f b m _ _ Q l g i
def acA(K:aZ)(n:ag)(t:AX):rf:=λv c H Q=>∃a b,v=.c a/\iS K H a b/\b.length=n/\t b c H Q
def IB(hc:X.a9=ao)(h:Ej X es t)
  (hn:(gL es X.a0).length=n|>1)(f:(gL es X.a0).findIdx? (·.1)=aq|>1):jd X (.Tuple es k d) (acA X.K n t):=by
 intro c s g H v u Q I r A;obtain⟨a,j,x,B,q,A⟩:=A;subst x;cases r;obtain⟨l,i,p,z⟩:=I.a8 B;refine assign_Tuple_tuple (I.ok.hd hc) p (by simp[hn,<-q,i.a0]) f λw m=>?_;have y:aV X c g H {s with heap:=w}:=I.a7 (t':=s.toks) λb o e=>m b o (kY<|eU e) e;exact h c _ g H j _ Q y (by simpa using i) A
def acB(g b:cS)(t:IZ):rf:=λv a H Q=>g a H λo f=>b a f λi e=>t o i v e λc=>Q a c
def IC(ho:aA X o to)(p:aA X i ti)(n:Ja X t)
  (ha:(∀v,kE (.Subscript o i d) X.a0 v=(do
   let E<-jW [v]<|bN o X.a0
   let b<-jW [v,E] (bN i X.a0)
   we d
   jW [v,E,b] (qT E b v)
   s_ [v,E,b] []))|>4):jd X (.Subscript o i d) (acB to ti t):=by
 intro a s c H v u Q I r h;rw[ha];refine eB<|Ho<|bZ (ho a s c H _ I h) λE f (x,C,z,j,m)=>?_;refine eB<|Ho<|bZ (p a f c C _ z m) λb e (y,B,w,g,l)=>?_;refine eB<|Hn<|eB<|Ho<|bZ (n a e c B x y v E b u _ w j g r l) λ_ D (A,q,k)=>?_;exact wpAny_release (c,A,q,k)
def Io(te:cS)(g:rf):hX:=λD a H=>te a H λx b=>g x a b D.a
def Iz(he:aA X e te)(k:jd X tg g)(j:Hs [tg] e d.line X.a0=cA aw|>1)(o:Ht [tg] e X.a0=cA aq|>1)
  (h1:(gL [tg] X.a0).map (·.2)=[kE tg X.a0]|>1):cH X (.Assign [tg] e d) (Io te g):=by
 intro a s b H D I h;refine wpAny_Assign_stores (bZ (he a s b H _ I h) λv c (x,m,l,f,i)=>?_) j o;rw[h1];exact bZ (k a c b m x v _ l f i) λ_ n q=>q
def pk(hN:X.N.Nodup)(k:X.N[i]?=ai x)(g:h_ X.a0.scope x)(m:aA X e te)(j:fS e (ai<|.Name x pos') d.line X.a0=cA aw|>1)(l:iE X x|>3):
  cH X (.Assign [.Name x pos'] e d) (Io te<|Ec i):=by
 intro a s b H D I h;refine wpAny_Assign_Name (bZ (m a s b H _ I h) λv r (y,p,o,c,f)=>?_) j;exact Ip o hN k g c (λq n=>(_,p,n,f)) l
def aa0(i:ag)(c:cS)(b:Ei):hX:=λD a H=>∃x,a[i]?=ai (ai x)/\c a H λy f=>b x y f λz e=>D.a (a.set i<|ai z) e
def abo(hN:X.N.Nodup)(q:X.N[i]?=ai x)(o:h_ X.a0.scope x)(P:aA X e te)(J:tD X op ti)(O:iE X x|>3):
  cH X (.AugAssign (.Name x pos') op e d) (aa0 i te ti):=by
 intro a s p H D I h;obtain⟨v,R,h⟩:=h;obtain⟨m,K,M⟩:=I.a6;have n:eF X.a0.scope x:=by rcases o with k|k;exact .inl k;exact .inr<|.inl k
 obtain⟨u,r,l⟩:=M i x v q R n;refine wpAny_AugAssign_Name ?_;have t:cf (bQ X.a2 X.w) X.A (bN e X.a0) (λw j=>cf (bQ X.a2 X.w) X.A (inplaceOp op u w) (λr g=>cf (bQ X.a2 X.w) X.A (NC X.a0 x r) (λ_=>yI X a D .next) X.xe g) X.xe j) X.xe s:=by refine bZ (P a s p H _ I h) λw B (y,W,U,E,G)=>?_;refine bZ (J a B p W v y u w _ U r E G) λz s2 (Y,V,T,C,F)=>?_;exact Ip T hN q o C (λZ S=>(_,V,S,F)) O
 rcases l with⟨b,L⟩|⟨b,c,Q,f⟩;·exact Ym I.ok.a1 b K L t
 ·rcases b with b|b;·exact Yn I.ok.a1 b Q f t
  ·rcases o with k|k;·have:X.a0.scope.names.lookup x=ai .free:=b;nofun
   ·have:X.a0.scope.names.lookup x=ai .free:=b;nofun
def aaZ(h f g:cS)(b:aH->aH->ay->dw->Prop)(e:Ei)(a:IZ):hX:=λD c H=>h c H λo n=>f c n λi m=>b o i m λx l=>g c l λy k=>e x y k λz j=>a o i z j λh=>D.a c h
def Qx(X:bA)(t:aH->aH->ay->dw->Prop):Prop:=∀(pins:af (ax×cU)) (s:ba) (a:cw) (H:ay) (o i:aH) (c b:aB) (Q:dw),aV X pins a H s->cy o c->cy i b->t o i H Q-> cf (bQ X.a2 X.w) X.A (Ag c b) (je X pins a Q) X.xe s
def Iy(ho:aA X o to)(L:aA X i ti)(M:Qx X tget)(N:aA X e te)(K:tD X op tip)(J:Ja X tset)
  (ha:(∀ov c new,Ai i ov c new=(do jW [new,ov,c] (qT ov c new);s_ [new,ov,c] [];cA .next))|>4):cH X (.AugAssign (.Subscript o i tpos) op e d) (aaZ to ti te tget tip tset):=by
 intro a s b H D I h;refine wpAny_AugAssign_SubscriptAny (bZ (ho a s b H _ I h) λov w (j,H1,T,l,G)=>?_) ha;refine bZ (L a w b H1 _ T G) λc u (g,Z,S,k,F)=>?_;refine bZ (M a u b Z j g ov c _ S l k F) λf t (p,Y,R,z,E)=>?_;refine bZ (N a t b Y _ R E) λv r (n,W,Q,y,C)=>?_;refine bZ (K a r b W p n f v _ Q z y C) λnew q (m,V,P,x,B)=>?_;exact bZ (J a q b V j g m ov c new _ P l k x B) λ_ s6 (U,O,A)=>(b,U,O,A)
def wG(f:ah->ah->ah):Ei:=λx y H Q=>∃i j,x=.d i/\y=.d j/\Q (.d<|f i j) H
def uU:tD X .Add (wG λi j=>i+j):=by intro a s g H x y v u Q I c b h;obtain⟨i,j,f,e,q⟩:=h;subst f;subst e;obtain⟨t,rfl⟩:=c;obtain⟨k,rfl⟩:=b;exact iadd_int (.d _,H,I.a4 _,(_,aa),q)
def AR:tD X .Sub (wG λi j=>i- j):=by intro a s g H x y v u Q I c b h;obtain⟨i,j,f,e,q⟩:=h;subst f;subst e;obtain⟨t,rfl⟩:=c;obtain⟨k,rfl⟩:=b;exact isub_int (.d _,H,I.a4 _,(_,aa),q)
end
section
variable{X:bA}{a:dj}
def aay(c:iR)(i:hX):hX:=λD d H=>∃W:ag->cw->ay->Prop,(∃m,W m d H)/\∀m d H,W m d H-> c d H λb g=>if b=ao then ∃N:cw->ay->Prop,(∀e h,N e h->∃f,f<m/\W f e h)/\i {D with a:=N,c:=N,d:=D.a} d g else D.a d g
def Pn(hp:uB (bQ X.a2 X.w) X.A X.a0 X.xe)(C:cP X c tc)(E:bg X body tb):cH X (.While c body [] a) (aay tc tb):=by
 intro d s r H D I h;obtain⟨W,⟨B,t⟩,i⟩:=h;refine wpAny_While<|codeAny_whileLoop (λn y=>∃g q,aV X d g q y/\W n g q) ?_ B (r,H,I,t);rintro n x ⟨e,p,G,w1⟩;refine yc hp<|bZ (C d x e p _ G<|i n e p w1) λb u (o,m,k)=>?_;cases b with
 |true=>
  obtain⟨N,L,k⟩:=k;rw[aG aa];refine yc hp<|bZ (E d u e o _ m k) λf K j=>?_;cases f with
  |next=>obtain⟨l,J,F,z⟩:=j;left
  |cont=>obtain⟨l,J,F,z⟩:=j;left
  |brk=>exact j|ret v=>exact j
 |false=>rw[aE oT];exact Hq (e,o,m,k)
end
structure my where
 b:ag->ay->Prop
 a:ag->ay->aH->ay->Prop
 c:ag->ay->Prop
def qh(X:bA)(a:af (ax×cU))(H:ay)(b:ax):Prop:=H b=aq/\b≠X.a0.locals/\b∉X.fs/\(b∈X.ex\/X.b1.heap.objs.size<=b)/\(∀x c,X.a0.cells.lookup x=ai c->c≠b)/\∀p∈X.pn++a,p.1≠b
def aV.b6(I:aV X pins σ H s)(a:s.heap.objs.size<=b)(f:H' b=aq):qh X pins H' b:=by refine(f,DA<|gX I.lt a,I.f3 a,.inr<|fx I.sz a,λx c e z=>?_,λp d z=>?_);obtain⟨v,q⟩:=I.b2 x c e;exact bG (gX q.lt (by rw[z];exact a))<|tq _;exact bG (gX (eU (I.b1 p d).1) (by rw[z];exact a))<|tq _
structure qd(P:cn)(w:bS)(K:aZ)(tg:bI)(J:my)(fp:af ax)(it:ax)(tn:ag->bT->Prop):Prop where
 g:it∈fp
 a:∀i h,tn i h->∀b∈fp,∃o,h.get? b=ai o/\∀v,o.data≠.cell v
 c:∀i h h',tn i h->(∀b∈fp,∀o,h.get? b=ai o->h'.get? b=ai o)->tn i h'
 d:∀(X:bA),X.a2=P->X.w=w->X.K=K->X.a9=ao->∀(i:ag) (pins:af (ax×cU)) (s:ba) (σ:cw) (H:ay) (E:aB->ba->Prop),aV X pins σ H s->(∀b∈fp,qh X pins H b)->tn i s.heap->J.b i H-> cf (bQ P w) X.A (pyNext (.ref it)) (λr s1=>∃u,r=ai u/\ cf (bQ P w) X.A (Hx tg (.ref it) u) (λ_ s2=>∃x H',aV X pins σ H' s2/\cy x u/\J.a i H x H'/\tn (i+1) s2.heap/\∀b∈fp,H' b=aq) E s1) E s
 e:∀(X:bA),X.a2=P->X.w=w->X.K=K->X.a9=ao->∀(i:ag) (pins:af (ax×cU)) (s:ba) (σ:cw) (H:ay) (E:aB->ba->Prop),aV X pins σ H s->(∀b∈fp,qh X pins H b)->tn i s.heap->J.c i H-> cf (bQ P w) X.A (pyNext (.ref it)) (λr s1=>r=aq/\aV X pins σ H s1) E s
 f:∀(A:fG) (i:ag) (s:ba) (Q:aB->ba->Prop) (E:aB->ba->Prop),tn i s.heap->Q (.ref it) s->cf (bQ P w) A (Hv (.ref it)) Q E s
abbrev oo:=cw->ay->(my->ay->Prop)->Prop
def Jc(X:bA)(a:af (ax×cU))(h:cw)(i:bI)(R:my->ay->Prop)(c:aB)(f:ba):Prop:=∃(it:ax) (g:af ax) (e:ag->bT->Prop) (J:my) (d:ay),c=.ref it/\aV X a h d f/\qd X.a2 X.w X.K i J g it e/\e 0 f.heap/\(∀b∈g,qh X a d b)/\R J d
def fz(X:bA)(d a:bI)(c:oo):Prop:=∀(pins:af (ax×cU)) (s:ba) (b:cw) (H:ay) (R:my->ay->Prop),aV X pins b H s->c b H R-> cf (bQ X.a2 X.w) X.A (bN a X.a0) (λv e=>cf (bQ X.a2 X.w) X.A (Hv v) (Jc X pins b d R) X.xe e) X.xe s
def yF(ho:s.heap.get? it=ai o)(c:o.cls=.type n)(b:o.data=.fields vs)
  (hn:["enumerate","zip","dict_itemiterator","dict_reverseitemiterator","odict_iterator","itertools.zip_longest","itertools.pairwise"].contains n=aw)(a:Q ⟨⟩ s):cf M A (Hx tg (.ref it) u) Q E s:=by
 unfold Hx;cases tg<;>first
  |exact gB a
  |(cases u<;>first
   |exact gB a
   |(refine eB<|wpAny_load ho ?_;rw[c,b];show cf M A (if(["enumerate","zip","dict_itemiterator","dict_reverseitemiterator","odict_iterator","itertools.zip_longest","itertools.pairwise"].contains n&&vs[0]?==ai (wg _))=ao then _ else _) Q E s;rw[aE (by intro h;rw[hn,P0]at h;cases h)];exact gB a))
def QE(K:aZ)(a:ax):my:=(λi H=>∃b x,dX K H a b/\b[i]?=ai x,λi H x c=>c=H/\∀b,dX K H a b->b[i]?=ai x,λi H=>∃b,dX K H a b/\b.length<=i)
def QC(K:aZ)(a:ax):my:=(λi H=>∃b x,iS K H a b/\b[i]?=ai x,λi H x c=>c=H/\∀b,iS K H a b->b[i]?=ai x,λi H=>∃b,iS K H a b/\b.length<=i)
def Jg(lo:ah)(n:ag):my:=(λi _=>i<n,λi H x a=>a=H/\x=.d (lo+i),λi _=>n<=i)
def aav{P:cn}{w:bS}{K:aZ}{Q:bI}(a j:ax):qd P w K Q (QE K a) [j] j (λi h=>h.IsListIter j a i) where
 g:=(_)
 a:=λi h f b l=>by
  have e:b=j:=by simpa using l
  subst e;obtain⟨o,e,c,d⟩:=f;exact(o,e,λv z=>by rw[d]at z;cases z)
 c:=λi h q f k=>f.at λo e=>k j (_) o e
 d:=by intro X B hw C N i g s M H E I n f A;subst B hw C;obtain⟨O,x,W,y⟩:=A;obtain⟨t,r,p,T⟩:=I.a3 W;obtain⟨u,V,S⟩:=r.a1 y;obtain⟨L,J,Y,G,F,D⟩:=n j (_);refine wpAny_pyNext_list_item f p.isList (x:=u) (by simpa using V) λq m R=>?_;have I1:aV X g M H {s with heap:=q}:=I.a5 (t':=s.toks) (λb o l e=>(R.2 b l).trans e) L J G F D;obtain⟨o,e,c,d⟩:=id m;exact(u,aa,yF (s:={s with heap:=q}) e c d ⋯ (x,H,I1,S,(aa,λys U=>by rw[I.c1 U W];exact y),m,λb l=>(n b l).1))
 e:=by intro X B hw C N i g s M H E I n f A;subst B hw C;obtain⟨O,W,y⟩:=A;obtain⟨t,r,p,T⟩:=I.a3 W;obtain⟨L,J,Y,G,F,D⟩:=n j (_);have hl:=r.a0;exact wpAny_pyNext_list_end (I.ok.hd N) f p.isList (by simp;nofun) λq Z=>(aa,I.a5 (t':=s.toks) (λb o l e=>Z b o l e) L J G F D)
 f:=λ_ _ _ _ _ f h=>wpAny_pyIter_listiter f h
def aar{P:cn}{w:bS}{K:aZ}{Q:bI}(a l:ax):qd P w K Q (QC K a) [l] l (λi h=>h.IsTupleIter l a i) where
 g:=(_)
 a:=λi h f b m=>by
  have e:b=l:=by simpa using m
  subst e;obtain⟨o,e,c,d⟩:=f;exact(o,e,λv z=>by rw[d]at z;cases z)
 c:=λi h r f k=>f.at λo e=>k l (_) o e
 d:=by intro X B hw C N i g s M H E I q f A;subst B hw C;obtain⟨O,x,W,y⟩:=A;obtain⟨j,t,p,T⟩:=I.a8 W;obtain⟨u,V,S⟩:=t.a1 y;obtain⟨L,J,Y,G,F,D⟩:=q l (_);refine wpAny_pyNext_tuple_item f (show s.heap.IsTuple a j.toArray from p) (x:=u) (by simpa using V) λr n R=>?_;have I1:aV X g M H {s with heap:=r}:=I.a5 (t':=s.toks) (λb o m e=>(R.2 b m).trans e) L J G F D;obtain⟨o,e,c,d⟩:=id n;exact(u,aa,yF (s:={s with heap:=r}) e c d ⋯ (x,H,I1,S,(aa,λys U=>by rw[I.f0 U W];exact y),n,λb m=>(q b m).1))
 e:=by intro X B hw C N i g s M H E I q f A;subst B hw C;obtain⟨O,W,y⟩:=A;obtain⟨j,t,p,T⟩:=I.a8 W;obtain⟨L,J,Y,G,F,D⟩:=q l (_);have hl:=t.a0;exact wpAny_pyNext_tuple_end (I.ok.hd N) f (show s.heap.IsTuple a j.toArray from p) (by simp;ac_rfl) λr Z=>(aa,I.a5 (t':=s.toks) (λb o m e=>Z b o m e) L J G F D)
 f:=λ_ _ _ _ _ f h=>wpAny_pyIter_tupleiter f h
def aau{P:cn}{w:bS}{K:aZ}{J:bI}(d:ax)(j:ah)(n:ag):qd P w K J (Jg j n) [d] d (λi h=>HH h d (j+(i:ag)*1) ((n:ah)-(i:ag)) 1) where
 g:=(_)
 a:=λi h a b f=>by
  have e:b=d:=by simpa using f
  subst e;exact(_,a,λv z=>by have G:Data.fields _=Data.cell v:=z;cases G)
 c:=λi h m a k=>k d (_) _ a
 d:=by intro X r Q u q i c s D H E I l a p;subst r Q u;obtain⟨C,B,M,A,y,x⟩:=l d (_);have W:=YE (prog:=X.a2) (w:=X.w) (I.ok.hd q) d j 1 n;refine W.item i s _ _ p a λv m F L g R=>?_;obtain⟨t,rfl⟩:=L;have O:aV X c D H {s with heap:=m,toks:=F}:=I.a5 (λb o f e=>R b o (by simpa using f) e) C B A y x;refine(_,aa,yF (s:={s with heap:=m,toks:=F}) (n:="range_iterator") g aa aa ⋯ (.d<|j+i,H,O,(t,?_),(aa,aa),g,λb f=>(l b f).1));rw[j1]
 e:=by intro X r Q u q i c s D H E I l a p;subst r Q u;obtain⟨C,B,M,A,y,x⟩:=l d (_);exact Ye (I.ok.hd q) a (by have:n<=i:=p;lia) λm N=>(aa,I.a5 (t':=s.toks) (λb o f e=>N b o f e) C B A y x)
 f:=λ_ _ _ _ _ a h=>Yk a h
section
variable{X:bA}{c:bI}
def acs(K:aZ)(f:cS):oo:=λd H R=>f d H λx b=>∃a,x=.c a/\(∃e,dX K b a e)/\R (QE K a) b
def acn(K:aZ)(f:cS):oo:=λd H R=>f d H λx b=>∃a,x=.c a/\(∃e,iS K b a e)/\R (QC K a) b
def abz(hl:aA X l tl):fz X c l (acs X.K tl):=by
 intro d s i H R I h;refine bZ (hl d s i H _ I h) λv f (x,r,g,j,k)=>?_;obtain⟨a,e,⟨t,y⟩,q⟩:=k;subst e;cases j;obtain⟨m,u,p,w⟩:=g.a3 y;refine Nw p.isList ?_;refine(f.heap.objs.size,[f.heap.objs.size],_,_,r,aa,g.a7 (t':=f.toks) λb o e=>gN _ e,aav a _,(_,jb _ aa,aa,aa),λb n=>?_,q);have e:b=f.heap.objs.size:=by simpa using n
 subst e;exact g.b6 (b_ _)<|g.a1.a0<|b_ _
def abu(hl:aA X l tl):fz X c l (acn X.K tl):=by
 intro f s j H R I h;refine bZ (hl f s j H _ I h) λv d (x,r,g,k,m)=>?_;obtain⟨a,e,⟨t,y⟩,q⟩:=m;subst e;cases k;obtain⟨i,u,p,w⟩:=g.a8 y;refine Yi (show d.heap.IsTuple a i.toArray from p) ?_;refine(d.heap.objs.size,[d.heap.objs.size],_,_,r,aa,g.a7 (t':=d.toks) λb o e=>gN _ e,aar a _,(_,jb _ aa,aa,aa),λb n=>?_,q);have e:b=d.heap.objs.size:=by simpa using n
 subst e;exact g.b6 (b_ _)<|g.a1.a0<|b_ _
def abe{a d:ah}(I:aV X pins σ H s)(k: -(2^62)<=a)(j:a<2^62)(i: -(2^62)<=d)(h:d<2^62)
  (q:R (Jg a (d- a).toNat) H):cf (bQ X.a2 X.w) X.A (Hv<|.ref s.heap.objs.size) (Jc X pins σ c R) E {s with heap:=s.heap.push {cls:=.type "range",data:=.fields #[.int a t,.int d u,.int 1 v]},toks:=tk}:=by
 refine Yl (YU ..) (small_one k j i h) ?_;have f:aV X pins σ H {s with heap:=s.heap.push {cls:=.type "range",data:=.fields #[.int a t,.int d u,.int 1 v]},toks:=tk}:=I.a7 λb o e=>gN _ e;refine((s.heap.push {cls:=.type "range",data:=.fields #[.int a t,.int d u,.int 1 v]}).objs.size,[(s.heap.push {cls:=.type "range",data:=.fields #[.int a t,.int d u,.int 1 v]}).objs.size],_,_,H,aa, f.a7 (t':=tk) λb o e=>gN _ e,aau _ a (d- a).toNat,?_,λb g=>?_,q);have m:a+((0:ag):ah)*1=a:=¬_;have l:(((d- a).toNat:ag):ah)-((0:ag):ah)=Ar a d 1:=by rw[Yu];split<;>grind
 show HH _ _ (a+((0:ag):ah)*1) ((((d- a).toNat:ag):ah)-((0:ag):ah)) 1;rw[m,l];exact jb _ aa;have e:b=(s.heap.push {cls:=.type "range",data:=.fields #[.int a t,.int d u,.int 1 v]}).objs.size:=by simpa using g
 subst e;exact f.b6 (b_ _)<|f.a1.a0<|b_ _
def acq(ta:iD):oo:=λa H R=>ta a H λb d=>∃j:ah,b=[.d j]/\ -(2^62)<=j/\j<2^62/\R (Jg 0 j.toNat) d
def aby(hg:dn X "range")(m:X.mg "range"=aq)(x:eW X [a] ta)(l:dC [a] X.a0=[(aw,bN a X.a0)]|>1):fz X c (.Call (.Name "range" p) [a] [] pos) (acq ta):=by
 intro b s f H R I h;refine Av<|tu I hg m Ob<|yl (bZ (x pos b s f H _ I h) λu v (o,w,n,i,d)=>?_) l aa;obtain⟨j,e,d,k,q⟩:=d;subst e;cases i using X4 with|cons r g=>cases g;obtain⟨t,rfl⟩:=r;exact YC<|abe n (_) ∅ d k (by simpa using q)
def aaO(wi:oo)(g:rf)(h:hX):hX:=λD a H=>wi a H λJ k=>∃W:ag->ag->cw->ay->Prop,(∃m,W 0 m a k)/\∀i m a H,W i m a H-> (J.c i H/\D.a a H)\/(J.b i H/\∃N:cw->ay->Prop,(∀b d,N b d->∃f,f<m/\W (i+1) f b d)/\∀x d,J.a i H x d->g x a d λe j=>h {D with a:=N,c:=N,d:=D.a} e j)
def AL(fp:af ax)(h:bT):af (ax×cU):=fp.filterMap λb=>(h.get? b).map λo=>(b,o)
def IL(hb:b∈fp)(e:h.get? b=ai o):(b,o)∈AL fp h:=H_.mpr (b,hb,by rw[e];rfl)
def abX(hp:p∈AL fp h):p.1∈fp/\h.get? p.1=ai p.2:=by
 obtain⟨b,a,e⟩:=H_.mp hp;cases q:h.get? b with
 |none=>rw[q]at e;cases e
 |some o=>left
def aV.d8(I:aV X pins σ H s)(i:∀b∈fp,qh X pins H b)(h:∀b∈fp,∃o,s.heap.get? b=ai o/\∀v,o.data≠.cell v):aV X (pins++AL fp s.heap) σ H s:=I.e3 λp g=>(nZ.mp g).elim (λz=>I.b1 p<|wy _ z) λz=>by obtain⟨a,e⟩:=abX z;obtain⟨l,k,j,_⟩:=i p.1 a;obtain⟨o,f,d⟩:=h p.1 a;rw[e]at f;cases f;exact(e,l,k,j,d)
def aV.c7(I:aV X (pins++pl) σ H s):aV X pins σ H s:=I.e3 λp a=>I.b1 p<|wy _<|ZU _ a
def DV(hp:uB (bQ X.a2 X.w) X.A X.a0 X.xe)(hc:X.a9=ao)(hi:fz X c iter wi)(hg:jd X c g)(q:bg X body tb)
  (hs:(∀x,pW iter X.a0 x=cA x)|>4):cH X (.For c iter body [] pos) (aaO wi g tb):=by
 intro j s Y H D I h;refine wpAny_For (bZ (hi j s Y H _ I h) λv s1 h1=>bZ h1 λitv s2 h2=>?_) hs;obtain⟨it,M,Z,J,H2,e,I2,T,Q,f2,W,⟨m0,w0⟩,F⟩:=h2;subst e;have p:∀{B:ay},(∀b∈M,B b=aq)->∀b∈M,qh X j B b:=λhn b q=>(hn b q,(f2 b q).2);refine codeAny_forLoop_any (λn s'=>∃i l B,aV X j l B s'/\Z i s'.heap/\(∀b∈M,B b=aq)/\W i n l B) ?_ m0 (0,Y,H2,I2,Q,λb q=>(f2 b q).1,w0);rintro n s3 ⟨i,k,O,I3,G,L,w3⟩;rcases F i n k O w3 with⟨stop,qn⟩|⟨go,N,hN,step⟩;·refine yc hp<|bZ (T.e X aa aa aa hc i j s3 k O X.xe I3 (p L) G stop) λr s4 (S,I4)=>?_;subst S;exact Hq (k,O,I4,qn)
 ·refine yc hp<|bZ (T.d X aa aa aa hc i j s3 k O X.xe I3 (p L) G go) λr s4 (u,S,h4)=>?_;subst S;refine yc hp<|bZ h4 λ_ s5 (x,H5,I5,r5,y5,E,U)=>?_;have V:=I5.d8 (p U)<|T.a _ _ E;refine yc hp<|bZ (hg _ s5 k H5 x u _ V r5<|step x H5 y5) λ_ s6 (P,H6,I6,q6)=>?_;refine yc hp<|bZ (q _ s6 P H6 _ I6 q6) λf R C=>?_;have t:∀{a:cw} {z:ay},aV X (j++AL M s5.heap) a z R->N a z->∃m,m<n/\∃i l B,aV X j l B R/\Z i R.heap/\(∀b∈M,B b=aq)/\W i m l B:=λ{a z} y K=>by obtain⟨m',hm,w7⟩:=hN a z K;refine(m',hm,i+1,a,z,y.c7,T.c _ _ _ E λb q o e=>(y.b1 (b,o)<|wy _<|wy _<|IL q e).1,λb q=>?_,w7);obtain⟨o,e,d⟩:=T.a _ _ E b q;exact(y.b1 (b,o)<|wy _<|wy _<|IL q e).2.1
  cases f with
  |next=>obtain⟨a,z,y,K⟩:=C;exact t y K
  |cont=>obtain⟨a,z,y,K⟩:=C;exact t y K
  |brk=>obtain⟨a,z,y,C⟩:=C;exact(a,z,y.c7,C)
  |ret v=>obtain⟨x7,a,z,y,r7,C⟩:=C;exact(x7,a,z,y.c7,r7,C)
end
abbrev oq:=aH->aH->ay->dw->Prop
def gi(X:bA)(f:aB->aB->Sem aB)(r:oq):Prop:=∀(pins:af (ax×cU)) (s:ba) (a:cw) (H:ay) (x y:aH) (v u:aB) (Q:dw),aV X pins a H s->cy x v->cy y u->r x y H Q-> cf (bQ X.a2 X.w) X.A (f v u) (je X pins a Q) X.xe s
def IY(X:bA)(f:aB->Sem aB)(r:aH->ay->dw->Prop):Prop:=∀(pins:af (ax×cU)) (s:ba) (a:cw) (H:ay) (x:aH) (v:aB) (Q:dw),aV X pins a H s->cy x v->r x H Q-> cf (bQ X.a2 X.w) X.A (f v) (je X pins a Q) X.xe s
def nh(X:bA)(f:aB)(r:af aH->ay->dw->Prop):Prop:=∀(pins:af (ax×cU)) (s:ba) (a:cw) (H:ay) (b:af aH) (c:af aB) (Q:dw),aV X pins a H s->dh b c->r b H Q-> cf (bQ X.a2 X.w) X.A (oX f c) (je X pins a Q) X.xe s
def DR(r:oq)(c b:cS):cS:=λa H Q=>c a H λx e=>b a e λy d=>r x y d Q
def aaz(r:aH->ay->dw->Prop)(b:cS):cS:=λa H Q=>b a H λx c=>r x c Q
def AI(C:ah->ah->Prop)(g:ah->ah->aH):oq:=λx y H Q=>∃i j,x=.d i/\y=.d j/\C i j/\Q (g i j) H
def rW(g:ah->ah->aH):oq:=λx y H Q=>∃i j,x=.d i/\y=.d j/\Q (g i j) H
def Pa(g:ah->aH):aH->ay->dw->Prop:=λx H Q=>∃i,x=.d i/\Q (g i) H
section
variable{X:bA}{a b c:bI}{d k l:cS}{e:dj}
def IX(ha:aA X a d)(q:aA X b k){R:aH->aH->ay->Prop}(I:aV X pins σ H s)
  (h:d σ H λx n=>k σ n λy j=>R x y j){f:aB->aB->Sem aB}
  (hf:∀v u m x y j,aV X pins σ j m->cy x v->cy y u->R x y j->cf (bQ X.a2 X.w) X.A (f v u) Q X.xe m):
  cf (bQ X.a2 X.w) X.A (bN a X.a0) (λv i=>cf (bQ X.a2 X.w) X.A (bN b X.a0) (λu g=>cf (bQ X.a2 X.w) X.A (f v u) Q X.xe g) X.xe i) X.xe s:=by
 refine bZ (ha pins s σ H _ I h) λv o (x,n,r,z,p)=>?_;refine bZ (q pins o σ n _ r p) λu m (y,j,C,t,B)=>?_;symm
def DX(ho:gi X (th op) r)(t:aA X a d)(m:aA X b k):aA X (.BinOp a op b e) (DR r d k):=by intro f s g H Q I h;exact wpAny_BinOp<|IX t m I h λv u i x y o n p j q=>ho f i g o x y v u Q n p j q
def abB(ho:IY X (unaryOp op) r)(p:aA X a d):aA X (.UnaryOp op a e) (aaz r d):=by intro f s g H Q I h;exact UnaryOp_<|bZ (p f s g H _ I h) λv i (x,o,n,j,m)=>ho f i g o x v Q n j m
def PD{g:ah->ah->ah}
  (rule:∀(i j:ah) (t u:tm) (s:ba) (Q:aB->ba->Prop) (E:aB->ba->Prop),C i j->Q (.int (g i j) s.toks) {s with toks:=s.toks+1}->cf (bQ X.a2 X.w) X.A (f (.int i t)<|.int j u) Q E s):
  gi X f (AI C λi j=>.d<|g i j):=by
 intro m s r H x y v u Q I w o h;obtain⟨i,j,rfl,rfl,p,q⟩:=h;obtain⟨t,rfl⟩:=w;obtain⟨n,rfl⟩:=o;exact rule i j t n s _ _ p (.d<|g i j,H,I.a4 _,(_,aa),q)
def PB{g:ah->ah->ah}
  (rule:∀(i j:ah) (t u:tm) (s:ba) (Q:aB->ba->Prop) (E:aB->ba->Prop),Q (.int (g i j) s.toks) {s with toks:=s.toks+1}->cf (bQ X.a2 X.w) X.A (f (.int i t)<|.int j u) Q E s):
  gi X f (rW λi j=>.d<|g i j):=by
 intro m s p H x y v u Q I r o h;obtain⟨i,j,rfl,rfl,q⟩:=h;obtain⟨t,rfl⟩:=r;obtain⟨n,rfl⟩:=o;exact rule i j t n s _ _ (.d<|g i j,H,I.a4 _,(_,aa),q)
def DZ{g:ah->ah->da}
  (rule:∀(i j:ah) (t u:tm) (s:ba) (Q:aB->ba->Prop) (E:aB->ba->Prop),Q (.bool<|g i j) s->cf (bQ X.a2 X.w) X.A (f (.int i t)<|.int j u) Q E s):
  gi X f (rW λi j=>.e<|g i j):=by
 intro m s p H x y v u Q I r o h;obtain⟨i,j,rfl,rfl,q⟩:=h;obtain⟨t,rfl⟩:=r;obtain⟨n,rfl⟩:=o;exact rule i j t n s _ _ (.e<|g i j,H,I,aa,q)
def abW:gi X (th .Add) (rW λi j=>.d<|i+j):=PB λ_ _ _ _ _ _ _ q=>add_int q
def abO:gi X (th .Sub) (rW λi j=>.d<|i- j):=PB λ_ _ _ _ _ _ _ q=>sub_int q
def abR:gi X (th .Mod) (AI (λ_ j=>0<j) λi j=>.d<|i%j):=PD λi j _ _ _ _ _ f q=>by have g:(0:ah)<j:=f;exact mod_int' () (by rw[Int.fmod_eq_emod_of_nonneg i !_];exact q)
def aap{g:ah->ah}
  (rule:∀(i:ah) (t:tm) (s:ba) (Q:aB->ba->Prop) (E:aB->ba->Prop),Q (.int (g i) s.toks) {s with toks:=s.toks+1}->cf (bQ X.a2 X.w) X.A (f<|.int i t) Q E s):
  IY X f (Pa λi=>.d<|g i):=by
 intro j s m H x v Q I n h;obtain⟨i,rfl,q⟩:=h;obtain⟨t,rfl⟩:=n;exact rule i t s _ _ (.d<|g i,H,I.a4 _,(_,aa),q)
def aao:IY X (unaryOp .USub) (Pa λi=>.d (-i)):=aap λ_ _ _ _ _ q=>neg_int q
end
def OY:aH->aH->da
 |.f,.f=>ao|.f,.d _=>ao|.d _,.f=>ao|.f,.e _=>ao|.e _,.f=>ao|.f,.g _=>ao|.g _,.f=>ao|.d _,.d _=>ao|.e _,.e _=>ao|.g _,.g _=>ao|.h _,.h _=>ao|.d _,.g _=>ao|.g _,.d _=>ao|.e _,.g _=>ao|.g _,.e _=>ao|_,_=>aw
def Pe:oq:=λx y H Q=>OY x y=ao/\Q (.e<|aT<|x=y) H
def Pc:oq:=λx y H Q=>OY x y=ao/\Q (.e (!aT (x=y))) H
def Qj:aT (aH.d i=aH.d j)=(i==j):=(by simp;lia)
def Ql:aT (aH.e i=aH.e j)=(i==j):=(by simp;lia)
def Qi:aT (aH.g i=aH.g j)=(i==j):=(by simp;lia)
def Qk:aT (aH.h i=aH.h j)=(i.toList==j.toList):=by rw[xM];nofun
section
variable{X:bA}{a b c:bI}{f g m:cS}{l:dj}
def gf(I:aV X pins σ H s)(q:Q (.e k) H)(e:k=k'):je X pins σ Q (.bool k') s:=by subst e;exact(.e k,H,I,aa,q)
def AN:gi X (jy .Eq) Pe:=by
 intro n s o H x y v u Q I p d h;obtain⟨k,q⟩:=h;cases x with
 |f=>
  cases p;cases y with
  |f=>cases d;exact j3<|gf I q aa
  |e j=>cases d;exact V2<|gf I q aa
  |d j=>obtain⟨e,rfl⟩:=d;exact Z2<|gf I q aa
  |g j=>obtain⟨e,rfl⟩:=d;exact l3<|gf I q aa
  |_=>exact bG (show aw=ao from k) oT
 |e i=>
  cases p;cases y with
  |f=>cases d;exact T2<|gf I q aa
  |e j=>cases d;exact eq_bool<|gf I q Ql
  |g j=>obtain⟨e,rfl⟩:=d;exact K2<|gf I q aa
  |_=>exact bG (show aw=ao from k) oT
 |d i=>
  obtain⟨t,rfl⟩:=p;cases y with
  |f=>cases d;exact U2<|gf I q aa
  |d j=>obtain⟨e,rfl⟩:=d;exact eq_int<|gf I q Qj
  |g j=>obtain⟨e,rfl⟩:=d;exact L2<|gf I q aa
  |_=>exact bG (show aw=ao from k) oT
 |g i=>
  obtain⟨t,rfl⟩:=p;cases y with
  |f=>cases d;exact m3<|gf I q aa
  |e j=>cases d;exact M2<|gf I q aa
  |d j=>obtain⟨e,rfl⟩:=d;exact N2<|gf I q aa
  |g j=>obtain⟨e,rfl⟩:=d;exact eq_str<|gf I q Qi
  |_=>exact bG (show aw=ao from k) oT
 |h i=>
  obtain⟨t,rfl⟩:=p;cases y with
  |h j=>obtain⟨e,rfl⟩:=d;exact PySem.W.eq_bytes<|gf I q Qk
  |_=>exact bG (show aw=ao from k) oT
 |_=>cases y<;>exact bG (show aw=ao from k) oT
def II:gi X (jy .NotEq) Pc:=by
 intro n s o H x y v u Q I p d h;obtain⟨k,q⟩:=h;cases x with
 |f=>
  cases p;cases y with
  |f=>cases d;exact B4<|gf I q aa
  |e j=>cases d;exact v3<|gf I q aa
  |d j=>obtain⟨e,rfl⟩:=d;exact x3<|gf I q aa
  |g j=>obtain⟨e,rfl⟩:=d;exact l5<|gf I q aa
  |_=>exact bG (show aw=ao from k) oT
 |e i=>
  cases p;cases y with
  |f=>cases d;exact o3<|gf I q aa
  |e j=>cases d;exact ne_bool<|gf I q<|fk Bool.not Ql
  |g j=>obtain⟨e,rfl⟩:=d;exact O2<|gf I q aa
  |_=>exact bG (show aw=ao from k) oT
 |d i=>
  obtain⟨t,rfl⟩:=p;cases y with
  |f=>cases d;exact p3<|gf I q aa
  |d j=>obtain⟨e,rfl⟩:=d;exact ne_int<|gf I q<|fk Bool.not Qj
  |g j=>obtain⟨e,rfl⟩:=d;exact P2<|gf I q aa
  |_=>exact bG (show aw=ao from k) oT
 |g i=>
  obtain⟨t,rfl⟩:=p;cases y with
  |f=>cases d;exact U4<|gf I q aa
  |e j=>cases d;exact R2<|gf I q aa
  |d j=>obtain⟨e,rfl⟩:=d;exact S2<|gf I q aa
  |g j=>obtain⟨e,rfl⟩:=d;exact ne_str<|gf I q<|fk Bool.not Qi
  |_=>exact bG (show aw=ao from k) oT
 |h i=>
  obtain⟨t,rfl⟩:=p;cases y with
  |h j=>obtain⟨e,rfl⟩:=d;exact PySem.W.ne_bytes<|gf I q<|fk Bool.not Qk
  |_=>exact bG (show aw=ao from k) oT
 |_=>cases y<;>exact bG (show aw=ao from k) oT
def Py:gi X (jy .Lt) (rW λi j=>.e<|aT<|i<j):=DZ λ_ _ _ _ _ _ _ q=>lt_int q
def yB:gi X (jy .LtE) (rW λi j=>.e<|aT<|i<=j):=DZ λ_ _ _ _ _ _ _ q=>le_int q
def abT:gi X (jy .Gt) (rW λi j=>.e<|aT<|j<i):=DZ λ_ _ _ _ _ _ _ q=>gt_int q
def abU:gi X (jy .GtE) (rW λi j=>.e<|aT<|j<=i):=DZ λ_ _ _ _ _ _ _ q=>ge_int q
def abS:gi X (jy .Is) (λx y H Q=>y=.f/\Q (.e<|aT<|x=.f) H):=by
 intro d s i H x y v u Q I j e h;obtain⟨rfl,q⟩:=h;cases e;refine is_none_gen<|gf I q ?_;cases x<;>first
  |(cases j;rfl)
  |(obtain⟨t,rfl⟩:=j;rfl)
def abQ:gi X (jy .IsNot) (λx y H Q=>y=.f/\Q (.e (!aT (x=.f))) H):=by
 intro d s i H x y v u Q I j e h;obtain⟨rfl,q⟩:=h;cases e;refine isnot_none_gen<|gf I q ?_;cases x<;>first
  |(cases j;rfl)
  |(obtain⟨t,rfl⟩:=j;rfl)
def D'(b:bI)(h:op≠.In|>2)(i:op≠.NotIn|>2):oY op b=aw:=M0 b h i
def Pw(ho:gi X (jy op) r)(t:aA X a f)(n:aA X b g)(k:oY op b=aw):aA X (.Compare a [op] [b] l) (DR r f g):=by intro d s e H Q I h;exact wpAny_Compare1 (IX t n I h λv u i x y p o r j q=>ho d i e p x y v u Q o r j q) k
def aaB(t:cS):iR:=λd H Q=>t d H λx e=>∃k,x=.e k/\Q k e
def yz(ho:gi X (jy op) r)(M:aA X a f)(C:aA X b g)(B:oY op b=aw):cP X (.Compare a [op] [b] l) (aaB<|DR r f g):=by intro d s i H Q I h;refine Yo (bZ (M d s i H _ I h) λv n (x,K,F,q,A)=>bZ (C d n i K _ F A) λu j (y,J,E,p,w)=>bZ (ho d j i J x y v u _ E q p w) λc L (z,G,D,o,k,e,t)=>?_) B;subst e;cases o;exact Ac (G,D,t)
def aaW(r i:oq)(f g m:cS):cS:=λd H Q=>f d H λx o=>g d o λy n=>r x y n λz e=>∃k,z=.e k/\ (if k=ao then m d e λh j=>i y h j Q else Q (.e aw) e)
def abJ(ho:gi X (jy op) r)(n:gi X (jy op') r')(W:aA X a f)(O:aA X b g)(N:aA X c m)
  (hm:Hy [op,op'] [b,c]=aw|>5):aA X (.Compare a [op,op'] [b,c] l) (aaW r r' f g m):=by
 intro i s j H Q I h;refine Compare_chain (bZ (W i s j H _ I h) λv E (x,V,S,J,M)=>chain_link<|bZ (O i E j V _ S M) λu D (y,U,R,o,L)=>bZ (ho i D j U x y v u _ R J o L) λd C (z,t,q,G,k,e,p)=>?_) hm;subst e;cases G;refine Ac ?_;cases k with|false=>exact ite_ff (.e aw,t,q,aa,p)|true=>exact ite_tt<|chain_last<|bZ (N i C j t _ q p) λA B (w,T,P,F,K)=>n i B j T y w u A Q P o F K
def AO:(dG:ag)<2^63:=by rw[ND];decide
def wC(r:dh [x] us):∃u,us=[u]/\cy x u:=by
 cases r using X4 with|cons e d=>cases d;exact(_,aa,e)
def OL(r:dh [x,y] us):∃u d,us=[u,d]/\cy x u/\cy y d:=by
 cases r using X4 with|cons j i=>
  cases i using X4 with|cons h e=>cases e;exact(_,_,aa,j,h)
def acY:nh X (.builtin "abs") (λd H Q=>∃i,d=[.d i]/\Q (.d (if i<0 then-i else i)) H):=by intro e s j H d k Q I r h;obtain⟨i,rfl,q⟩:=h;obtain⟨u,rfl,t,rfl⟩:=wC r;exact call_abs_int λu n=>(.d (if i<0 then-i else i),H,I.a4 _,(_,aa),q)
def acW(hc:X.a9=ao):nh X (.builtin "max") (λe H Q=>∃i j,e=[.d i,.d j]/\Q (.d (if j>i then j else i)) H):=by intro n s o H e v Q I r h;obtain⟨i,j,rfl,q⟩:=h;obtain⟨u,p,rfl,⟨t,rfl⟩,⟨x,rfl⟩⟩:=OL r;refine max_two_ints (I.ok.hd hc) λy w k=>(_,H,I.a7 k,?_,q);by_cases d:j>i;rw[aG d,aG d];exact(_,aa);rw[aE d,aE d];exact(_,aa)
def acV(hc:X.a9=ao):nh X (.builtin "min") (λe H Q=>∃i j,e=[.d i,.d j]/\Q (.d (if j<i then j else i)) H):=by intro n s o H e v Q I r h;obtain⟨i,j,rfl,q⟩:=h;obtain⟨u,p,rfl,⟨t,rfl⟩,⟨x,rfl⟩⟩:=OL r;refine min_two_ints (I.ok.hd hc) λy w k=>(_,H,I.a7 k,?_,q);by_cases d:j<i;rw[aG d,aG d];exact(_,aa);rw[aE d,aE d];exact(_,aa)
def acT:nh X (.type "str") (λd H Q=>∃i,d=[.d i]/\i.natAbs.log2<1920/\Q (.g<|Aa i) H):=by intro e s k H d n Q I r h;obtain⟨i,rfl,j,q⟩:=h;obtain⟨u,rfl,t,rfl⟩:=wC r;exact PySem.P.str_of_int j (.g _,H,I.a4 _,(_,aa),q)
def acU:nh X (.builtin "ord") (λd H Q=>∃x,d=[.g x]/\x.length=1/\Q (.d (x.cps.getD 0 0:ag)) H):=by intro e s j H d k Q I r h;obtain⟨x,rfl,i,q⟩:=h;obtain⟨u,rfl,t,rfl⟩:=wC r;exact ord_of_one i (.d _,H,I.a4 _,(_,aa),q)
end
structure AY(h:bT)(x dx C:ax)(mA:aC->aJ aB):Prop where
 a1:h.get? x=ai (wq C dx)
 ns:h.Ns1 dx mA
 ne:dx≠x
def ab'{h:bT}(n:h.Ns1 dx mA):∃c,h.get? dx=ai c/\∀name,NR name c=ai (mA name):=by
 obtain⟨o,k,l,f,j,i,_,g⟩:=n;refine(o,f,λname=>?_);have e:=g name;unfold nsFind findBy at e;rw[<-Array.find?_toList]at e;unfold NR;rw[j];dsimp only;split;nofun;rename_i q;rw[q]at e;have a:k.toList.any (·.refKey)=aw:=by rw[List.any_eq_false];intro y d;obtain⟨z,t,b⟩:=i y<|O0.mp d;simp[DictEntry.refKey,b]
 grind
def AY.a3(I:AY h x dx C mA):∃a,PySem.W.InstAt h x (wq C dx) C (ai a)/\∀d,NR d a=ai (mA d):=
 let(a,b,c):=ab' I.ns
 (a,(I.a1,aa,aa,b),c)
section
variable{c:cn}{w:bS}{A:fG}{E:aB->ba->Prop}{s:ba}{K:aZ}{x e C f:ax}{i:aC->aJ aB}{name:aC}{v:aB}
def acz(X:K.In s.heap)(I:AY s.heap x e C i)(j:HC K C name=ao)(g:HD K C=ao)
  (ha:pZ K (.ref C) name=ai aq)(b:i name=ai v)(a:YH v=ao)(h:Q v {s with toks:=s.toks+1}):
  cf (bQ c w) A (NJ (.ref x) name expr) Q E s:=by
 obtain⟨k,J,d⟩:=I.a3;exact PySem.W.get_value X J (PySem.W.plainGet_of j).1 (PySem.W.findObj_own g ha aa (by rw[d,b])) a h
def aa_(X:K.In s.heap)(I:AY s.heap x e C i)
  (hs:pZ K (.ref C) "__setattr__"=ai (ai<|.builtin "object.__setattr__"))(t:NO K C=ao)(p:NN K C name=ai aq)(u:HD K C=ao)
  (hw:NM i ns)(q:ns.length<=dG)
  (h:∀j,AY j x e C (λy=>if y=name then ai v else i y)->Dr e s.heap j->Q ⟨⟩ {s with heap:=j,toks:=s.toks+2}):
  cf (bQ c w) A (setAttr (.ref x) name v) Q E s:=by
 obtain⟨F,J,H⟩:=I.a3;refine PySem.W.set_plain X J hs<|PySem.W.osa_open (s:={s with toks:=s.toks+1}) (r:=aq) X J t p λb=>?_;obtain⟨L,z,m⟩:=PySem.W.any_some u;have o:s.heap.get? x=ai (.ref C,ai e,.plain,#[]):=I.a1;refine eB<|gB<|eB<|eB<|Di o<|eB<|E4 (s:={s with toks:=s.toks+1}) (PySem.W.looks_clsIn X z) ?_;rw[m];refine gB (a:=ai e)<|eB<|gB<|eB ?_;refine wpAny_nsSet1 (s:={s with toks:=s.toks+1}) I.ns λj g d=>?_;obtain⟨G,B,D,k,l,n⟩:=g.count<|J4 name v hw;refine eB<|wpAny_lookBehind k (by rw[l];exact pastItsLine_dict<|fx n (by rw[ij];nofun)) ?_;exact gB<|h _ ((d.2 _<|dZ I.ne).trans I.a1,g,I.ne) d
def ab8(X:K.In s.heap)(b:NQ K C=ao)
  (hi:pZ K (.ref C) "__init__"=ai (ai<|.ref f))(j:PySem.W.typeIn K (.ref f)=ai (.type "function"))
  (h:yi (bQ c w) (A.under<|.builtin "type.__call__" (.ref C::vs,kw)) (.call (.ref f) (.ref (s.heap.objs.size+1)::vs,kw)) (PySem.W.InitBack (s.heap.objs.size+1) R)
   {s with heap:=(s.heap.push uz).push<|wq C s.heap.objs.size}):
  yi (bQ c w) A (.call (.ref C) (vs,kw)) R s:=by
 obtain⟨l,g,d,t,k⟩:=s;exact PySem.W.make_core (PySem.W.makes_of X b) (PySem.W.looks_findIn X hi) (λa=>PySem.W.bind_fn X a j) (.inl aa) h
end
def jc(f:aC)(v:aH):af (aC×aH)->af (aC×aH)
 |[]=>[(f,v)]|(g,x)::r=>if g=f then(g,v)::r else(g,x)::jc f v r
def PJ(f g:aC)(v:aH):∀a:af (aC×aH),(jc f v a).lookup g=if g=f then ai v else a.lookup g
 |[]=>by show qY g [(f,v)]=_;by_cases h:g=f;have a:(g==f)=ao:=CD.mpr h;nofun;have a:(g==f)=aw:=zQ.mpr h;(simp[*])|(k,x)::r=>by have c:=PJ f g v r;rw[show jc f v ((k,x)::r)=(if k=f then(k,v)::r else(k,x)::jc f v r)from aa];by_cases b:k=f;rw[aG b];by_cases h:g=k;have a:(g==k)=ao:=CD.mpr h;nofun;have a:(g==k)=aw:=zQ.mpr h;grind;rw[aE b];by_cases h:g=k;have a:(g==k)=ao:=CD.mpr h;nofun;have a:(g==k)=aw:=zQ.mpr h;simp only[qY,a];exact c
def PR(f:aC)(v:aH):∀d:af (aC×aH),f∈(jc f v d).map (·.1)/\∀g,g∈d.map (·.1)->g∈(jc f v d).map (·.1)
 |[]=>(by solve_by_elim,λg h=>by simp at h)|(k,x)::r=>by obtain⟨c,b⟩:=PR f v r;rw[show jc f v ((k,x)::r)=(if k=f then(k,v)::r else(k,x)::jc f v r)from aa];by_cases a:k=f;rw[aG a];subst a;exact((_),λg h=>by simpa using h);rw[aE a];refine(?_,λg h=>?_);rw[eE];exact cO _ c;rw[eE]at h ⊢;rcases fq.mp h with e|e;exact fq.mpr<|.inl e;exact cO _<|b g e
def PN(f:aC)(v:aH):∀a:af (aC×aH),(jc f v a).length<=a.length+1
 |[]=>by solve_by_elim|(k,x)::r=>by have b:=PN f v r;rw[show jc f v ((k,x)::r)=(if k=f then(k,v)::r else(k,x)::jc f v r)from aa];by_cases a:k=f;rw[aG a,ij,ij];symm;rw[aE a,ij,ij];nofun
def tw.a1(r:tw (ai v) o):∃u,o=ai u/\cy v u:=by
 cases o with|none=>exact(show eo from r).elim|some u=>exact(u,aa,r)
def acx(r:cy v u):YH u=ao:=by
 cases v with
 |f=>cases(show u=HG from r);rfl
 |e b=>cases(show u=Al b from r);rfl
 |d i=>obtain⟨t,e⟩:=(show ∃t,u=wu i t from r);cases e;rfl
 |g x=>obtain⟨t,e⟩:=(show ∃t,u=Dl x t from r);cases e;rfl
 |h b=>obtain⟨t,e⟩:=(show ∃t,u=YQ b t from r);cases e;rfl
 |j b=>obtain⟨t,e⟩:=(show ∃t,u=YO b t from r);cases e;rfl
 |c a=>cases(show u=iB a from r);rfl
 |k n=>cases(show u=qU n from r);rfl
section
variable{P:cn}{w:bS}{H g:ay}{h i:bT}{a C b:ax}{fs c:af (aC×aH)}
def P'(hok:gC P w H h)(e:H a=ai (.c C b fs)):∃j,AY h a b C j/\(∀f,tw (fs.lookup f)<|j f)/\NM j (fs.map (·.1))/\fs.length<=1000/\H b=ai (.e a):=by obtain⟨d,z,l,k,j,n,r,q⟩:=(show hZ P w H h a (.c C b fs)from hok a _ e);exact(j,(k,n,l),r,q,z,d)
end
structure wK(K:aZ)(C:ax):Prop where
 pg:HC K C YR=ao
 hd:HD K C=ao
 po:NO K C=ao
 sa:pZ K (.ref C) "__setattr__"=ai (ai (.builtin "object.__setattr__"))
def wK.a2{K:aZ}(c:wK K C)(f:aC):HC K C f=ao:=c.pg
def sb(K:aZ)(C:ax)(f:aC):Prop:=pZ K (.ref C) f=ai aq
def sb.a0{K:aZ}(n:sb K C f):NN K C f=ai aq:=by unfold NN;rw[show pZ K (.ref C) f=ai aq from n];rfl
section
variable{X:bA}{d:af (ax×cU)}{i:cw}{H:ay}{s:ba}{a C j:ax}{fs:af (aC×aH)}{f:aC}{v:aH}{A:fG}{E:aB->ba->Prop}
def acy(I:aV X d i H s)(e:H a=ai (.c C j fs))(c:wK X.K C)(n:sb X.K C f)(l:fs.lookup f=ai v)
  (h:∀u g,aV X d i H g->cy v u->Q u g):cf (bQ X.a2 X.w) A (NJ (.ref a) f b) Q E s:=by
 obtain⟨m,O,r,_,_,_⟩:=P' I.a1 e;obtain⟨u,p,k⟩:=tw.a1 (v:=v) (o:=m f) (by rw[<-l];exact r f);exact acz I.b0 O (c.a2 f) c.hd n p (acx k)<|h u _ (I.a4 _) k
def aa'(I:aV X d i H s)(e:H a=ai (.c C j fs))(c:wK X.K C)(n:sb X.K C f)(N:fs.length<1000)(L:cy y u)
  (h:∀l,aV X d i (bu H a<|.c C j<|jc f y fs) l->Q ⟨⟩ l):cf (bQ X.a2 X.w) A (setAttr (.ref a) f u) Q E s:=by
 obtain⟨M,O,r,p,_,m⟩:=P' I.a1 e;have B:(fs.map (·.1)).length<=dG:=by rw[cb,ND];lia
 refine aa_ I.b0 O c.sa c.po n.a0 c.hd p B λG k t=>h _ ?_;have D:∃o,G.get? j=ai o:=let(o,_,_,J,_):=k.ns;(o,J);refine I.c3 (x:=a) (e:=j) (by rw[e];exact xZ) (.inr m) (λb q F z=>(t.2 b F).trans z) D ?_;refine(by rw[aO O.ne];exact m,fx (PN ..) N,O.ne,k.a1,_,k.ns,λg=>?_,λg P=>?_);rw[PJ];by_cases w:g=f;rw[aG w,aG w];exact L;rw[aE w,aE w];exact r g;by_cases w:g=f;exact w▸(PR ..).1;exact(PR ..).2 g<|p g λz=>P<|(aE w).trans z
def aV.f1(I:aV X d i H s):aV X d i (bu (bu H s.heap.objs.size<|.e<|s.heap.objs.size+1) (s.heap.objs.size+1)<|.c C s.heap.objs.size [])
  {s with heap:=(s.heap.push uz).push<|wq C s.heap.objs.size}:=by
 have g:(s.heap.push uz).get? s.heap.objs.size=ai uz:=jb s.heap aa;have m:((s.heap.push uz).push<|wq C s.heap.objs.size).get? (s.heap.objs.size+1)=ai (wq C s.heap.objs.size):=by have:=jb (s.heap.push uz) (o:=wq C s.heap.objs.size) aa;nofun
 have l:(s.heap.push uz).Ns s.heap.objs.size (λ_=>aq):=(uz,#[],_,g,aa,(λe k=>bG k ()),λ_=>aa);have n:=I.b5 (a:=s.heap.objs.size) (o:=.e<|s.heap.objs.size+1) (h':=s.heap.push uz) (t':=s.toks) (λb u q=>gN _ q) (b_ _) (_,g);refine n.b5 (a:=s.heap.objs.size+1) (o:=.c C s.heap.objs.size []) (t':=s.toks) (λb u q=>gN _ q) (HU<|rT _ _) ?_;have c:s.heap.objs.size≠s.heap.objs.size+1:=kY<|HS _;refine(by rw[aO c,bO],mW _,c,m,λ_=>aq,(Heap.Ns1.of_empty l).at λo q=>gN _ q,λ_=>xZ,λy h=>bG aa h)
def ac2(hb:ie e f env (bN e env)=bN e env)
  (h:cf (bQ prog w) A (bN e env) (λo b=>cf (bQ prog w) A (NJ o f ao) Q E b) E s):cf (bQ prog w) A (bN (.Attribute e f pos) env) Q E s:=
 Attribute_any_ h (by rw[arm_eval_Attribute,hb])
end
def aaP(K:aZ)(d:cS)(f:aC):cS:=λc H Q=>d c H λx b=>∃a C e g v,x=.c a/\b a=ai (.c C e g)/\wK K C/\sb K C f/\g.lookup f=ai v/\Q v b
def aba(K:aZ)(g e:cS)(f:aC):hX:=λD b H=>e b H λy h=>g b h λx d=>∃a C c i,x=.c a/\d a=ai (.c C c i)/\wK K C/\sb K C f/\i.length<1000/\ D.a b (bu d a<|.c C c<|jc f y i)
section
variable{X:bA}{o e b:bI}{f:aC}{g d j:dj}{i k:cS}
def wF(he:aA X e i)(t:ie e f X.a0 (bN e X.a0)=bN e X.a0):aA X (.Attribute e f g) (aaP X.K i f):=by intro m s p H Q I h;refine ac2 t<|bZ (he m s p H _ I h) λu F (x,B,A,J,a,C,G,fs,v,w,y,c,n,l,q)=>?_;subst w;obtain rfl:u=iB a:=J;exact acy A y c n l λD E z r=>(v,B,z,r,q)
def ik(ha:aA X o i)(w:aA X b k)(z:fS b (ai<|.Attribute o f d) g.line X.a0=cA aw):cH X (.Assign [.Attribute o f d] b g) (aba X.K i k f):=by intro m s p H D I h;refine plainObj_wpAny_Assign_Attribute (bZ (w m s p H _ I h) λu r (y,J,G,t,q)=>bZ (ha m r p J _ G q) λov M (x,O,F,K,a,C,N,fs,A,B,c,n,l,v)=>?_) z;subst A;obtain rfl:ov=iB a:=K;exact aa' F B c n l t λL E=>(p,_,E,v)
end
structure dy(k:ag)(A:fG):Prop where
 hd:A.handled=aq
 dp:A.depth+3*k+5<NH
 un:A.units+16*k+200<nW
def dy.a5(r:dy k A)(h:j<=k):dy j A:=(r.hd,by have:=r.dp;lia,by have:=r.un;lia)
def dy.a6(r:dy (k+1) A)(a:ig):dy k (A.deeper a):=(r.hd,by have:=r.dp;show A.depth+1+3*k+5<_;lia,by have:=r.un;show A.units+3+16*k+200<_;lia)
def dy.a8(r:dy (k+1) A):dy k A.in1:=(r.hd,by have:=r.dp;show A.depth+3*k+5<_;lia,by have:=r.un;show A.units+1+16*k+200<_;lia)
def ab9{A:fG}:(A.under<|.builtin "type.__call__" (.ref C::us,kw)).depth=A.depth+1:=by first|rfl|simp[Around.under,Code.weight,Code.isCreation,Code.isGuard,Code.isCaller,Code.frames,Code.isFrame,guardIds]
def ab7{A:fG}:(A.under<|.builtin "type.__call__" (.ref C::us,kw)).units=A.units+1:=by first|rfl|simp[Around.under,Code.cUnits,Code.frames,Code.isFrame]
def dy.a7(r:dy (k+1) A)(C:ax)(a:af aB)(b:af (aC×aB)):dy k (A.under<|.builtin "type.__call__" (.ref C::a,b)):=(r.hd,by have:=r.dp;rw[ab9];left,by have:=r.un;rw[ab7];left)
def dy.a4(r:dy k A):A.depth<NH:=by have:=r.dp;lia
def dy.a0(r:dy k A):A.units+64<nW:=by have:=r.un;lia
def Im:iD:=λ_ H Q=>Q [] H
def OS(ta:cS)(c:iD):iD:=λa H Q=>ta a H λx e=>c a e λb d=>Q (x::b) d
section
variable{X:bA}{e:bI}{c:af bI}{d:cS}{t:iD}{a:dj}
def pq:eW X [] Im:=λ_ _ _ _ H Q I h=>HL ([],H,I,.nil,h)
def kZ(ha:aA X e d)(o:eW X c t)(n:eI X e c|>1):eW X (e::c) (OS d t):=by intro a b s f H Q I h;rw[n];show cf _ _ (spliced ((aw,bN e X.a0)::lH a (dC c X.a0))) _ _ s;refine Aq<|bZ (ha b s f H _ I h) λu i (x,v,q,k,m)=>?_;exact bZ (o a b i f v _ q m) λw y (g,r,p,j,l)=>(x::g,r,p,.cons k j,l)
def aaA(t:iD):cS:=λg H Q=>t g H λb f=>b.length<=dG/\∀p,f p=aq->Q (.c p) (bu f p<|.b b)
def aaL(t:iD):cS:=λg H Q=>t g H λb f=>b.length<=dG/\∀p,f p=aq->Q (.c p) (bu f p<|.a b)
def ID{x1}(h:eW X c t):aA X (.Tuple c x1 a) (aaA t):=by intro f s k H Q I b;refine wpAny_Tuple_spliced<|bZ (h a f s k H _ I b) λm g (l,j,i,r,z,q)=>(by rw[<-r.a0];exact z,?_);have n:j g.heap.objs.size=aq:=i.a1.a0<|b_ _;refine(.c g.heap.objs.size,bu j g.heap.objs.size<|.b l,i.b5 (t':=g.toks) (λb u e=>gN _ e) (b_ _) ?_,aa,q _ n);exact(z,m,r,(_,jb _ aa,aa,_,aa))
def IG(h:eW X c t):aA X (.List c a) (aaL t):=by intro f s k H Q I b;refine wpAny_List_spliced<|bZ (h a f s k H _ I b) λm g (l,j,i,r,z,q)=>(by rw[<-r.a0];exact z,?_);have n:j g.heap.objs.size=aq:=i.a1.a0<|b_ _;refine(.c g.heap.objs.size,bu j g.heap.objs.size<|.a l,i.b5 (t':=g.toks) (λb u e=>gN _ e) (b_ _) ?_,aa,q _ n);exact(z,m,0,r,jb _ aa)
end
abbrev k_:=af aH->ay->dw->jC->Prop
abbrev uY:=af ig->ay->ba->jC->aB->ba->Prop
structure uW(P:cn)(w:bS)(K:aZ)(mg:aC->aJ aB)(base:bT)(A:fG)(outer:af ig)(s:ba)(H:ay):Prop where
 a3:A.frames=ai outer
 a0:El K mg base
 bs:∀b o,base.get? b=ai o->s.heap.get? b=ai o/\H b=aq
 a6:base.objs.size<=s.heap.objs.size
 a5:s.heap.FunFrames base outer
 a8:∀b∈q_ outer,H b=aq
 a4:P.given.tree=aq
 a2:gC P w H s.heap
 a7:ym s.gens
def Ji(outer:af ig)(P:cn)(w:bS)(H:ay)(s:ba)(Q:dw)(u:aB)(a:ba):Prop:=∃v b,a.os=s.os/\ym a.gens/\ng (q_ outer) [] H b s.heap a.heap/\gC P w b a.heap/\cy v u/\Q v b
def adb(CX:uY)(a:af ig)(P:cn)(w:bS)(H:ay)(s:ba)(Q:dw)(E:jC)(r:Result)(b:ba):Prop:=
 match r with|.ok (.ret u)=>Ji a P w H s Q u b|.ok _=>eo|.error e=>CX a H s E e b
structure gR(P:cn)(w:bS)(K:aZ)(mg:aC->aJ aB)(base:bT)(CX:uY)(k:ag)(f:ax)(fd:jY)(ps:af aC)(sp:k_):Prop where
 a1:∀vs H Q E,sp vs H Q E->vs.length=ps.length
 a0:∀(A:fG) (outer:af ig) (s:ba) (H:ay) (args:Args) (us:af aB) (vs:af aH) (Q:dw) (E:jC),dy k A->uW P w K mg base A outer s H->yk s fd args (ps.zip us)->dh vs us->sp vs H Q E-> yi (bQ P w) A (.call (.ref f) args) (adb CX outer P w H s Q E) s
def gR.a3{K:aZ}(F:gR P w K mg base CX j f fd ps sp)(h:j<=k): gR P w K mg base CX k f fd ps sp:=(F.a1,λA a s H b d c Q E e=>F.a0 A a s H b d c Q E<|e.a5 h)
def gR.a2{K:aZ}(F:gR P w K mg base CX k f fd ps sp)
  (h:∀b H Q E,sp' b H Q E->sp b H Q E):gR P w K mg base CX k f fd ps sp':=
 (λb H Q E q=>F.a1 b H Q E<|h _ _ _ _ q,λA a s H c d b Q E i j l e g=>F.a0 A a s H c d b Q E i j l e<|h _ _ _ _ g)
def uW.a9{K:aZ}(e:uW P w K mg base A outer s H)(C:ax)(a:af aB)(b:af (aC×aB)): uW P w K mg base (A.under<|.builtin "type.__call__" (.ref C::a,b)) outer s H:=(by first|exact e.a3|(simpa[Around.under,Code.envs,Code.isFrame,pushEnvs]using e.frames),e.a0,e.bs,e.a6,e.a5,e.a8,e.a4,e.a2,e.a7)
section
variable{X:bA}{a:af (ax×cU)}{e:cw}{H:ay}{s c:ba}
def aV.e6(I:aV X a e H s):uW X.a2 X.w X.K X.mg X.a8 X.A X.b2 s H:=(I.ok.b6,I.ok.a2,I.bs,fx I.ok.a5 I.sz,I.e8,I.e4,I.ok.b8,I.a1,I.a9)
def aV.e1(I:aV X a e H s)(h:Ji X.b2 X.a2 X.w H s Q u c):je X a e Q u c:=by obtain⟨v,m,k,f,un,j,r,q⟩:=h;obtain⟨l,g,d,t,i⟩:=c;obtain rfl:i=s.os:=k;exact(v,m,I.e5 (h':=l) (g':=g) (d':=d) (t':=t) (ch:=[]) un j f<|λb z=>bG z ∅,r,q)
end
def OT(sp:k_)(a:af aH)(E:jC)(t:iD):cS:=λb H Q=>t b H λc d=>sp (c++a) d Q E
def OR(C:ax)(f:k_)(b:af aH)(E:jC)(t:iD):cS:=λd H Q=>t d H λe c=>∀x a,c x=aq->c a=aq->a≠x-> f (.c x::(e++b)) (bu (bu c a<|.e x) x<|.c C a []) (λv g=>v=.f/\Q (.c x) g) E
def la(K:aZ)(d:jY)(b:af aC)(c:af aB):Prop:=∀(s:ba) (a:af aB),K.In s.heap->(a++c).length=b.length->yk s d (a,[]) (b.zip<|a++c)
def la.a0{K:aZ}(h:∀a:af aB,a.length=ps.length->uy fd (a,[])=cA (ps.zip a)):la K fd ps []:=λs a _ b=>by rw[kH]at b ⊢;exact .of_eq<|h a b
def yJ(CX:uY)(X:bA)(E:jC):Prop:=∀(pins:af (ax×cU)) (b:cw) (H:ay) (s:ba) (e:aB) (a:ba),aV X pins b H s->CX X.b2 H s E e a->X.xe e a
section
variable{X:bA}{g:uY}{k:ag}{f C:ax}{i:jY}{d:af aC}{j:k_}{a:af aH}{b:af aB}{E:jC}{x m:aC}{p c l:dj}{e o:bI}{es:af bI}{n:cS}{t:iD}
def O'(F:gR X.a2 X.w X.K X.mg X.a8 g k f i d j)(z:dy k X.A)(G:la X.K i d b)(D:dh a b)(y:yJ g X E)
  (I:aV X pins σ H s)(r:dh vs us)(h:j (vs++a) H Q E):cf (bQ X.a2 X.w) X.A (oX (.ref f) us) (je X pins σ Q) X.xe s:=by
 have q:dh (vs++a) (us++b):=r.a2 D;have B:(us++b).length=d.length:=by rw[<-q.a0];exact F.a1 _ _ _ _ h
 refine yd<|Hz (F.a0 X.A X.b2 s H (us,[]) (us++b) (vs++a) Q E z I.e6 (G s us I.b0 B) q h) λr v hq=>?_;cases r with|error e=>exact y pins σ H s e v I hq|ok J=>
  cases J with
  |ret u=>exact I.e1 hq|next=>exact mP hq
  |brk=>exact mP hq|cont=>exact mP hq
def uR(F:gR X.a2 X.w X.K X.mg X.a8 g k f i d j)(R:dy k X.A)(G:dn X x)(B:X.mg x=ai (.ref f))(D:mr X.K (.ref f)=ao)(T:la X.K i d b)(S:dh a b)(P:yJ g X E)
  (ha:eW X (e::es) t)(y:dA x|>2)(J:eI X e es|>1)(v:eG X c es|>1):
  aA X (.Call (.Name x p) (e::es) [] c) (OT j a E t):=by
 intro u s z H Q I h;refine yf<|yC I G B ?_ y;refine NT (h₀:=X.a8) I.ok.a2.a D (bZ (ha c u s z H _ I h) λN O (M,U,L,r,q)=>(L.b0,?_)) J v;(nofun;grind?[O'])
structure yL(K:aZ)(C f:ax):Prop where
 b:NQ K C=ao
 d:pZ K (.ref C) "__init__"=ai (ai (.ref f))
 c:NS K (.ref f)=ao
 a:mr K (.ref C)=ao
def OZ(M:yL X.K C f)(F:gR X.a2 X.w X.K X.mg X.a8 g k f i d j)(L:dy (k+1) X.A)(P:la X.K i d b)(O:dh a b)
  (hx:yJ g X E)(I:aV X pins σ H s)(r:dh vs us)
  (h:∀x y,H x=aq->H y=aq->y≠x->j (.c x::(vs++a)) (bu (bu H y<|.e x) x<|.c C y []) (λv T=>v=.f/\Q (.c x) T) E):
  cf (bQ X.a2 X.w) X.A (oX (.ref C) us) (je X pins σ Q) X.xe s:=by
 have hq:=h (s.heap.objs.size+1) s.heap.objs.size (I.a1.a0<|Nat.le_succ _) (I.a1.a0<|b_ _)<|kY<|HS _;have z:=aV.f1 (C:=C) I;have B:dh (aH.c (s.heap.objs.size+1)::(vs++a)) (iB (s.heap.objs.size+1)::(us++b)):=.cons aa<|r.a2 O;have N:(iB (s.heap.objs.size+1)::us++b).length=d.length:=by have e:=B.a0;rw[F.a1 _ _ _ _ hq]at e;symm
 refine yd<|ab8 (f:=f) I.b0 M.b M.d (CD.mp M.c)<|Hz (F.a0 _ X.b2 _ _ (iB (s.heap.objs.size+1)::us,[]) (iB (s.heap.objs.size+1)::(us++b)) _ _ E (L.a7 C us []) (z.e6.a9 C us []) (P _ (iB (s.heap.objs.size+1)::us) z.b0 N) B hq) λr D q=>?_;cases r with|error e=>exact hx pins σ _ _ e D z q|ok R=>
  cases R with
  |ret u=>obtain⟨v,U,S,G,ev,J⟩:=z.e1 q;subst ev;exact(G,(aH.c<|s.heap.objs.size+1,U,S,aa,J))
  |next=>exact mP q
  |brk=>exact mP q|cont=>exact mP q
def IF(M:yL X.K C f)(F:gR X.a2 X.w X.K X.mg X.a8 g k f i d j)(R:dy (k+1) X.A)(D:dn X x)(B:X.mg x=ai (.ref C))(T:la X.K i d b)(S:dh a b)(P:yJ g X E)
  (ha:eW X (e::es) t)(y:dA x|>2)(G:eI X e es|>1)(v:eG X c es|>1):
  aA X (.Call (.Name x p) (e::es) [] c) (OR C j a E t):=by
 intro u s z H Q I h;refine yf<|yC I D B ?_ y;refine NT (h₀:=X.a8) I.ok.a2.a M.a (bZ (ha c u s z H _ I h) λN O (L,U,J,r,q)=>(J.b0,?_)) G v;exact OZ M F R T S P J r q
def IE(M:yL X.K C f)(F:gR X.a2 X.w X.K X.mg X.a8 g k f i d j)(u:dy (k+1) X.A)(y:dn X x)(v:X.mg x=ai (.ref C))(B:la X.K i d b)(z:dh a b)(r:yJ g X E)
  (hdb:dA x|>2):aA X (.Call (.Name x p) [] [] c) (OR C j a E Im):=by
 intro q s D H Q I h;refine yf<|yC I y v ?_ hdb;exact PySem.W.callWith_K0 I.b0 M.a<|OZ (us:=[]) M F u B z r I .nil h
end
def Jb(X:bA)(c:af qV)(t:iD):Prop:=∀(pos:dj) (a:af (ax×cU)) (s:ba) (b:cw) (H:ay) (Q:af aH->ay->Prop),aV X a b H s->t b H Q->cf (bQ X.a2 X.w) X.A (evalAll<|(pX pos<|pV c X.a0).map (·.2)) (QJ X a b Q) X.xe s
section
variable{X:bA}{j:uY}{k:ag}{f C:ax}{fd:jY}{ps ks:af aC}{n:k_}{E:jC}{x m:aC}{p a c b:dj}{e o:bI}{l:af bI}{kws:af qV}{d ta:cS}{t q:iD}{i:aJ aC}
def abr:Jb X [] Im:=λ_ _ _ _ H Q I h=>wpAny_evalAll_nil ([],H,I,.nil,h)
def abt(ha:aA X e d)(G:Jb X kws t):Jb X ((i,e,b)::kws) (OS d t):=by intro a r s w H Q I h;show cf _ _ (evalAll ((do let v<-bN e X.a0;we a;cA v)::(pX a<|pV kws X.a0).map (·.2))) _ _ s;refine wpAny_evalAll_cons<|eB<|bZ (ha r s w H _ I h) λu z (x,M,K,B,F)=>eB<|Hn<|gB ?_;exact bZ (G a r z w M _ K F) λN O (y,L,J,A,D)=>(x::y,L,J,.cons B A,D)
variable{g:af aB->af aB->af aB}{gV:af aH->af aH->af aH}
end
structure bW(N P:af aC)(sc:nY):Prop where
 c:sc.kind=.function:=by rfl
 e:sc.isCoroutine=aw:=by rfl
 d:sc.isGenerator=aw:=by rfl
 a:N.Nodup:=by decide+kernel
 b:N.take P.length=P:=by rfl
 f:∀x∈P,sc.names.lookup x=ai .local\/sc.names.lookup x=ai .cell:=by decide+kernel
 g:∀y∈sc.names,y.2≠.free:=by decide+kernel
def Qp{a:aC->aJ mV}:∀{b:af (aC×aB)} {m:aC->aJ aB},(∀v,(x,v)∉b)->wk a b m x=m x
 |[],_,_=>aa|(n,v)::r,m,h=>by
  unfold wk;rw[Qp λw c=>h w<|cO _ c];split;have:x≠n:=by rintro rfl;exact h v gY
  nofun;rfl
def Qr{a:aC->aJ mV}:∀{b:af (aC×aB)} {m:aC->aJ aB},(∀v,(x,v)∉b)->wm a b m x=m x
 |[],_,_=>aa|(n,v)::r,m,h=>by
  unfold wm;rw[Qr λw c=>h w<|cO _ c];split;rfl;have:x≠n:=by rintro rfl;exact h v gY
  nofun
def Qq{a:aC->aJ mV}:∀{P:af aC} {b:af aB} {i:ag} {m:aC->aJ aB},P.Nodup->P[i]?=ai x->b[i]?=ai v->a x=ai .local-> wk a (P.zip b) m x=ai v
 |[],_,_,_,_,h,_,_=>by simp at h|_::_,[],_,_,_,_,h,_=>by simp at h|p::P,w::b,0,m,e,d,c,f=>by simp at d c;subst d;subst c;show wk a ((p,w)::P.zip b) m p=_;unfold wk;rw[Qp λv g=>(qX.mp e).1 (gd g).1,aG f];simp|p::P,w::b,i+1,m,e,d,c,f=>by show wk a ((p,w)::P.zip b) m x=_;unfold wk;exact Qq (i:=i) (qX.mp e).2 (by simpa using d) (by simpa using c) f
def Qs{a:aC->aJ mV}:∀{P:af aC} {b:af aB} {i:ag} {m:aC->aJ aB},P.Nodup->P[i]?=ai x->b[i]?=ai v->a x≠ai .local-> wm a (P.zip b) m x=ai v
 |[],_,_,_,_,h,_,_=>by simp at h|_::_,[],_,_,_,_,h,_=>by simp at h|p::P,w::b,0,m,e,d,c,f=>by simp at d c;subst d;subst c;show wm a ((p,w)::P.zip b) m p=_;unfold wm;rw[Qr λv g=>(qX.mp e).1 (gd g).1,aE f];simp|p::P,w::b,i+1,m,e,d,c,f=>by show wm a ((p,w)::P.zip b) m x=_;unfold wm;exact Qs (i:=i) (qX.mp e).2 (by simpa using d) (by simpa using c) f
def pj(N:af aC)(a:af aH):cw:=a.map ai++cg (N.length- a.length) aq
def uV(CX:uY)(P:cn)(w:bS)(K:aZ)(mg:aC->aJ aB)(c:bT)(N:af aC)(b:aC)(a:nY)(f:ax)(d:aB)(A:fG)(i:af ig)(s:ba)(H:ay)(E:jC):bA where
 a2:=P
 w:=w
 K:=K
 mg:=mg
 a8:=c
 A:=A.deeper (tp b a s.heap.objs.size f d)
 N:=N
 b1:=s
 c1:=H
 a0:=tp b a s.heap.objs.size f d
 b5:=i
 b2:=tp b a s.heap.objs.size f d::i
 ex:=[]
 a9:=ao
 fn:=λ_=>ao
 pn:=[]
 xe:=λe g=>cf (bQ P w) (A.deeper<|tp b a s.heap.objs.size f d) (leaving (tp b a s.heap.objs.size f d) e) (λ_ c=>CX i H s E e c) (λh c=>CX i H s E h c) g
def Qn{a:nY}(h:a.names.lookup x=ai .cell):∃c,(jX n a.names []).lookup x=ai c:=by have q:=YI a.names n []<|.inl h;simp_all[Zx]
def ack{K:aZ}
  (S:bW N ps scope)(F:A.handled=aq)(a:uW P w K mg base A outer s H)(I:vs.length=ps.length)(r:dh vs us)
  (x:InCallC s s.heap.objs.size (wk (tp qual scope s.heap.objs.size f cd).kindOf (ps.zip us) λ_=>aq) (jX (s.heap.objs.size+1) scope.names []) (wm (tp qual scope s.heap.objs.size f cd).kindOf (ps.zip us) λ_=>aq) s1):
  aV (uV CX P w K mg base N qual scope f cd A outer s H E) [] (pj N vs) H s1:=by
 have D:ps.length<=N.length:=by have:=fk uI S.b;rw[AD]at this;lia
 obtain⟨o,G,rfl,m⟩:=x.done;have d:∀b:ax,b∉(uV CX P w K mg base N qual scope f cd A outer s H E).ex:=λb z=>bG (show b∈([]:af ax)from z) ¬_;refine((a.a0,S.c,aa,aa,b_ _,λy z c o B=>?_,λy g=>?_,λy c _ h=>?_,λ_=>F,Zn a.a3,.inr (aa,aa),λb z=>bG z<|d b,a.bs,a.a6,λb _ _=>d b,λb z=>bG z<|d b,a.a5,a.a8,a.a4,λh m=>SeerAt.of (a.a0.d.keeps m) a.a4 (Zn a.a3) S.d S.e aa aa),
  aa,a.a7,ng.a7 m,(_,x.toInCall.ns,λi y v o B L=>?_),λy c h=>(_,x.cell y c h),a.a2.a0<|b_ _,λy c h=>?_,λp l=>bG (show p∈([]:af (ax×cU))from l) ¬_,a.a2.a1 m,?_)
 ·exact name_of_addr x.apart (nV o)<|nV B
 ·have g:scope.names.lookup y=ai .cell\/scope.names.lookup y=ai .free:=g;rcases g with g|g;·exact Qn g
  ·exact bG aa<|S.g _<|nV g
 ·exact uF<|x.above y c<|nV h
 ·have J:i<vs.length:=by grind -lia -order[pj,OB,DJ]
  have M:vs[i]?=ai v:=by simp_all[pj,yr,cV]
  obtain⟨u,t,C⟩:=r.a1 M;have l:ps[i]?=ai y:=by rw[<-S.b,List.getElem?_take_of_lt ∅];exact o
  have j:ps.Nodup:=by rw[<-S.b];exact S.a.sublist<|List.take_sublist _ _
  refine(u,C,?_);rcases S.f y (eC l)with k|k;·exact .inl (k,Qq j l t k)
  ·obtain⟨c,e⟩:=Qn (n:=s.heap.objs.size+1) k;refine .inr (.inl k,c,e,?_);have q:=x.cell y c e;rw[Qs j l t (by show scope.names.lookup y≠_;rw[k];decide)]at q;exact q
 ·exact a.a2.a0<|uF<|x.above y c<|nV h
 ·unfold pj;show _=N.length;nofun
def acE{K:aZ}{O kV z M c R Y:aB}(Z:K.lookup f=ai (Y,od,.func<|nX name qual params body scope O kV z M an c R,osl))(G:Dj K c qual=ao)(S:bW N ps scope)
  (len:∀g H Q E,sp g H Q E->g.length=ps.length)
  (hbody:∀(A:fG) (a:af ig) (s:ba) (H:ay) (g:af aH) (Q:dw) (E:jC),dy k (A.deeper<|tp qual scope s.heap.objs.size f c)->sp g H Q E->
   ∃t,bg (uV CX P w K mg base N qual scope f c A a s H E) body t/\t {a:=λ_ h=>Q .f h,b:=Q} (pj N g) H):
  gR P w K mg base CX (k+1) f (nX name qual params body scope O kV z M an c R) ps sp:=by
 refine(len,λA a s H T X g Q E F p hb r l=>?_);have hl:=len _ _ _ _ l;have U:K.In s.heap:=p.a0.a.keeps λb o e=>(p.bs b o e).1;have D:s.heap.NoLimit:=p.a0.c.keeps λb o e=>(p.bs b o e).1;have i:∀y∈ps.zip X,scope.names.lookup y.1=ai .local\/(scope.names.lookup y.1=ai .cell/\((jX (s.heap.objs.size+1) scope.names []).lookup y.1).isSome=ao):=λ(n,v) hy=>by
  rcases S.f n (gd hy).1 with q|q;·exact .inl q
  ·exact .inr (q,YI _ _ _<|.inl q)
 refine codeAny_call_function F.a4 (U _ _ Z) aa S.e S.d aa (PySem.W.codeRec_of U G)<|hb _ _ _ _ ?_;refine wpAny_newFunctionEnv_cells S.c i λenv he L x=>?_;subst he;refine(D.keeps x.toInCall.keep,codeAny_func ?_);obtain⟨t,ht,hq⟩:=hbody A a s H g Q E (F.a6 _) l;have I:aV (uV CX P w K mg base N qual scope f c A a s H E) [] (pj N g) H L:=ack S F.hd p hl r x;refine nU (ht [] L (pj N g) H _ I hq) (λfl B j=>?_) λe B j=>j;have m:∀{d:cw} {h:ay} {v:aH} {u:aB},aV (uV CX P w K mg base N qual scope f c A a s H E) [] d h B->cy v u->Q v h->Ji a P w H s Q u B:=λ{d h v u} J C q=>(v,h,J.os,J.a9,J.a2,J.a1,C,q);cases fl with
 |ret u=>obtain⟨v,d,h,J,C,q⟩:=j;exact m J C q
 |next=>obtain⟨d,h,J,q⟩:=j;exact m (v:=aH.f) (u:=HG) J aa q
 |brk=>obtain⟨_,_,_,q⟩:=j;symm
 |cont=>obtain⟨_,_,_,q⟩:=j;symm
section
variable{X:bA}{x:aC}{p a:dj}{e:bI}{b:af bI}{t:iD}{c T:qQ}{r:af aH->ay->dw->Prop}
def OU(r:af aH->ay->dw->Prop)(t:iD):cS:=λd H Q=>t d H λf g=>r f g Q
def IH(hc:nh X (.builtin c) r)(v:dn X x)(u:X.mg x=aq)(o:lG x=ai (.builtin c))(z:eW X (e::b) t)(q:x≠"__name__"|>2)(g:dA x|>2)
  (he:eI X e b|>1)(f:eG X a b|>1):aA X (.Call (.Name x p) (e::b) [] a) (OU r t):=by
 intro d s i H Q I h;refine yf<|tu I v u o ?_ q g;exact C3 (bZ (z a d s i H _ I h) λk l (j,y,w,m,n)=>hc d l i y j k Q w m n) he f
def DY(hc:nh X (.type T) r)(v:dn X x)(u:X.mg x=aq)(o:lG x=ai (.type T))(z:eW X (e::b) t)(q:x≠"__name__"|>2)(g:dA x|>2)
  (he:eI X e b|>1)(f:eG X a b|>1):aA X (.Call (.Name x p) (e::b) [] a) (OU r t):=by
 intro d s i H Q I h;refine yf<|tu I v u o ?_ q g;exact yl (bZ (z a d s i H _ I h) λk l (j,y,w,m,n)=>hc d l i y j k Q w m n) he f
end
section
variable{a:cn}{w:bS}{A:fG}{E:aB->ba->Prop}{s:ba}
def il(n d:ag):aJ ah->ag
 |none=>d|some v=>if v<0 then(v+(n:ah)).toNat else pb v.toNat n
end
abbrev yH:=cw->ay->(aJ ah->ay->Prop)->Prop
def qf(X:bA)(e:aJ bI)(t:yH):Prop:=∀(pins:af (ax×cU)) (s:ba) (a:cw) (H:ay) (Q:aJ ah->ay->Prop),aV X pins a H s->t a H Q-> cf (bQ X.a2 X.w) X.A (evalPart e X.a0) (λu c=>∃o b,aV X pins a b c/\HI u o/\Q o b) X.xe s
def aaI:yH:=λ_ H Q=>Q aq H
def aaF(t:cS):yH:=λa H Q=>t a H λx b=>∃i,x=.d i/\Q (ai i) b
section
variable{X:bA}{e:bI}{d:cS}{a c:aJ bI}{tl f:yH}{g j:dj}
def abq:qf X aq aaI:=by intro b s i H Q I h;rw[YA];exact gB (aq,H,I,.none,h)
def abp(h:aA X e d):qf X (ai e) (aaF d):=by intro b s k H Q I r;rw[evalPart_some];refine bZ (h b s k H _ I r) λu p (x,o,n,l,m)=>?_;obtain⟨i,rfl,q⟩:=m;obtain⟨t,rfl⟩:=l;exact(ai i,o,n,.int i t,q)
def Qv(X:bA)(r:aH->aJ ah->aJ ah->ay->dw->Prop):Prop:=∀(pins:af (ax×cU)) (s:ba) (b:cw) (H:ay) (x:aH) (v i h:aB) (a c:aJ ah) (k:ax) (Q:dw),aV X pins b H s->cy x v->s.heap.IsSliceOf k i h .none->HI i a->HI h c->r x a c H Q->∃T id,typeLookup (.type T) "__getitem__"=cA (ai<|.builtin id)/\s.TypeIs v T/\cf (bQ X.a2 X.w) X.A (Ag v<|.ref k) (je X pins b Q) X.xe s
def aaC(r:aH->aJ ah->aJ ah->ay->dw->Prop)(d:cS)(tl f:yH):cS:=λb H Q=>d b H λx k=>tl b k λl i=>f b i λu h=>r x l u h Q
def Pt(hr:Qv X r)(M:aA X e d)(K:qf X a tl)(G:qf X c f):aA X (.Subscript e (.Slice a c aq j) g) (aaC r d tl f):=by intro i s m H Q I h;refine Od<|bZ (M i s m H _ I h) λv y (x,V,S,z,D)=>?_;refine wpAny_Slice<|bZ (K i y m V _ S D) λo t (l,U,R,F,C)=>bZ (G i t m U _ R C) λn k (u,p,P,E,B)=>?_;rw[YA];refine gB ?_;have O:aV X i m p {k with heap:=k.heap.push {cls:=.type "slice",data:=.fields #[o,n,.none]}}:=P.a7 (t':=k.toks) λb W q=>gN _ q;obtain⟨T,id,N,J,L⟩:=hr i {k with heap:=k.heap.push {cls:=.type "slice",data:=.fields #[o,n,.none]}} m p x v o n l u k.heap.objs.size Q O z (Z4 ..) F E B;show cf (bQ X.a2 X.w) X.A (Oa e (.Slice a c aq j) v<|.ref k.heap.objs.size) (je X i m Q) X.xe {k with heap:=k.heap.push {cls:=.type "slice",data:=.fields #[o,n,.none]}};exact tail_any (ops:=[.ref k.heap.objs.size,v]) J N L (by with_unfolding_all rfl)
def yG(xs:af aH)(a c:aJ ah):af aH:=(xs.drop<|il xs.length 0 a).take<|il xs.length xs.length c- il xs.length 0 a
def acO(xs:af aH)(a c:aJ ah):(yG xs a c).length<=xs.length:=fx (List.length_take_le' ..) (by rw[Z_];exact Nat.sub_le ..)
end
def lP(n:ag)(i:ah):aJ ag:=if 0<=i then(if i<n then ai i.toNat else aq)else if-(n:ah)<=i then ai (i+n).toNat else aq
def fZ{a:Type}(b:af a)(i:ah):aJ a:=(lP b.length i).bind λj=>b[j]?
def PV(h:lP n i=ai j):seqIndex? i n=ai j/\j<n/\ -(n:ah)<=i/\i<n:=by
 unfold lP at h;by_cases b:0<=i
 ·rw[aG b]at h;by_cases a:i<n;·rw[aG a]at h;have e:i.toNat=j:=kX h;exact(by rw[NF b a,e],(by subst_vars;nofun),!_,a)
  all_goals nofun
 ·rw[aE b]at h;by_cases a: -(n:ah)<=i;·rw[aG a]at h;have e:(i+n).toNat=j:=kX h;exact(by rw[NG ∅ a,e],!_,a,!_)
  all_goals nofun
def Qt{a:af α}{v:α}(h:fZ a i=ai v):∃j,seqIndex? i a.length=ai j/\a[j]?=ai v/\j<a.length/\ -(a.length:ah)<=i/\i<a.length:=by obtain⟨j,a,b⟩:=Option.bind_eq_some_iff.mp h;have c:=PV a;exact(j,c.1,b,c.2)
def gQ{xs:af α}{j:ag}{v:α}(h:xs[j]?=ai v):fZ xs (j:ah)=ai v:=by (simp_all[eM,lP,fZ];grind?)
def ac3(xs:af α)(v:α):fZ (xs++[v]) (-1)=ai v:=by
 have a:(xs++[v]).length=xs.length+1:=();have e:lP (xs++[v]).length (-1)=ai xs.length:=by (simp[lP];lia)
 simp_all[fZ]
def qe(b:bI):Prop:=∀o i,Hu b aw o i=NI [o,i] (Ag o i)
def Jf(X:bA)(r:oq):Prop:=∀(c a:bI) (b:af (ax×cU)) (s:ba) (d:cw) (H:ay) (x y:aH) (v u:aB) (Q:dw),aV X b d H s->cy x v->cy y u->r x y H Q-> Hu a aw v u=NI [v,u] (Ag v u)->cf (bQ X.a2 X.w) X.A (Oa c a v u) (je X b d Q) X.xe s
def rg(X:bA)(id:qQ)(r:aH->af aH->ay->dw->Prop):Prop:=∀(pins:af (ax×cU)) (s:ba) (a:cw) (H:ay) (x:aH) (b:af aH) (v:aB) (c:af aB) (Q:dw),aV X pins a H s->cy x v->dh b c->r x b H Q-> cf (bQ X.a2 X.w) X.A (oX (.builtin id) (v::c)) (je X pins a Q) X.xe s
section
variable{X:bA}{a b:bI}{C D:cS}{B:dj}
def rY(hr:Jf X r)(e:aA X a C)(l:aA X b D)(k:qe b):aA X (.Subscript a b B) (DR r C D):=by intro c s f H Q I h;exact Od<|IX e l I h λv u i x y p n d j q=>hr a b c i f p x y v u Q n d j q<|k _ _
def abk(K:aZ):oq:=λx y H Q=>∃p c i v,x=.c p/\y=.d i/\dX K H p c/\fZ c i=ai v/\Q v H
def abj(K:aZ):oq:=λx y H Q=>∃p c i v,x=.c p/\y=.d i/\iS K H p c/\fZ c i=ai v/\Q v H
def uT:Jf X (abk X.K):=by
 intro k l c s J H x y v u Q I d R h L;obtain⟨p,Y,i,z,rfl,rfl,e,S,q⟩:=h;cases d;obtain⟨t,rfl⟩:=R;obtain⟨F,r,E,Z⟩:=I.a3 e;obtain⟨j,M,W,o,V,U⟩:=Qt S;obtain⟨w,O,n⟩:=r.a1 W;have m:=r.a0;have g:=AO;have f:je X c J Q w s:=(z,H,I,n,q);by_cases N:0<=i;have G:i.toNat=j:=by rw[NF N U]at M;nofun
 exact item_listR E.isList N (by lia) (by rw[G];simpa using O) f L;have G:(i+(F.toArray.size:ah)).toNat=j:=by rw[NG ∅ V]at M;nofun
 exact Zo (x:=w) E.isList.typeIs Yt.lookup (wpAny_getItem_list_neg (Q:=λr P=>r=w/\je X c J Q r P) E.isList (by ac_rfl) (by rw[jZ]<;>nofun) (by lia) (by rw[G];simpa using O) (aa,f)) L
def PU:Jf X (abj X.K):=by intro f k c s E H x y v u Q I d J h M;obtain⟨p,U,i,z,rfl,rfl,e,O,q⟩:=h;cases d;obtain⟨t,rfl⟩:=J;obtain⟨L,r,F,V⟩:=I.a8 e;obtain⟨j,R,P,g,Z,Y⟩:=Qt O;obtain⟨w,S,l⟩:=r.a1 P;have N:=r.a0;have W:=AO;have n:je X c E Q w s:=(z,H,I,l,q);exact Zo (x:=w) F.typeIs slot_tuple_getitem.lookup (getItem_tuple (j:=j) (Q:=λr G=>r=w/\je X c E Q r G) F (by lia) (by lia) (by rw[jZ,<-N];exact R) (by simpa using S) (aa,n)) M
def ab6(its:af aB)(n j:ag)(u:aB):Ao (·.setIfInBounds j u) {cls:=.type "list",data:=.seq its.toArray n}={cls:=.type "list",data:=.seq (its.set j u).toArray n}:=by simp[Ao]
def aV.f7{f:af (ax×cU)}{j:cw}{H:ay}{s:ba}{p:ax}{i:af aH}(I:aV X f j H s)(h:H p=ai (.a i)):
  ∃(c:af aB) (n:ag),dh i c/\s.heap.get? p=ai {cls:=.type "list",data:=.seq c.toArray n}/\i.length<=dG:=by
 obtain⟨z,c,n,r,e⟩:=I.a1 p _ h;nofun
def aV.f5{i c:af aB}(I:aV X pins σ H s)(h:H p=ai (.a xs))
  (ho:s.heap.get? p=ai {cls:=.type "list",data:=.seq i.toArray n})(j:f {cls:=.type "list",data:=.seq i.toArray n}={cls:=.type "list",data:=.seq c.toArray n'})(r:dh ys c)(k:ys.length<=dG)(t:ag):
  aV X pins σ (bu H p<|.a ys) {s with heap:=s.heap.update p f,toks:=t}:=by
 have e:(s.heap.update p f).get? p=ai {cls:=.type "list",data:=.seq c.toArray n'}:=by rw[YV f ho (by rw[j]<;>rfl),j]
 refine I.c3 (x:=p) (e:=p) (by rw[h];trivial) (.inl aa) (λb u l q=>(YW _ _<|dZ l).trans q) (_,e) ?_;exact(k,c,n',r,e)
def abh:aH->aH->aH->ay->(ay->Prop)->Prop:=λo i v H Q=>∃p c k j,o=.c p/\i=.d k/\H p=ai (.a c)/\lP c.length k=ai j/\Q (bu H p<|.a<|c.set j v)
def yy:Ja X abh:=by
 intro c s K H o i v ov S u Q I N O M h;obtain⟨p,L,k,j,rfl,rfl,x,R,q⟩:=h;cases N;obtain⟨t,rfl⟩:=O;obtain⟨f,n,r,l,P⟩:=I.f7 x;obtain⟨F,V,E,z⟩:=PV R;have y:=r.a0;have U:=AO;have J:aV X c K (bu H p<|.a<|L.set j v) {s with heap:=s.heap.update p<|Ao (·.setIfInBounds j u)}:=I.f5 x l (ab6 f n j u) (r.a6 M j) (by rw[j'];exact P) s.toks;by_cases G:0<=k;have w:k.toNat=j:=by rw[NF G z]at F;nofun
 exact PySem.W.ki_setAt l G (by lia) (by rw[jZ,<-y];exact z) (by rw[w];exact(_,J,q));have w:(k+(f.toArray.size:ah)).toNat=j:=by rw[NG ∅ E]at F;nofun
 exact PySem.W.ki_setBack l (by ac_rfl) (by rw[jZ,<-y];exact E) (by lia) (by rw[w];exact(_,J,q))
def aa8(c f:aJ ah)(n:ag):(yg c f aq n).1=((il n 0 c:ag):ah)/\(yg c f aq n).2.1=((il n n f:ag):ah)/\(yg c f aq n).2.2=1:=by
 have z:∀i:ah,mX 0 (pb (if i<0 then i+n else i) n)=((if i<0 then(i+n).toNat else pb i.toNat n:ag):ah):=λi=>by split;rw[Int.min_eq_left !_,Int.ofNat_toNat,Int.max_comm];obtain⟨k,rfl⟩:=En (show 0<=i by lia);show _=((pb k n:ag):ah);rcases Nat.le_total k n with u|u;rw[Nat.min_eq_left u,Int.min_eq_left (Int.ofNat_le.mpr u)];exact Int.max_eq_right (Int.natCast_nonneg _);rw[Nat.min_eq_right u,Int.min_eq_right (Int.ofNat_le.mpr u)];exact Int.max_eq_right (Int.natCast_nonneg _)
 refine(?_,?_,aa);cases c;rfl;exact z _;cases f;rfl;exact z _
def aa9(its:af aB)(c f:aJ ah):slicePick its.toArray c f aq=((its.drop<|il its.length 0 c).take<|il its.length its.length f- il its.length 0 c).toArray:=by obtain⟨j,i,h⟩:=aa8 c f its.toArray.size;unfold slicePick;rw[j,i,h];(rw[sliceRange_one,pick_run,jZ])<;>rfl
def abg(K:aZ):aH->aJ ah->aJ ah->ay->dw->Prop:=λx f h H Q=>∃a c,x=.c a/\dX K H a c/\∀p,H p=aq->Q (.c p) (bu H p<|.a<|yG c f h)
def OX:Qv X (abg X.K):=by intro k s E H x v G F i j J Q I d z p n h;obtain⟨a,c,rfl,y,q⟩:=h;cases d;obtain⟨u,r,l,w⟩:=I.a3 y;have f:=r.a0;refine("list",_,Yt.lookup,l.isList.typeIs,?_);refine wpAny_getItem_list_slice l.isList z p n .none () ?_ (by rw[jZ]<;>nofun);rw[aa9,<-f];refine(.c s.heap.objs.size,_,I.b5 (t':=s.toks) (o:=.a<|yG c i j) (λb L q=>gN _ q) (b_ _) ?_,aa,q _<|I.a1.a0<|b_ _);exact(fx (acO c i j) w,_,0,(r.a8<|il c.length 0 i).b1<|il c.length c.length j- il c.length 0 i,jb _ aa)
def IW:nh X (.builtin "len") (λl H Q=>∃p f,l=[.c p]/\(dX X.K H p f\/iS X.K H p f)/\Q (.d f.length) H):=by intro n s w H l x Q I r h;obtain⟨p,f,rfl,d,q⟩:=h;obtain⟨u,rfl,e⟩:=wC r;cases e;have y:=AO;rcases d with d|d;obtain⟨k,i,j,v⟩:=I.a3 d;have c:=i.a0;exact Calls.call_len_list j.isList (by simp only[jZ]<;>left) (.d f.length,H,I.a4 _,(s.toks+1,by rw[jZ,c]),q);obtain⟨k,i,j,v⟩:=I.a8 d;have c:=i.a0;exact len_tuple j (by simp only[jZ]<;>(nofun;lia)) (.d f.length,H,I.a4 _,(s.toks+1,by rw[jZ,c]),q)
def acX:nh X (.type "list") (λM H Q=>∃p i,M=[.c p]/\(dX X.K H p i\/iS X.K H p i)/\∀l,H l=aq->Q (.c l) (bu H l<|.a i)):=by
 intro v s O H M P Q I r h;obtain⟨p,i,rfl,d,q⟩:=h;obtain⟨u,rfl,g⟩:=wC r;cases g;have E:∀(c:af aB),dh i c->i.length<=dG->∀(f:bT) (k:ag),(∀b N,s.heap.get? b=ai N->f.get? b=ai N)->
   f.get? s.heap.objs.size=ai {cls:=.type "list",dict:=aq,data:=.seq c.toArray k,slots:= #[]}->je X v O Q (.ref s.heap.objs.size) {s with heap:=f}:=λc j y f k x e=>
  (.c s.heap.objs.size,_,I.b5 (t':=s.toks) x (b_ _) (show hZ X.a2 X.w _ f _ (.a i)from(y,c,k,j,e)),aa,q _<|I.a1.a0<|b_ _)
 rcases d with d|d;obtain⟨c,j,F,y⟩:=I.a3 d;have z:=j.a0;obtain⟨o,G,L,n,J⟩:=F.isList;exact YD p (.inl aa) G L J (λf k x e=>E c j y f k x e) (by simp only[jZ]<;>ac_rfl);obtain⟨c,j,F,y⟩:=I.a8 d;have z:=j.a0;obtain⟨o,G,L,n,J⟩:=F;exact YD p (.inr aa) G L J (λf k x e=>E c j y f k x e) (by simp only[jZ]<;>nofun)
def Il(K:aZ)(T:qQ)(x:aH)(H:ay):Prop:=match x with|.g _=>T="str"|.d _=>T="int"|.c p=>(T="list"/\∃f,dX K H p f)\/(T="tuple"/\∃o,K.lookup p=ai o/\o.cls=.type "tuple"/\o.dict=aq)\/ (T="dict"/\((∃c,H p=ai (.d c))\/∃c,H p=ai (.h c)))\/(T="set"/\∃S n,H p=ai (.j S n))|_=>eo
def ON(I:aV X pins σ H s)(r:cy x v)(m:Il X.K T x H):
  s.TypeIs v T/\∀a,v=.ref a->∃q,s.heap.get? a=ai q/\q.dict=aq:=by
 cases x with
 |g z=>obtain⟨t,rfl⟩:=r;cases(show T="str" from m);exact(typeIs_str s z t,λ_ e=>nomatch e)
 |d i=>obtain⟨t,rfl⟩:=r;cases(show T="int" from m);exact(NB s i t,λ_ e=>nomatch e)
 |c p=>
  cases r;rcases m with⟨rfl,E,A⟩|⟨rfl,o,f,y,u⟩|⟨rfl,f⟩|⟨rfl,S,n,f⟩;obtain⟨w,_,l,_⟩:=I.a3 A;refine(l.isList.typeIs,λa e=>?_);cases e;obtain⟨o,n,e,c,u,_⟩:=l;symm;refine((o,I.b0 p o f,y),λa e=>?_);cases e;exact(o,I.b0 _ o f,u);have z:∃o,s.heap.get? p=ai o/\o.ExactDict:=by rcases f with⟨j,f⟩|⟨j,f⟩;obtain⟨_,_,_,_,o,_,_,e,h,_⟩:=I.a1 p _ f;symm;obtain⟨_,_,_,_,o,_,_,e,h,_⟩:=I.a1 p _ f;ac_rfl
  obtain⟨o,e,h⟩:=z;refine((o,e,h.1),λa k=>?_);cases k;exact(o,e,h.2.1);obtain⟨o,_,_,_,e,h,_⟩:=I.a1 p _ f;refine((o,e,h.1),λa k=>?_);cases k;exact(o,e,h.2.1)
 |_=>exact mP m
def aaX(K:aZ)(T:qQ)(r:aH->af aH->ay->dw->Prop)(d:cS):cS:=λf H Q=>d f H λx c=>Il K T x c/\r x [] c Q
def aaY(K:aZ)(T:qQ)(r:aH->af aH->ay->dw->Prop)(d:cS)(t:iD):cS:=λc H Q=>d c H λx f=>Il K T x f/\t c f λh i=>r x h i Q
variable{o e:bI}{A:af bI}{to:cS}{t:iD}{name:aC}{g d:dj}{T m:qQ}{r:aH->af aH->ay->dw->Prop}
def abK(pa:PlainAttrs T)(i:Slot T name m)(j:typeOf (.builtin m)=cA (.type "method_descriptor"))(w:rg X m r)(u:aA X o to)
  (hbase:ie o name X.a0 (bN o X.a0)=bN o X.a0|>1)(f:(g.endLine==d.line)=ao|>1):aA X (.Call (.Attribute o name g) [] [] d) (aaX X.K T r to):=by
 intro c s k H Q I h;refine wpAny_Call_method0_late hbase f<|bZ (u c s k H _ I h) λv p (x,E,n,l,F,q)=>?_;obtain⟨z,y⟩:=ON n l F;exact(T,m,pa,i,j,z,y,Dx aa<|PySem.evalArgs_none<|w c p k E x [] v [] Q n l .nil q)
def uS(pa:PlainAttrs T)(i:Slot T name m)(k:typeOf (.builtin m)=cA (.type "method_descriptor"))(L:rg X m r)(J:aA X o to)(S:eW X (e::A) t)
  (hbase:ie o name X.a0 (bN o X.a0)=bN o X.a0|>1)
  (hfew:((lH d<|dC (e::A) X.a0).all (λx=> !x.1)&&(pX d<|pV [] X.a0).all (λx=>x.1.isSome)
   &&aT ((e::A).length+([]:af qV).length+(if([]:af qV).isEmpty then 0 else 1)<30))=ao|>1)
  (hline:(g.endLine==d.line)=ao|>1)(G:eI X e A|>1)(f:eG X d A|>1):
  aA X (.Call (.Attribute o name g) (e::A) [] d) (aaY X.K T r to t):=by
 intro c s j H Q I h;refine wpAny_Call_method_late hbase hfew hline aa<|bZ (J c s j H _ I h) λv y (x,R,p,l,K,F)=>?_;obtain⟨N,M⟩:=ON p l K;refine(T,m,pa,i,k,N,M,?_);have n:=S d c y j R _ p F;rw[G]at n ⊢;refine Dx (by show(aw||(lH d<|dC A X.a0).any (·.1))=aw;rw[f]<;>rfl)<|HM ?_;exact bZ n λu w (q,P,O,z,E)=>L c w j P x q v u Q O l z E
end
def Ek(X:bA)(id:qQ)(r:aH->af aH->ay->dw->Prop):Prop:=∀(pins:af (ax×cU)) (s:ba) (a:cw) (H:ay) (x:aH) (b:af aH) (v:aB) (c:af aB) (Q:dw),aV X pins a H s->cy x v->dh b c->r x b H Q-> cf (bQ X.a2 X.w) X.A (oX (.builtin id) (v::c)) (je X pins a Q) X.xe s
def dh.a3(h:dh [x] a):∃u,a=[u]/\cy x u:=by cases h using X4 with|cons r t=>cases t;exact(_,aa,r)
def dh.b2:∀{a:af aB},dh [] a->a=[]
 |_,.nil=>aa
def dh.b3(h:dh xs us):dh xs.dropLast us.dropLast:=by
 induction h with|nil=>exact .nil|cons r t a=>
  cases t with|nil=>exact .nil|cons q b=>exact .cons r a
def dh.a5(h:dh xs us):∀k:ag,dh (cg k xs).flatten (cg k us).flatten
 |0=>.nil|k+1=>by rw[Ay,Ay,OC,OC];exact dh.a2 h<|dh.a5 h k
def Qc(its:af aB):∀(k:ag) (a:af aB), uJ (λc b=>c++b) a.toArray (cg k its.toArray)=(a++(cg k its).flatten).toArray
 |0,a=>by simp|k+1,a=>by
  have e:a.toArray++its.toArray=(a++its).toArray:=();have d:(a++its)++(cg k its).flatten=a++(cg (k+1) its).flatten:=by rw[Ay,OC,wA]
  rw[<-d,<-Qc its k<|a++its,<-e,Ay,fO]
section
variable{X:bA}{a:af (ax×cU)}{d:cw}{H:ay}{s:ba}{l b:ax}{g c i:af aH}
def aV.d0{h its':af aB}(I:aV X a d H s)(r:H l=ai (.a g))
  (e:s.heap.get? l=ai {cls:=.type "list",data:=.seq h.toArray n})(o:f h.toArray=its'.toArray)(k:dh c its')(j:c.length<=dG):
  aV X a d (bu H l<|.a c) {s with heap:=s.heap.update l<|Ao f,toks:=t'}:=by
 have q:=PySem.IsL.update e f;rw[o]at q;refine I.c3 (x:=l) (e:=l) (by rw[r];exact dU) (.inl aa) (λt u p m=>(YW s.heap (Ao f)<|dZ p).trans m) (_,q) ?_;exact(j,its',_,k,q)
def aV.e0(I:aV X a d H s)(f:dh c its)(e:c.length<=dG):
  aV X a d (bu H s.heap.objs.size<|.a c) {s with heap:=s.heap.push {cls:=.type "list",data:=.seq its.toArray},toks:=t'}:=
 I.b5 (λ_ _ q=>gN _ q) (b_ _) (e,its,0,f,jb _ aa)
def aV.d9(I:aV X a d H s):H s.heap.objs.size=aq:=I.a1.a0<|b_ _
def aV.b9(I:aV X a d H s)(h:H l=ai (.a g)):g.length<=dG/\∃(f:af aB) (n:ag),dh g f/\g.length=f.length/\s.heap.get? l=ai {cls:=.type "list",data:=.seq f.toArray n}:=by obtain⟨z,f,n,r,e⟩:=I.a1 l _ h;exact(z,f,n,r,r.a0,e)
def IJ(h:n<=dG):As n=aw:=by unfold As;nofun
end
section
variable{X:bA}
def AJ:aH->af aH->ay->dw->Prop:=λx b H Q=>∃l a y,x=.c l/\b=[y]/\H l=ai (.a a)/\a.length<dG/\Q .f (bu H l<|.a<|a++[y])
def D_:Ek X "list.append" AJ:=by intro b s g H x j v k Q I p d h;obtain⟨l,i,y,rfl,rfl,c,m,q⟩:=h;cases p;obtain⟨u,rfl,f⟩:=d.a3;obtain⟨z,a,n,r,o,e⟩:=I.b9 c;refine yj Dt (_,e,aa) F.entry_list_append (F.args_list_append_2 _ _) (PySem.list_append l a.toArray n u (by rw[jZ];nofun)) (e,?_);refine(.f,_,I.d0 (its':=a++[u]) c e () (r.a2<|.cons f .nil) ?_,aa,q);left
def Iq:aH->af aH->ay->dw->Prop:=λx d H Q=>∃l b c a,x=.c l/\d=[.c b]/\H l=ai (.a c)/\H b=ai (.a a)/\c.length+a.length<=dG/\Q .f (bu H l<|.a<|c++a)
def PH:Ek X "list.extend" Iq:=by
 intro f s y H x D v E Q I F i h;obtain⟨l,b,C,A,rfl,rfl,g,t,G,q⟩:=h;cases F;obtain⟨u,rfl,j⟩:=i.a3;cases j;obtain⟨z,c,n,r,J,e⟩:=I.b9 g;obtain⟨B,a,m,k,p,w⟩:=I.b9 t;have o:c.toArray.size+a.toArray.size<=dG:=∅;have d:¬(!c.toArray.isEmpty&&As (c.toArray.size+a.toArray.size))=ao:=by simp_all[IJ,Bool.and_false,oT]
 refine yj Ds (_,e,aa) Zb (Ze _ _) (AutoSeq1.list_extend_list_list_0 l c.toArray n b a.toArray m d (by rw[jZ];nofun) (_)) (e,w,?_);refine(.f,_,I.d0 (its':=c++a) g e () (r.a2 k) ?_,aa,q);nofun
def Pb:aH->af aH->ay->dw->Prop:=λx b H Q=>∃l a y,x=.c l/\b=[]/\H l=ai (.a a)/\a[a.length- 1]?=ai y/\Q y (bu H l<|.a a.dropLast)
def ab3:Ek X "list.pop" Pb:=by intro d s k H x o v p Q I A g h;obtain⟨l,m,y,rfl,rfl,f,j,q⟩:=h;cases A;have c:=g.b2;subst c;obtain⟨z,a,n,r,w,e⟩:=I.b9 f;obtain⟨u,t,i⟩:=r.a1 j;have b:a.toArray[a.toArray.size- 1]?=ai u:=∅;refine yj YZ (_,e,aa) F.entry_list_pop (F.args_list_pop_1 _) (MeetsSeq.list_pop_last l a.toArray n u b (by rw[jZ];nofun)) (e,?_);refine(y,_,I.d0 (its':=a.dropLast) f e ?_ r.b3 ?_,i,q);all_goals grind?
def abl:oq:=λx y H Q=>∃l b c a,x=.c l/\y=.c b/\H l=ai (.a c)/\H b=ai (.a a)/\c.length+a.length<=dG/\∀p,H p=aq->Q (.c p) (bu H p<|.a<|c++a)
def abV:gi X (th .Add) abl:=by intro d s p H x y v u Q I E f h;obtain⟨l,b,A,t,rfl,rfl,j,k,C,q⟩:=h;cases E;cases f;obtain⟨z,c,n,r,D,e⟩:=I.b9 j;obtain⟨w,a,B,g,i,o⟩:=I.b9 k;refine PySem.P.add_list e o ?_ (by rw[jZ,jZ];nofun);have m:c.toArray++a.toArray=(c++a).toArray:=();rw[m];exact(.c _,_,I.e0 (t':=s.toks) (r.a2 g) (by rw[hU];symm),aa,q _ I.d9)
def abi:oq:=λx y H Q=>∃l k a,x=.c l/\y=.d k/\H l=ai (.a a)/\ -(2^63)<=k/\k<2^63/\a.length*k.toNat<=dG/\∀p,H p=aq->Q (.c p) (bu H p<|.a (cg k.toNat a).flatten)
def ab_(xs:af α)(k:ag):(cg k xs).flatten.length=k*xs.length:=by nofun
def abP:gi X (th .Mult) abi:=by
 intro o s J H x y v u Q I N A h;obtain⟨l,k,K,rfl,rfl,C,E,D,B,q⟩:=h;cases N;obtain⟨t,rfl⟩:=A;obtain⟨z,b,n,r,M,e⟩:=I.b9 C;have p:b.toArray.size*k.toNat<=dG:=∅;have g:¬b.toArray.size*k.toNat>(2^63- 1)/8:=by have:(dG:ag)<=(2^63- 1)/8:=⋯;lia
 have f:¬(!E2 k)=ao:=by rw[fitsIndex_both E D];lia
 have c:¬As (b.toArray.size*k.toNat)=ao:=by simp_all[IJ,oT]
 have d:uJ (λj i=>j++i) #[] (cg (if b.toArray.isEmpty=ao then 0 else k.toNat) b.toArray)=(cg k.toNat b).flatten.toArray:=by
  have G:∀m:ag,uJ (λj i=>j++i) #[] (cg m b.toArray)=(cg m b).flatten.toArray:=λm=>by have:=Qc b m [];rw[HY]at this;exact this
  rw[G];cases b with|nil=>simp|cons a L=>rw[aE ()]
 refine wpAny_binaryOp_repeat_ref (T:="list") (U:="int") ⋯ (_,e,aa) (λw=>NB w k t) noFill_list_mul F.fills_int_mul Y_ repeat_list F.slot_int_index.lookup<|yj Y_ (NB s k t) F.entry_int_rmul (F.args_int_rmul_2 _ _) (int___rmul___int_list k t l b.toArray n) (e,aa,(_,e,aa),yj F.slot_list_mul (_,e,aa) F.entry_list_mul (F.args_list_mul_2 _ _) (AutoListH.list___mul___list_int_3 l b.toArray n k t f g c) (e,?_));rw[d];exact(.c _,_,I.e0 (t':=s.toks) (r.a5 k.toNat) (by rw[ab_,DB];exact B),aa,q _ I.d9)
end
def dh.a9:∀{b:af ah} {a:af aB},dh (b.map aH.d) a->IntsAre a b
 |[],a,h=>by rw[oa]at h;cases h;exact IntsAre.nil
 |n::b,a,h=>by
  rw[eE]at h;cases h using X4 with|cons r t=>obtain⟨k,rfl⟩:=r;exact IntsAre.cons n k<|dh.a9 t
def dh.b0:∀{c:af da} {a:af aB},dh (c.map aH.e) a->a=c.map Al
 |[],a,h=>by rw[oa]at h;cases h;rfl
 |b::c,a,h=>by
  rw[eE]at h;cases h using X4 with|cons r t=>cases r;rw[dh.b0 t,eE]
def dh.a7(r:dh [aH.c a] us):us=[iB a]:=by
 cases r using X4 with|cons r t=>cases t;cases r;rfl
section
variable{c:cn}{w:bS}{A:fG}{E:aB->ba->Prop}{s:ba}{l:ax}{a:af aB}{d:af ah}{Q:aB->ba->Prop}
def aa3(hh:A.handled=aq)(k:s.heap.IsList l a.toArray)(m:IntsAre a d)
  (h:∀f g i,(∀b o,s.heap.get? b=ai o->f.get? b=ai o)->Q (.int d.sum i) {s with heap:=f,toks:=g}):cf (bQ c w) A (oX (.builtin "sum") [.ref l]) Q E s:=by
 obtain⟨n,e⟩:=m.allInts.items;have j:numsOf (intItems n).toList=d:=by rw[<-e];exact m.numsOf
 rw[nums_intItems]at j;rw[e]at k;refine PySem.sum_intListG hh k λf g i p=>?_;have:=h f g i p;rw[preSum_eq,Oq (),j];exact this
end
section
variable{X:bA}
def abf(K:aZ):af aH->ay->dw->Prop:=λc H Q=>∃(a:ax) (b:af ah),c=[aH.c a]/\dX K H a (b.map aH.d)/\Q (.d b.sum) H
def acP(hc:X.a9=ao):nh X (.builtin "sum") (abf X.K):=by intro b s i H j k Q I r h;obtain⟨a,n,rfl,e,q⟩:=h;obtain⟨d,c,f,_⟩:=I.a3 e;rw[dh.a7 r];exact aa3 (I.ok.hd hc) f.isList c.a9 λo l m g=>(.d _,H,I.a7 g,(_,aa),q)
end
def acj(hl:s.heap.IsList l items)
  (h:∀a:ba,a={s with heap:=s.heap.push {cls:=.type "list_iterator",data:=.fields #[.ref l,.int 0 0]}}->
   (a.heap.IsListIter s.heap.objs.size l 0/\a.heap.IsList l items)->l≠s.heap.objs.size->Q (.ref s.heap.objs.size) a):cf (bQ prog w) A (Hv<|.ref l) Q E s:=by
 have b:l<s.heap.objs.size:=by obtain⟨_,e,_⟩:=hl;exact eU e
 exact Nw hl<|h _ aa ((_,jb _ aa,aa,aa),hl.push _)<|kY b
def aax{h:af da}(e:its=h.map Al):
  TruthOf prog w A (λi v=>its.toArray[i]?=ai v) (λi=>h.getD i aw):=λi v s Q E d j=>by
 have a:its[i]?=ai v:=by simpa using d
 rw[e,cV]at a;obtain⟨b,g,rfl⟩:=p'.mp a;have f:h.getD i aw=b:=by rw[gO,g]<;>rfl
 have c:Q (h.getD i aw) s:=j;rw[f]at c;exact Ac c
def Qu:∀a:af da,(bP a.length).all (λi=>a.getD i aw)=a.all id
 |[]=>aa|b::a=>by rw[ij,Ot,AF,wB,AF,<-Qu a];all_goals rfl
section
variable{X:bA}
def abm(K:aZ):af aH->ay->dw->Prop:=λb H Q=>∃(a:ax) (c:af da),b=[aH.c a]/\dX K H a (c.map aH.e)/\Q (.e<|c.all id) H
def acQ(hc:X.a9=ao):nh X (.builtin "all") (abm X.K):=by intro g s v H w x Q I r h;obtain⟨a,bs,rfl,l,q⟩:=h;obtain⟨d,k,m,_⟩:=I.a3 l;rw[dh.a7 r];have p:=k.b0;refine call_all_walk<|acj m.isList λf t j e=>?_;subst t;refine(_,_,_,_,_,_,_,aa,Walks.list (A:=X.A.in1) (I.ok.hd hc) _ a e d.toArray,j,aax p,λz y n=>?_);refine(.e _,H,I.a7 λb o i=>n b o (λc=>?_)<|gN _ i,?_,q);rcases fq.mp c with u|c;exact bG (u▸eU i)<|tq _;cases c;show Al _=Al _;grind[Qu,jZ,cb]
end
mutual
inductive mz(K:aZ)(H:ay):aH->gM->Prop
 |a5:mz K H .f .none
 |bl (b:da):mz K H (.e b) (.bool b)
 |a4 (i:ah):mz K H (.d i) (.int i)
 |a6 (x:aC):mz K H (.g x) (.str x)
 |a1 {a:ax} {xs:af aH} {ds:af gM}:dX K H a xs->tE K H xs ds->mz K H (.c a) (.list ds)
 |a3 {a:ax} {xs:af aH} {ds:af gM}:iS K H a xs->tE K H xs ds->mz K H (.c a) (.tuple ds)
inductive tE(K:aZ)(H:ay):af aH->af gM->Prop
 |b:tE K H [] []
 |a {v:aH} {vs:af aH} {d:gM} {ds:af gM}:mz K H v d->tE K H vs ds->tE K H (v::vs) (d::ds)
end
section
variable{X:bA}{a:af (ax×cU)}{c:cw}{H:ay}{s:ba}
def mz.a0(I:aV X a c H s)(d:gM)(v:aH)(u:aB)(h:mz X.K H v d):cy v u->∃q,Reads s.heap u d q:=mz.rec (motive_1:=λv d _=>∀u,cy v u->∃q,Reads s.heap u d q) (motive_2:=λe b _=>∀f,dh e f->∃g,ReadsAll s.heap f b g) (λ_ r=>by cases r;exact(_,Reads.none)) (λb _ r=>by cases r;exact(_,Reads.bool b)) (λi _ r=>by obtain⟨t,rfl⟩:=r;exact(_,Reads.int i t)) (λx _ r=>by obtain⟨t,rfl⟩:=r;exact(_,Reads.str x t)) (λg _ y _ r=>by cases r;obtain⟨e,f,⟨o,n,k,m,_,l⟩,_⟩:=I.a3 g;obtain⟨q,j⟩:=y e f;exact(_,Reads.list k m l j)) (λg _ y _ r=>by cases r;obtain⟨e,f,⟨o,k,m,n,l⟩,_⟩:=I.a8 g;obtain⟨q,j⟩:=y e f;exact(_,Reads.tuple k m l j)) (λ_ r=>by cases r;exact(_,ReadsAll.nil)) (λ_ _ y z _ r=>by cases r using X4 with|cons j i=>obtain⟨g,l⟩:=y _ j;obtain⟨b,k⟩:=z _ i;exact(_,ReadsAll.cons l k)) h u
def mz.a2(I:aV X a c H s)(b:af gM)(e:af aH)(f:af aB)(h:tE X.K H e b):dh e f->∃g,ReadsAll s.heap f b g:=tE.rec (motive_1:=λ_ _ _=>eA) (motive_2:=λe b _=>∀f,dh e f->∃g,ReadsAll s.heap f b g) dU (λ_=>dU) (λ_=>dU) (λ_=>dU) (λ_ _ _=>dU) (λ_ _ _=>dU) (λ_ r=>by cases r;exact(_,ReadsAll.nil)) (λn _ _ z _ r=>by cases r using X4 with|cons j i=>obtain⟨g,l⟩:=mz.a0 I _ _ _ n j;obtain⟨b,k⟩:=z _ i;exact(_,ReadsAll.cons l k)) h f
end
section
variable{X:bA}
def Ir(K:aZ):oq:=λx y H Q=>∃d e,mz K H x d/\mz K H y e/\Am d=ao/\Am e=ao/\Q (.e<|YS d e) H
def Pz(hu:X.A.units+64<nW):gi X (jy .Eq) (Ir X.K):=by intro a s l H x y v u Q I n f h;obtain⟨d,e,k,j,c,b,q⟩:=h;obtain⟨m,i⟩:=mz.a0 I d x v k n;obtain⟨bs,g⟩:=mz.a0 I e y u j f;exact SeqAt.compareEq_shaped i g c b hu (.e _,H,I,aa,q)
end
abbrev QI(h:bT)(c:ax)(v:aJ aB):Prop:=h.IsCell c v
def abd(a b:nY):nY:={a with names:=a.names.map λ(n,k)=>if(k==.free&&b.kind==.function&&b.names.lookup n==ai .cell)then(n,.cell)else(n,k)}
def jA(cells:af (aC×ax)):af (aC×mV)->af (aC×ax)->af (aC×ax)
 |[],a=>a|(n,k)::r,a=>if k==.free then jA cells r ((n,(cells.lookup n).getD 0)::a)else jA cells r a
def Qm(env:ig)(f:aC×mV->af (aC×ax)->Sem (ForInStep<|af<|aC×ax)) (m:∀n k c,f (n,k) c=if k==.free then(do let a<-cellOf env n;cA<|.yield ((n,a)::c))else cA<|.yield c):∀(names:af (aC×mV)) (b:af (aC×ax)),(∀y∈names,y.2=.free->∃c,env.cells.lookup y.1=ai c)->ForIn.forIn names b f=cA (jA env.cells names b)
 |[],b,_=>by rw[P1];rfl|(n,k)::r,b,h=>by
  rw[List.forIn_cons,m];have g:=λb=>Qm env f m r b λy j=>h y<|cO _ j;unfold jA;by_cases d:(k==Ap)=ao;rw[aG d,aG d];obtain⟨c,i⟩:=h (n,k) gY (by simpa using d);have e:cellOf env n=cA c:=by unfold cellOf;rw[i]
  rw[e];have l:(env.cells.lookup n).getD 0=c:=by rw[i];rfl
  rw[l];exact g _;rw[aE d,aE d];exact g _
def acS(h:∀y∈scope.names,y.2=.free->∃c,env.cells.lookup y.1=ai c):closureFor scope env=cA (jA env.cells scope.names []):=by simp only[closureFor];rw[Qm env _ (λn k c=>aa) scope.names [] h];rfl
def IM:∀{l:af (aC×α)} {n:aC} {c:α},(n,c)∈l->∃b,l.lookup n=ai b
 |(k,v)::r,n,c,h=>by
  rw[oe];cases a:n==k with|true=>exact(_,aa)|false=>rcases fq.mp h with e|h;cases e;simp at a;exact IM h
def Ee:∀{a:af (aC×mV)} {b:af (aC×ax)} {n:aC} {c:ax},(n,c)∈jA cells a b->(n,c)∈b\/((n,.free)∈a/\c=(cells.lookup n).getD 0)
 |[],_,_,_,h=>.inl h|(m,k)::r,b,n,c,h=>by
  unfold jA at h;split at h;rename_i d;have d:k=.free:=by simpa using d
  rcases Ee h with h|⟨g,f⟩;rcases fq.mp h with e|h;cases e;exact .inr (d▸gY,aa);exact .inl h;exact .inr (cO _ g,f);rcases Ee h with h|⟨g,f⟩;exact .inl h;exact .inr (cO _ g,f)
def IT:∀{a:af (aC×mV)} {b:af (aC×ax)} {p:aC×ax},p∈b->p∈jA cells a b
 |[],_,_,h=>h|(m,k)::r,b,p,h=>by unfold jA;split;exact IT<|cO _ h;exact IT h
def IS:∀{a:af (aC×mV)} {acc:af (aC×ax)} {n:aC},(n,.free)∈a->(n,(cells.lookup n).getD 0)∈jA cells a acc
 |(m,k)::r,acc,n,h=>by unfold jA;rcases fq.mp h with e|h;cases e;exact IT gY;split;exact IS h;exact IS h
def AV:∀{a:af (aC×mV)} {h:bT} {d:af (aC×ax)} {x:aC} {c:ax},(x,c)∈jX h.objs.size a d-> (x,c)∈d\/((x,.cell)∈a/\h.objs.size<=c/\QI (wj h a) c aq)
 |[],_,_,_,_,h=>.inl h|(n,k)::r,h,d,x,c,b=>by
  unfold jX at b;unfold wj;split at b;rename_i f;rw[aG f];have f:k=.cell:=by simpa using f
  rw[<-rT h {cls:=.type "cell",data:=.cell aq}]at b;rcases AV b with b|⟨j,g,i⟩;rcases fq.mp b with e|b;cases e;exact .inr (f▸gY,b_ _,_,Hw r _ _ _<|jb _ aa,aa);exact .inl b;rw[rT]at g;exact .inr (cO _ j,Om g,i);rename_i f;rw[aE f];rcases AV b with b|⟨j,g,i⟩;exact .inl b;exact .inr (cO _ j,g,i)
def Ef:∀{names:af (aC×mV)} {n:ag} {a:af (aC×ax)} {p:aC×ax},p∈a->p∈jX n names a
 |[],_,_,_,h=>h|(m,k)::r,n,a,p,h=>by unfold jX;split;exact Ef<|cO _ h;exact Ef h
def IV:∀{a:af (aC×mV)} {n:ag} {acc:af (aC×ax)} {x:aC},(x,.cell)∈a->∃c,(x,c)∈jX n a acc
 |(m,k)::r,n,acc,x,h=>by unfold jX;rcases fq.mp h with e|h;cases e;exact(n,Ef gY);split;exact IV h;exact IV h
def IU:∀{f:af (aC×mV)} {h:bT} {d:af (aC×ax)} {x y:aC} {c:ax},(∀p∈d,p.2<h.objs.size)->(∀x y c,(x,c)∈d->(y,c)∈d->x=y)-> (x,c)∈jX h.objs.size f d->(y,c)∈jX h.objs.size f d->x=y
 |[],_,_,_,_,_,_,l,i,g=>l _ _ _ i g|(n,k)::r,h,d,x,y,c,j,l,i,g=>by unfold jX at i g;split at i;rename_i o;rw[aG o]at g;rw[<-rT h {cls:=.type "cell",data:=.cell aq}]at i g;refine IU (h:=h.push _) (λp m=>?_) (λx y c a b=>?_) i g;rw[rT];rcases fq.mp m with rfl|m;exact HS _;exact Ol<|j p m;rcases fq.mp a with e|a<;>rcases fq.mp b with q|b;cases e;cases q;rfl;cases e;exact bG (j _ b)<|tq _;cases q;exact bG (j _ a)<|tq _;exact l _ _ _ a b;rename_i o;rw[aE o]at g;exact IU j l i g
def ab0{a:aB}
  (h:Q (newEnv scope s.heap.objs.size globals (jX (s.heap.objs.size+1) scope.names closure) qual func a (ai around) builtins)
   {s with heap:=wj (s.heap.push {cls:=.type "dict",data:=.dict #[]}) scope.names}):
  cf M A (Yv scope globals closure [] qual func a (ai around) builtins) Q E s:=by
 simp only[Yv,Zw,zP];refine eB<|wpAny_alloc ?_;refine eB<|wpAny_layCells _ (λn k c=>aa) scope.names closure _ _ ?_;rw[show({s with heap:=s.heap.push {cls:=.type "dict",data:=.dict #[]}}:ba).heap.objs.size=s.heap.objs.size+1 from rT ..];rw[P1];exact eB<|gB<|gB h
def IP{d:nY}:∀{c:af (aC×mV)} {x:aC} {k:mV}, (c.map λ(n,k)=>if(k==Ap&&d.kind==.function&&d.names.lookup n==ai .cell)then(n,NW)else(n,k)).lookup x=ai k->∃g,c.lookup x=ai g/\(k=g\/(g=.free/\k=.cell))
 |[],_,_,h=>by simp at h|(n,a)::r,x,k,h=>by
  have i:= @IP d r x k;have b:qY x ((if(a==Ap&&d.kind==.function&&d.names.lookup n==ai .cell)=ao then(n,NW)else(n,a))::(r.map _))=ai k:=h;cases f:x==n with
  |true=>simp only[oe,f];by_cases e:(a==Ap&&d.kind==.function&&d.names.lookup n==ai .cell)=ao;rw[aG e]at b;simp only[oe,f]at b;cases b;simp only[qH,CD]at e;exact(a,aa,.inr (e.1.1,aa));rw[aE e]at b;simp only[oe,f]at b;cases b;exact(_,aa,.inl aa)
  |false=>simp only[oe,f];by_cases e:(a==Ap&&d.kind==.function&&d.names.lookup n==ai .cell)=ao;rw[aG e]at b;simp only[oe,f]at b;exact i b;rw[aE e]at b;simp only[oe,f]at b;exact i b
structure wL(N:af aC)(sc scope:nY)(own:af (aC×ag)):Prop where
 c:scope.kind=.function
 b:∀y∈scope.names,scope.names.lookup y.1=ai y.2
 e:∀p∈own,N[p.2]?=ai p.1
 a:∀y∈scope.names,y.2=.free->sc.names.lookup y.1=ai .cell\/sc.names.lookup y.1=ai .free
 d:∀y∈scope.names,y.2=.local\/y.2=.cell->y.1∈own.map (·.1)\/y.1∉N
def gZ(σ:cw):af ag->cw
 |[]=>σ|v::a=>(gZ σ a).set v aq
def DM(σ:cw):∀a:af ag,(gZ σ a).length=σ.length
 |[]=>aa|v::a=>by unfold gZ;rw[j',DM σ a]
def Ij:∀{a:af ag},(gZ σ a)[i]?=ai (ai x)->σ[i]?=ai (ai x)/\i∉a
 |[],h=>(h,¬_)|v::a,h=>by unfold gZ at h;by_cases b:v=i;subst b;by_cases c:v<(gZ σ a).length;rw[mY c]at h;cases h;rw[DK (by simpa using c)]at h;cases h;rw[hW b]at h;obtain⟨f,d⟩:=Ij h;exact(f,by simp only[fq,not_or];exact(λe=>b e.symm,d))
abbrev bA.b0(X:bA)(s:ba)(H:ay)(a:nY)(b:ig)(c:af ax):bA:={X with b1:=s,c1:=H,a0:=b,b5:=X.b2,ex:=c,fn:=λx=>a.names.lookup x==ai .cell,pn:=[],xe:=λ_ _=>eo}
section
variable{X:bA}{d:af (ax×cU)}{f:cw}{H:ay}{s:ba}
def ac1(I:aV X d f H s)(ok:wL X.N X.a0.scope scope own)(hN:X.N.Nodup)(x:∀b∈fp,qh X d H b/\b<s.heap.objs.size):
  aV (X.b0 s H scope (lF scope (jX (s.heap.objs.size+1) scope.names<|jA X.a0.cells scope.names []) s.heap.objs.size X.a0) fp) [] (gZ f<|own.map (·.2)) H {s with heap:=wj (s.heap.push {cls:=.type "dict",data:=.dict #[]}) scope.names}:=by
 have G:∀y∈scope.names,y.2=.free->∃c,X.a0.cells.lookup y.1=ai c:=λy P e=>by
  rcases ok.a y P e with k|k;·exact I.ok.a4 _<|.inl k
  ·exact I.ok.a4 _<|.inr k
 generalize h:lF scope (jX (s.heap.objs.size+1) scope.names<|jA X.a0.cells scope.names []) s.heap.objs.size X.a0=g;have O:∀b o,s.heap.get? b=ai o->(wj (s.heap.push {cls:=.type "dict",data:=.dict #[]}) scope.names).get? b=ai o:=λb o e=>Hw _ _ _ _<|gN _ e;have Z:g.locals=s.heap.objs.size:=by rw[<-h];rfl
 have l:g.cells=jX (s.heap.objs.size+1) scope.names (jA X.a0.cells scope.names []):=by rw[<-h];rfl
 have D:g.scope=abd scope X.a0.scope:=by rw[<-h];rfl
 rw[<-rT s.heap {cls:=.type "dict",data:=.dict #[]}]at l;have S:∀{y c},(y,c)∈jA X.a0.cells scope.names []->X.a0.cells.lookup y=ai c/\c<s.heap.objs.size:=λ{y c} u=>by
  rcases Ee u with u|⟨j,rfl⟩;·cases u
  ·obtain⟨c,hc⟩:=G _ j aa;rw[hc];obtain⟨w,z⟩:=I.b2 _ _ hc;exact(aa,z.lt)
 have g0:∀{y c},g.cells.lookup y=ai c->(X.a0.cells.lookup y=ai c/\c<s.heap.objs.size)\/(s.heap.objs.size+1<=c/\QI (wj (s.heap.push {cls:=.type "dict",data:=.dict #[]}) scope.names) c aq):=λ{y c} e=>by
  rw[l]at e;rcases AV (nV e)with u|⟨_,M,h3⟩;·exact .inl<|S u
  ·rw[rT]at M;exact .inr (M,h3)
 have N:∀{y},scope.names.lookup y=ai .free->∃c,g.cells.lookup y=ai c/\X.a0.cells.lookup y=ai c:=λ{y} R=>by
  have P:(y,Ap)∈scope.names:=nV R;obtain⟨T,t⟩:=IM<|Ef (names:=scope.names) (n:=(s.heap.push {cls:=.type "dict",data:=.dict #[]}).objs.size)<|IS (cells:=X.a0.cells) (acc:=[]) P;rw[<-l]at t;refine(T,t,?_);rw[l]at t;rcases AV (nV t)with u|⟨j,_,_⟩;·exact(S u).1
  ·have:=ok.b _ j;rw[R]at this;cases this
 have U:(X.b0 s H scope g fp).Ok:=by
  refine(I.ok.a2,by show g.scope.kind=_;rw[D];exact ok.c,by show g.globals=_;rw[<-h];exact I.ok.b1,by show g.builtins=_;rw[<-h];exact I.ok.b9,by show s.heap.objs.size<=g.locals;rw[Z];exact b_ _, λy z c C B=>?_,λy P=>?_,λy c z e=>?_,I.ok.hd,I.ok.b6,.inl aa,λb J=>(?_,λy c e z=>?_),I.bs,fx I.ok.a5 I.sz,λb o e J=>?_,λb J z=>?_,I.e8,I.e4,I.ok.b8,I.ok.b2);·have C:g.cells.lookup y=ai c:=C;have B:g.cells.lookup z=ai c:=B;rw[l]at C B;refine IU (λp Q=>?_) (λy z c a b=>I.ok.b4 y z c (S a).1 (S b).1) (nV C)<|nV B;grind[rT,Ol]
  ·show ∃c,g.cells.lookup y=ai c;have V:∀k,g.kindOf y=ai k->(k=.cell\/k=.free)->∃c,g.cells.lookup y=ai c:=λk F E=>by
    unfold Env.kindOf at F;rw[D]at F;obtain⟨A,e,r⟩:=IP F;have:A=.cell\/A=.free:=by
     rcases r with rfl|⟨rfl,_⟩;·exact E
     ·exact .inr aa
    rcases this with rfl|rfl;·obtain⟨c,u⟩:=IV (n:=(s.heap.push {cls:=.type "dict",data:=.dict #[]}).objs.size) (acc:=jA X.a0.cells scope.names [])<|nV e;obtain⟨T,t⟩:=IM u;exact(T,by rw[l];exact t)
    ·obtain⟨c,j,_⟩:=N e;exact(c,j)
   grind
  ·have z:(scope.names.lookup y==ai NW)=ao:=z;have z:scope.names.lookup y=ai .cell:=by simpa using z
   have e:g.cells.lookup y=ai c:=e;rw[l]at e;rcases AV (nV e)with u|⟨_,M,_⟩
   ·rcases Ee u with u|⟨j,_⟩;·nofun
    ·have q:=ok.b _ j;nofun
   all_goals simp_all[rT,Om]
  ·left
  ·have e:g.cells.lookup y=ai c:=e;rcases g0 e with⟨j,_⟩|⟨j,_⟩;·exact(x b J).1.2.2.2.2.1 y c j z
   all_goals grind
  ·rcases(x b J).1.2.2.2.1 with z|z;·exact I.ok.a9 b o e z
   ·exact bG (gX (eU e)<|fx I.ok.a5 z)<|tq _
  ·rcases fq.mp (I.d4 b z)with z|z;·exact(x b J).1.2.1 z
   ·exact(x b J).1.2.2.1 z
 refine(U,aa,I.a9,ng.a7 O,(λ_=>aq,?_,λi y av C B e3=>?_),λy c e=>?_,?_,λy c e=>?_,λp Q=>?_,I.a1.a1 O,by rw[DM];exact I.b7);·show Heap.Ns _ g.locals _;rw[Z];exact Heap.Ns.keeps (Heap.Ns.new ..) λb o e=>Hw _ _ _ _ e
 ·obtain⟨B,Y⟩:=Ij B;have v:scope.names.lookup y=ai .free/\(g.kindOf y=ai .cell\/g.kindOf y=ai .free):=by
   have V:∀k,g.scope.names.lookup y=ai k->k=.local\/k=.cell\/k=.free->scope.names.lookup y=ai .free/\(g.kindOf y=ai .cell\/g.kindOf y=ai .free):=λk F E=>by
    have L:=F;rw[D]at F;obtain⟨A,e,r⟩:=IP F;have no:¬(A=.local\/A=.cell):=λhh=>by
     rcases ok.d _ (nV e) hh with t|t;·obtain⟨p,Q,W⟩:=cJ.mp t;have e3:=ok.e p Q;have:p.1=y:=W;rw[this]at e3;exact Y<|cJ.mpr (p,Q,IK hN e3 C)
     ·exact t<|eC C
    rcases r with rfl|⟨rfl,rfl⟩
    ·rcases E with rfl|rfl|rfl;·exact bG (.inl aa) no
     ·exact bG (.inr aa) no
     ·exact(e,.inr L)
    ·exact(e,.inl L)
   grind[eF]
  obtain⟨m,hn,R⟩:=I.a6;have K:eF X.a0.scope y:=(ok.a _ (nV v.1) aa).elim (λk=>.inr<|.inl k)<|λk=>.inr<|.inr k;obtain⟨w,r,q⟩:=R i y av C B K;refine(w,r,.inr (v.2,?_));obtain⟨c,j,M⟩:=N v.1;rcases q with⟨k,_⟩|⟨_,T,t,z⟩;·have k:X.a0.scope.names.lookup y=ai .local:=k;rcases ok.a _ (nV v.1) aa with A|A<;>rw[show X.a0.scope.names.lookup y=_ from A]at k<;>cases k
  ·rw[M]at t;cases t;exact(c,j,z.keeps O)
 ·have e:g.cells.lookup y=ai c:=e;rcases g0 e with⟨j,_⟩|⟨_,z⟩;·obtain⟨w,z⟩:=I.b2 y c j;exact(w,z.keeps O)
  ·exact(_,z)
 ·show H g.locals=aq;rw[Z];exact I.a1.a0<|b_ _
 ·have e:g.cells.lookup y=ai c:=e;rcases g0 e with⟨j,_⟩|⟨j,_⟩;·exact I.b4 y c j
  ·exact I.a1.a0<|Om j
 all_goals nofun
def ac9(I:aV X d f H s)(j:H D=ai (.a xs))(m:xs.length<dG)(r:cy y v)
  (h:∀g,aV X d f (bu H D<|.a<|xs++[y]) g->Q .none g):cf (bQ X.a2 X.w) X.A (oX (.builtin "list.append") [.ref D,v]) Q E s:=by
 obtain⟨l,a,n,i,e⟩:=I.a1 D _ j;have t:=i.a0;refine append_at (hsz:=by rw[jZ];ac_rfl) e λp k c=>?_;refine h {s with heap:=p} (I.c3 (t':=s.toks) (by rw[j];trivial) (.inl aa) (λb u o q=>(k.2 b o).trans q) (_,c) (by rw[hU];exact m,a++[v],n+1,i.a2<|.cons r .nil,?_));nofun
def tx(X:bA)(a:af bI)(t:iR):Prop:=∀(d:af (ax×cU)) (s:ba) (f:cw) (H:ay) (Q:da->ay->Prop),aV X d f H s->t f H Q-> cf (bQ X.a2 X.w) X.A (ForIn.forIn a ao λc r=>if r=ao then do let ok<-yh c X.a0<|bN c X.a0;cA (MB ok)else cA<|MB r) (I_ X d f Q) X.xe s
def OP:iR:=λ_ H Q=>Q ao H
def Ph:tx X [] OP:=λ_ _ _ H _ I h=>wpAny_tests_nil (H,I,h)
def DT(h:cP X c t):tx X [c] t:=λd s f H Q I a=>wpAny_tests_one<|h d s f H Q I a
end
def yw{t:Sem α}{Q b:α->ba->Prop}(h:cf M A t Q (λ_ _=>eo) s)(c:∀a s,Q a s->b a s):cf M A t b E s:=nU h c λ_ _ z=>mP z
def acR(I:ag->ba->Prop)
  (turn:∀n s,I n s->cf (bQ prog w) A (pyNext it) (λr d=>match r with
   |none=>R (.ok .next) d
   |some v=>cf (bQ prog w) A (Hx target it v) (λ_ b=>cf (bQ prog w) A (kE target env v) (λ_ k=>
     cf (bQ prog w) A (ForIn.forIn ifs ao λc r=>if r=ao then do let ok<-yh c env<|bN c env;cA (MB ok)else cA<|MB r) (λok a=>
      if ok=ao then cf (bQ prog w) A (bN elt env) (λx j=>
       cf (bQ prog w) A (oX (.builtin "list.append") [acc,x]) (λ_ i=>∃m,m<n/\I m i) (Af (bQ prog w) A env λe f=>R (.error e) f) j) (Af (bQ prog w) A env λe f=>R (.error e) f) a
      else ∃m,m<n/\I m a) (Af (bQ prog w) A env λe f=>R (.error e) f) k) (Af (bQ prog w) A env λe f=>R (.error e) f) b) (Af (bQ prog w) A env λe f=>R (.error e) f) d) (Af (bQ prog w) A env λe f=>R (.error e) f) s)
  (n:ag)(h:I n s):
  yi (bQ prog w) A (.compLoop (.ListComp elt [(target,iter,ifs,0)] scope pos) 0 it acc env) R s:=by
 refine codeAny_loop aa I (λn s y=>?_) n h;show cf _ A ((compTurn (.ListComp elt [(target,iter,ifs,0)] scope pos) 0 it acc env).onRaise (λx=>do noteFrame x env;theTreesLotGoes x)) _ _ s;refine wpAny_noted ?_;rw[compTurn_list];refine eB<|Hn<|eB<|nU (turn n s y) (λr d o=>?_) λ_ _ g=>g;cases r with|none=>exact gB o|some v=>
  refine eB<|nU o (λ_ b p=>?_) λ_ _ g=>g;refine eB<|nU p (λ_ k u=>eB<|nU u (λok a l=>?_) λ_ _ g=>g) λ_ _ g=>g;cases ok with|false=>exact gB (aa,l)|true=>exact eB<|eB<|nU l (λx j t=>eB<|nU t (λ_ i q=>gB<|gB (aa,q)) λ_ _ g=>g) λ_ _ g=>g
section
variable{X:bA}
def AH(wi:oo)(g:rf)(o:iR)(p:cS)(f:af ag):cS:=λe H Q=>wi e H λJ n=>∀D,n D=aq->∃W:ag->ag->ay->Prop,(∃m,W 0 m<|bu n D<|.a [])/\∀i m H,W i m H-> (J.c i H/\Q (.c D) H)\/(J.b i H/\∃h:ay->Prop,(∀d,h d->∃j,j<m/\W (i+1) j d)/\∀x d,J.a i H x d->g x (gZ e f) d λa q=>gZ a f=gZ e f/\o a q λb l=>if b=ao then p a l λy k=>∃c,k D=ai (.a c)/\c.length<dG/\h (bu k D<|.a<|c++[y])else h l)
def PQ
  (hc:X.a9=ao)(hN:X.N.Nodup)(I:aV X pins σ H s)(hi:fz X tg iter wi)(ok:wL X.N X.a0.scope scope own)
  (hg:∀(s:ba) (H:ay) (C:ax) (cl:af (aC×ax)) (d:af ax),jd (X.b0 s H scope (lF scope cl C X.a0) d) tg g)(ht:∀(s:ba) (H:ay) (C:ax) (cl:af (aC×ax)) (d:af ax),tx (X.b0 s H scope (lF scope cl C X.a0) d) ifs tt)
  (he:∀(s:ba) (H:ay) (C:ax) (cl:af (aC×ax)) (d:af ax),aA (X.b0 s H scope (lF scope cl C X.a0) d) elt te)(hs:∀x,pW iter X.a0 x=cA x)
  (h:AH wi g tt te (own.map (·.2)) σ H Q)
  (hRR:∀D C t m l,aV X pins σ l t->Q (.c D) l->t.heap.Ns C m->qh X pins l C->NK (bQ X.a2 X.w) X.A X.xe use Qf (.ref D) C (.ok .next) t):
  cf (bQ X.a2 X.w) X.A (YB (.ListComp elt [(tg,iter,ifs,0)] scope pos) scope X.a0 pos' (newList []) aw (bN iter X.a0) use) Qf X.xe s:=by
 have O:∀y∈scope.names,y.2=.free->∃c,X.a0.cells.lookup y.1=ai c:=λy hy e=>by
  rcases ok.a y hy e with k|k;·exact I.ok.a4 _<|.inl k
  ·exact I.ok.a4 _<|.inr k
 refine wpAny_comprehension_free (use:=use) aa hs (acS O) ok.c (λy hy e=>by rw[ok.b y hy,e])<|bZ (hi pins s σ H _ I h) λxv s1 hx=>bZ hx λitv S h2=>?_;obtain⟨it,d,tn,J,L,e,I2,T,st2,f2,q⟩:=h2;subst e;refine wpAny_newObj_type (ab0 ?_) (by show 0<=dG;decide);generalize hD:S.heap.objs.size=D;have hDn:L D=aq:=I2.a1.a0<|HU hD;obtain⟨W,⟨m0,w0⟩,turn⟩:=q D hDn;generalize hs3:({S with heap:=S.heap.push {cls:=.type "list",data:=.seq ([]:af aB).toArray}}:ba)=a;have I3:aV X pins σ (bu L D<|.a []) a:=by rw[<-hs3];refine I2.b5 (t':=S.toks) (λb o e=>gN _ e) (HU hD) (mW _,[],0,.nil,?_);rw[<-hD];exact jb _ aa
 have h3:a.heap=S.heap.push {cls:=.type "list",data:=.seq ([]:af aB).toArray}:=by rw[<-hs3]
 have sz:∀b∈d,b<S.heap.objs.size:=λb f=>by obtain⟨o,e,_⟩:=T.a _ _ st2 b f;exact eU e
 have P:∀b∈d,qh X pins (bu L D<|.a []) b/\b<a.heap.objs.size:=λb f=>by have hlt:=sz b f;refine((?_,(f2 b f).2),by rw[h3,rT];exact Ol hlt);rw[aO (by rw[<-hD];exact kY hlt)];exact(f2 b f).1
 have st3:tn 0 a.heap:=T.c _ _ _ st2 λb _ o e=>by rw[h3];exact gN _ e
 have I4:=ac1 I3 ok hN P;have pg:=hg a (bu L D<|.a []) a.heap.objs.size (jX (a.heap.objs.size+1) scope.names<|jA X.a0.cells scope.names []) d;have pt:=ht a (bu L D<|.a []) a.heap.objs.size (jX (a.heap.objs.size+1) scope.names<|jA X.a0.cells scope.names []) d;have pe:=he a (bu L D<|.a []) a.heap.objs.size (jX (a.heap.objs.size+1) scope.names<|jA X.a0.cells scope.names []) d;show yi _ _ (.compStart (.ListComp elt [(tg,iter,ifs,0)] scope pos) 0 (.ref it) (.ref D)<|lF scope (jX (a.heap.objs.size+1) scope.names<|jA X.a0.cells scope.names []) a.heap.objs.size X.a0) (NK (bQ X.a2 X.w) X.A X.xe use Qf (.ref D) a.heap.objs.size) {a with heap:=wj (a.heap.push {cls:=.type "dict",data:=.dict #[]}) scope.names};have nfp:∀b∈d,(bu L D<|.a []) b=aq:=λb f=>(P b f).1.1;generalize hce:lF scope (jX (a.heap.objs.size+1) scope.names<|jA X.a0.cells scope.names []) a.heap.objs.size X.a0=ce at I4 pg pt pe ⊢;have cL:ce.locals=a.heap.objs.size:=by subst hce;rfl
 generalize hH3:bu L D (.a [])=F at I3 I4 pg pt pe w0 nfp P;generalize hs4:({a with heap:=wj (a.heap.push {cls:=.type "dict",data:=.dict #[]}) scope.names}:ba)=s4 at I4 ⊢;have st4:tn 0 s4.heap:=T.c _ _ _ st3 λb _ o e=>by rw[<-hs4];exact Hw _ _ _ _<|gN _ e
 have B:∀{Z:cw} {l:ay} {t:ba},aV (X.b0 a F scope ce d) [] Z l t->(∀b∈d,l b=aq)->∀b∈d,qh (X.b0 a F scope ce d) [] l b:=λ{Z l t} Y U b f=> (U b f,(Y.ok.b7 b f).1,Y.ok.b0 b f,.inl f,λx c e=>(Y.ok.b7 b f).2 x c e,λp hp=>bG (show p∈([]:af (ax×cU))++[]from hp) ¬_);have K:yi (bQ X.a2 X.w) X.A (.compLoop (.ListComp elt [(tg,iter,ifs,0)] scope pos) 0 (.ref it) (.ref D) ce) (NK (bQ X.a2 X.w) X.A X.xe use Qf (.ref D) a.heap.objs.size) s4:=by
  refine acR (λn t=>∃i l,aV (X.b0 a F scope ce d) [] (gZ σ<|own.map (·.2)) l t/\tn i t.heap/\(∀b∈d,l b=aq)/\W i n l) ?_ m0 (0,F,I4,st4,nfp,w0);rintro n s5 ⟨i,R,I5,st5,n5,w5⟩;rcases turn i n R w5 with⟨stop,qq⟩|⟨go,Nx,hNx,step⟩
  ·have td:=T.e (X.b0 a F scope ce d) aa aa aa hc i [] s5 _ R (λ_ _=>eo) I5 (B I5 n5) st5 stop;refine yw td λr s6 (hr,V)=>?_;subst hr;have I7:aV X pins σ R s6:=I3.f6 (ch:=d) V.os V.a2 V.a1 V.a9 λb f=>((P b f).1.2.2.2.1,(P b f).1.2.1,(P b f).1.2.2.2.2.1,(P b f).1.2.2.2.2.2);have nC:R a.heap.objs.size=aq:=by have z:R ce.locals=aq:=V.b3;lia
   obtain⟨m,U,_⟩:=V.a6;have U:s6.heap.Ns ce.locals m:=U;rw[cL]at U;exact hRR D a.heap.objs.size s6 m R I7 qq U<|I3.b6 (b_ _) nC
  ·have ti:=T.d (X.b0 a F scope ce d) aa aa aa hc i [] s5 _ R (λ_ _=>eo) I5 (B I5 n5) st5 go;refine yw ti λr s6 (u,hr,h6)=>?_;subst hr;refine yw h6 λ_ s7 (x,H7,I7,r7,y7,M,n7)=>?_;have I7':=I7.d8 (B I7 n7)<|T.a _ _ M;refine yw (pg _ s7 _ H7 x u _ I7' r7<|step x H7 y7) λ_ s8 (E,H8,I8,hw8,q8)=>?_;refine yw (pt _ s8 E H8 _ I8 q8) λb s9 (H9,I9,q9)=>?_;have fin:∀{t:ba} {l:ay},aV (X.b0 a F scope ce d) ([]++AL d s7.heap) E l t->Nx l->∃m,m<n/\∃i l,aV (X.b0 a F scope ce d) [] (gZ σ<|own.map (·.2)) l t/\tn i t.heap/\(∀b∈d,l b=aq)/\W i m l:=λ{t l} Y nx=>by
    obtain⟨m',hm,w'⟩:=hNx l nx;have G:∀b∈d,∀o,s7.heap.get? b=ai o->t.heap.get? b=ai o/\l b=aq:=λb f o e=>
     let z:=Y.b1 (b,o) (wy _<|wy _<|IL f e)
     (z.1,z.2.1)
    have hl:(gZ σ<|own.map (·.2)).length=E.length:=by rw[<-hw8,DM]
    refine(m',hm,i+1,l,(Y.c7 (pins:=[])).e9 hl<|λj v e=>?_,T.c _ _ _ M λb f o e=>(G b f o e).1,λb f=>?_,w');·rw[<-hw8]at e;exact(Ij e).1
    ·obtain⟨o,e,_⟩:=T.a _ _ M b f;exact(G b f o e).2
   cases b with|false=>symm|true=>simp only[zP]at q9 ⊢;refine yw (pe _ s9 E H9 _ I9 q9) λz s10 (yv,H10,I10,r10,acc,hD10,hz10,nx)=>?_;exact ac9 (X:=X.b0 a F scope ce d) I10 hD10 hz10 r10 λs11 I11=>fin I11 nx
 exact codeAny_compStart_list K<|T.f X.A 0 _ _ _ st4 K
def abF(hc:X.a9=ao)(t:X.N.Nodup)(p:fz X tg iter wi)(ok:wL X.N X.a0.scope scope own)
  (hg:∀(s:ba) (H:ay) (C:ax) (c:af (aC×ax)) (a:af ax),jd (X.b0 s H scope (lF scope c C X.a0) a) tg g)(k:∀(s:ba) (H:ay) (C:ax) (c:af (aC×ax)) (a:af ax),tx (X.b0 s H scope (lF scope c C X.a0) a) ifs tt)
  (he:∀(s:ba) (H:ay) (C:ax) (c:af (aC×ax)) (a:af ax),aA (X.b0 s H scope (lF scope c C X.a0) a) elt te)(l:(∀x,pW iter X.a0 x=cA x)|>4):
  aA X (.ListComp elt [(tg,iter,ifs,0)] scope pos) (AH wi g tt te<|own.map (·.2)):=by
 intro d s F H Q I h;rw[eval_ListComp];refine PQ hc t I p ok hg k he l h λD C j m E B q n f=>(m,n,λu i=>?_);obtain⟨A,z,G,y,w,v⟩:=f;exact(.c D,E,B.a5 (t':=j.toks) (λb o r e=>(i.2 b r).trans e) A z y w v,aa,q)
def Iw(M:X.a9=ao)(t:X.N.Nodup)(z:X.N[i]?=ai y)(d:X.a0.scope.names.lookup y=ai .local)
  (hsw:fS (.ListComp elt [(tg,iter,ifs,0)] scope pos) (ai<|.Name y py) spos.line X.a0=cA ao)(G:fz X tg iter wi)(ok:wL X.N X.a0.scope scope own)
  (J:∀(s:ba) (H:ay) (C:ax) (k:af (aC×ax)) (j:af ax),jd (X.b0 s H scope (lF scope k C X.a0) j) tg g)(B:∀(s:ba) (H:ay) (C:ax) (k:af (aC×ax)) (j:af ax),tx (X.b0 s H scope (lF scope k C X.a0) j) ifs tt)
  (K:∀(s:ba) (H:ay) (C:ax) (k:af (aC×ax)) (j:af ax),aA (X.b0 s H scope (lF scope k C X.a0) j) elt te)(E:(∀x,pW iter X.a0 x=cA x)|>4):
  cH X (.Assign [.Name y py] (.ListComp elt [(tg,iter,ifs,0)] scope pos) spos) (Io (AH wi g tt te<|own.map (·.2))<|Ec i):=by
 intro c s r H D I h;rw[exec_Assign_Name_used _ _ _ _ hsw];refine eB<|Hn<|eB ?_;show cf _ X.A (do let _<-YB (.ListComp elt [(tg,iter,ifs,0)] scope pos) scope X.a0 (firstIterPos [(tg,iter,ifs,0)] pos) (newList []) aw (bN iter X.a0)<|ai<|kE (.Name y py) X.a0) _ _ s;have h:AH wi g tt te (own.map (·.2)) r H (λx Y=>Ec i x r Y D.a):=h;refine eB<|bZ (PQ (Qf:=λ_ n=>yI X c D .next n) M t I G ok J B K E h λL C n m Z W q F f=>?_) λ_ n hq=>gB<|gB hq;show cf _ _ (kE (.Name y py) X.a0<|.ref L) _ _ _;refine Yr<|OW (v:=aH.c L) W t z (.inl d) aa (λw U (a,u,ha)=>?_)<|.inr d;obtain⟨T,S,f2,R,Q,P⟩:=f;have p:C≠a:=();refine(m,F.sameBut u p,λh3 l=>?_);exact(_,Z,U.a5 (t':=w.toks) (λb o O e=>(l.2 b O).trans e) T S R Q P,q)
def E0(hk:env.scope.kind=.function)(b:env.scope.names.lookup y=ai .local)(c:(py.line==pos.line)=ao)
  (ha:(scope.names.any λ(n,k)=>n==y&&(k==.local||k==.cell))=aw):fS (.ListComp elt gs scope pos) (ai<|.Name y py) l env=cA ao:=by
 have a:env.kindOf y=ai .local:=b;have d:env.blockKind=.function:=by unfold Env.blockKind;rw[hk];rfl
 have e:(bI.ListComp elt gs scope pos).pos=pos:=aa;unfold fS;simp only[d,a,ha,e,c];rfl
end
def Qo(N:af aC)(b a:nY)(c:af (aC×ag)):da:=
 (match a.kind with|.function=>ao|_=>aw)&&(a.names.all λy=>aT<|a.names.lookup y.1=ai y.2)&&(c.all λp=>aT<|N[p.2]?=ai p.1)&&
  (a.names.all λy=>match y.2 with|.free=>(match b.names.lookup y.1 with|some .cell=>ao|some .free=>ao|_=>aw)|.local=>aT (y.1∈c.map (·.1))||aT (y.1∉N)|.cell=>aT (y.1∈c.map (·.1))||aT (y.1∉N)|_=>ao)
def gP(h:Qo N sc scope own=ao):wL N sc scope own:=by
 obtain⟨h,d⟩:=Xg.mp h;obtain⟨h,b⟩:=Xg.mp h;obtain⟨f,c⟩:=Xg.mp h;have b:=mw.mp b;have c:=mw.mp c;have d:=mw.mp d;refine(?_,λy a=>iM (c y a),λy a=>iM (b y a),λy a e=>?_,λy a e=>?_)
 ·revert f;cases scope.kind<;>intro f;all_goals first|rfl|exact(oT f).elim
 all_goals have z:=d y a
 ·rw[e]at z;revert z;cases sc.names.lookup y.1 with
  |none=>intro z;exact(oT z).elim
  |some k=>cases k<;>intro z;all_goals first|exact .inl aa|exact .inr aa|exact(oT z).elim
 ·rcases e with e|e<;>rw[e]at z<;>simpa using z
section
variable{c:Type} [Xd c]
def j_(kvs:af (c×aH))(k:c):aJ aH:=(kvs.find? λa=>aT<|a.1=k).map (·.2)
def og(kvs:af (c×aH))(k:c)(v:aH):af (c×aH):=if(kvs.any λa=>aT<|a.1=k)=ao then kvs.map (λa=>if a.1=k then(a.1,v)else a)else kvs++[(k,v)]
def wH(kvs:af (c×aH))(k:c):af (c×aH):=kvs.filter λa=>aT<|a.1≠k
def DO{k:c}(e:p.1=k):j_ (p::r) k=ai p.2:=by simp[j_,AE,e]
def DP{k:c}(e:¬p.1=k):j_ (p::r) k=j_ r k:=by simp[j_,AE,e]
def OM(k:c):∀a:af (c×aH),(a.any λb=>aT<|b.1=k)=(j_ a k).isSome
 |[]=>aa|p::r=>by rw[qZ];by_cases e:p.1=k;simp only[DO e,vL e,S0,Zw];rw[DP e,CC e,Q0];exact OM k r
def PM(kvs:af (c×aH))(k:c)(v:aH):(og kvs k v).length<=kvs.length+1:=by (simp only[og,cb,hU,ij,Ox];split<;>simp)
def tw.a0(r:tw o u):o.isSome=u.isSome:=by
 cases o with
 |none=>cases u with|none=>rfl|some _=>exact(show eo from r).elim
 |some _=>cases u with|none=>exact(show eo from r).elim|some _=>rfl
def tw.a2(r:tw o u)(a:cy d d'):cy (o.getD d) (u.getD d'):=by
 cases o with
 |none=>cases u with|none=>exact a|some _=>exact(show eo from r).elim
 |some _=>cases u with|none=>exact(show eo from r).elim|some _=>exact r
def kI.a0(r:kI kvs vs)(k:c):tw (j_ kvs k) (eR vs k):=by
 unfold kI at r;induction r with|nil=>exact xZ| @cons p q i a h t j=>
  obtain⟨f,g⟩:=h;by_cases e:p.1=k;have d:q.1=k:=f.symm.trans e;have b:eR (q::a) k=ai q.2:=by simp[eR,AE,d]
  rw[DO e,b];exact g;have d:¬q.1=k:=λz=>e<|f.trans z;have b:eR (q::a) k=eR a k:=by simp[eR,AE,d]
  simp[*,DP]
def kI.a3(r:kI kvs vs)(k:c):(kvs.any λa=>aT<|a.1=k)=vs.any λa=>aT<|a.1=k:=by
 unfold kI at r;induction r with|nil=>rfl|cons h t b=>rw[qZ,qZ,b,h.1]
def kI.a5(r:kI kvs vs)(k:c)(d:cy y u):
  kI (kvs.map λa=>if a.1=k then(a.1,y)else a) (vs.map λa=>if a.1=k then(a.1,u)else a):=by
 unfold kI at r ⊢;induction r with|nil=>exact .nil| @cons p q f e h t b=>rw[eE,eE];refine .cons ?_ b;(split<;>nofun)
def kI.a4(r:kI kvs vs)(k:c)(a:cy y u):kI (og kvs k y) (stored vs k u):=by unfold og stored;rw[r.a3 k];by_cases e:(vs.any λb=>aT<|b.1=k)=ao;rw[aG e,aG e];exact r.a5 k a;rw[aE e,aE e];exact YT r (aa,a)
def kI.a2(r:kI kvs vs)(k:c):kI (wH kvs k) (without vs k):=by
 unfold kI at r ⊢;unfold wH without;induction r with|nil=>exact .nil| @cons p q l j h t f=>
  obtain⟨d,g⟩:=h;rw[wz,wz];by_cases e:p.1=k;nofun;have i:¬q.1=k:=λz=>e<|d.trans z;have a:aT (p.1≠k)=ao:=by nofun
  have b:aT (q.1≠k)=ao:=by nofun
  rw[aG a,aG b];exact .cons (d,g) f
def kI.a1(r:kI kvs vs):kvs.length=vs.length:=NV r
def acH(kvs:af (c×aH))(k:c):(wH kvs k).length<=kvs.length:=Oy _ _
end
def yE(r:cy (lO k) u):(mx P w).is k u=ao:=by
 cases k with
 |inl i=>obtain⟨t,e⟩:=(show ∃t,u=wu i t from r);subst e;exact ab5 P w i t
 |inr x=>obtain⟨t,e⟩:=(show ∃t,u=Dl x t from r);subst e;exact ab4 P w x t
def PX:∀{a:af fA} {b:af aB},dh (a.map lO) b->ItemsAre (mx P w) a b
 |[],_,r=>by rw[oa]at r;cases r;exact .nil
 |k::a,_,r=>by
  rw[eE]at r;cases r using X4 with|cons h t=>exact .cons (yE h)<|PX t
abbrev sd(H:ay):af (af fA×aH)->af (af fA×ax×aB)->Prop:=An λp q=>p.1=q.1/\H q.2.1=ai (.b<|p.1.map lO)/\cy p.2 q.2.2
def sd.a0(r:sd H kvs xs)(k:af fA):tw (j_ kvs k) ((wo xs k).map (·.2)):=by
 induction r with|nil=>exact xZ| @cons p q g a h t i=>
  obtain⟨d,_,f⟩:=h;by_cases e:p.1=k;have c:q.1=k:=d.symm.trans e;have b:wo (q::a) k=ai q.2:=by simp[wo,AE,c]
  rw[DO e,b];exact f;have c:¬q.1=k:=λz=>e<|d.trans z;have b:wo (q::a) k=wo a k:=by simp[wo,AE,c]
  simp[*,DP]
def sd.a1(r:sd H kvs xs)(k:af fA)(c:cy y u):
  sd H (kvs.map λa=>if a.1=k then(a.1,y)else a) (xs.map<|putAt k u):=by
 induction r with|nil=>exact .nil| @cons p q e d h t b=>rw[eE,eE];refine .cons ?_ b;obtain⟨i,g,f⟩:=h;unfold putAt;(split<;>nofun)
def sd.a3(r:sd H kvs xs)(k:af fA)(d:H b=ai (.b<|k.map lO))(a:cy y u):
  sd H (og kvs k y) (storedH xs k b u):=by
 have e:(kvs.any λc=>aT<|c.1=k)=(wo xs k).isSome:=by rw[OM,(r.a0 k).a0,HP]
 unfold og storedH;rw[e];by_cases q:(wo xs k).isSome=ao;rw[aG q,aG q];exact r.a1 k a;rw[aE q,aE q];exact YT r (aa,d,a)
def sd.a2(r:sd H kvs xs)(c:∀b a,H b=ai (.b a)->H' b=ai (.b a)):sd H' kvs xs:=Paired.mapP r λ_ _ z=>(z.1,c _ _ z.2.1,z.2.2)
section
variable{P:cn}{w:bS}{H:ay}{h:bT}{a:ax}
def O_(ok:gC P w H h)(e:pA H a u):hZ P w H h a u:=e.ok ok
def AU(ok:gC P w H h)(e:pA H a (.d kvs)):kvs.length<=dG/\(a==qS)=aw/\∃b,kI kvs b/\h.DictOf (mx P w) a b:=show hZ P w H h a (.d kvs)from O_ ok e
def Qg(ok:gC P w H h)(e:H a=ai (.d kvs)):kvs.length<=dG/\(a==qS)=aw/\∃b,kI kvs b/\h.DictOf (mx P w) a b:=AU ok<|.inl e
def AQ(ok:gC P w H h)(e:H a=ai (.b<|ks.map lO)):(Ae<|mx P w).is h ks a:=by obtain⟨_,b,r,o,f,d,n,c⟩:=(show hZ P w H h a (.b<|ks.map lO)from ok a _ e);exact(o,b.toArray,n,f,d,c,by simpa using PX r)
def AS(ok:gC P w H h)(e:pA H a (.h kvs)):kvs.length<=dG/\(a==qS)=aw/\
  ∃b,sd H kvs b/\h.DictOfH (Ae<|mx P w) a b:=by
 obtain⟨z,y,b,r,o,k,n,j,i,g,f,d⟩:=(show hZ P w H h a (.h kvs)from O_ ok e);refine(z,y,b,r,o,k,n,j,i,g,f,λx c=>?_,d);have A:∀{l:af (af fA×aH)} {m:af (af fA×ax×aB)},sd H l m->∀x∈m,(Ae<|mx P w).is h x.1 x.2.1:=by
  intro l m q;induction q with|nil=>intro x c;exact nomatch c| @cons p q u s B t v=>grind[fq,AQ]
 symm
def acG(ok:gC P w H h)(e:H a=ai (.h kvs)):kvs.length<=dG/\(a==qS)=aw/\∃b,sd H kvs b/\h.DictOfH (Ae<|mx P w) a b:=AS ok<|.inl e
end
def uX(H:ay)(a:ax)(y:aH)(r:aJ aH):Prop:=(∃c k,pA H a (.d c)/\y=lO k/\r=j_ c k)\/∃c k b,pA H a (.h c)/\y=.c b/\H b=ai (.b<|k.map lO)/\r=j_ c k
def Em(H:ay)(a:ax)(y v:aH)(d:ay):Prop:= (∃c k,H a=ai (.d c)/\y=lO k/\c.length<dG/\d=bu H a (.d<|og c k v))\/∃c k b,H a=ai (.h c)/\y=.c b/\H b=ai (.b<|k.map lO)/\c.length<dG/\d=bu H a (.h<|og c k v)
def uX.k{k:fA}(e:H a=ai (.d kvs)):uX H a (lO k) (j_ kvs k):=.inl (kvs,k,.inl e,aa,aa)
def Em.k{k:fA}(e:H a=ai (.d kvs))(b:kvs.length<dG):Em H a (lO k) v (bu H a<|.d<|og kvs k v):=.inl (kvs,k,e,aa,b,aa)
section
variable{X:bA}{d:af (ax×cU)}{f:cw}{H:ay}{s:ba}{a:ax}{y v:aH}{u r:aB}{o:aJ aH}{A:fG}{E:aB->ba->Prop}
def aV.f8(I:aV X d f H s):qS<s.heap.objs.size:=by have h:iA<s.heap.objs.size:=(I.c5.b.keeps I.bk).lt;exact ZF ⋯ h
def acM(hu:A.units+1<nW)(I:aV X d f H s)(g:uX H a y o)(t:cy y u)(h:∀p,aV X d f H p->Q (.bool o.isSome) p):
  cf (bQ X.a2 X.w) A (jy .In u<|.ref a) Q E s:=by
 rcases g with⟨i,k,e,m,l⟩|⟨i,k,b,e,m,x,l⟩;subst m;obtain⟨z,j,C,c,n⟩:=AU I.a1 e;refine wpAny_in_of (yE t) j n.mapOf ?_;rw[<-(c.a0 k).a0,<-l];exact h _<|I.a4 _;subst m;cases(show u=iB b from t);obtain⟨z,j,B,c,n⟩:=AS I.a1 e;refine wpAny_in_heap (Hr hu) (AQ I.a1 x) j n ?_;have q:=(c.a0 k).a0;rw[HP]at q;rw[<-q,<-l];exact h _<|I.a4 _
def acL(hu:A.units+1<nW)(I:aV X d f H s)(g:uX H a y o)(t:cy y u)(h:∀p,aV X d f H p->Q (.bool (!o.isSome)) p):
  cf (bQ X.a2 X.w) A (jy .NotIn u<|.ref a) Q E s:=by
 rcases g with⟨i,k,e,m,l⟩|⟨i,k,b,e,m,x,l⟩;subst m;obtain⟨z,j,C,c,n⟩:=AU I.a1 e;refine wpAny_notIn_of (yE t) j n.mapOf ?_;rw[<-(c.a0 k).a0,<-l];exact h _<|I.a4 _;subst m;cases(show u=iB b from t);obtain⟨z,j,B,c,n⟩:=AS I.a1 e;refine wpAny_notIn_heap (Hr hu) (AQ I.a1 x) j n ?_;have q:=(c.a0 k).a0;rw[HP]at q;rw[<-q,<-l];exact h _<|I.a4 _
def IQ(I:aV X d f H s)(c:AZ (H a))(g:Dr a s.heap h')(h:∃q,h'.get? a=ai q)(j:hZ X.a2 X.w (bu H a ob) h' a ob):
  aV X d f (bu H a ob) {s with heap:=h',toks:=t'}:=
 I.c3 (x:=a) (e:=a) c (.inl aa) (λb q i z=>(g.2 b i).trans z) h j
def Qh(z:kvs.length<=dG)(c:(a==qS)=aw)(b:kI kvs vs)(e:h'.DictOf (mx P w) a vs): hZ P w H' h' a (.d kvs):=(z,c,vs,b,e)
def acJ(hu:A.units+1<nW)(I:aV X d f H s)(g:Em H a y v H')(G:cy y u)(J:cy v r)(h:∀F,aV X d f H' F->Q ⟨⟩ F):
  cf (bQ X.a2 X.w) A (qT (.ref a) u r) Q E s:=by
 rcases g with⟨m,k,e,B,l,C⟩|⟨m,k,b,e,B,L,l,C⟩;subst B C;obtain⟨z,x,N,i,D⟩:=Qg I.a1 e;have n:N.length<=dG:=by rw[<-i.a1];exact z
 have t:(og m k v).length<=dG:=by grind?[PM]
 refine wpAny_setItem_pairs (hsz:=n) (yE G) D λK j p=>h _ ?_;have O:∃q,K.get? a=ai q:=let(q,_,_,w,_):=j;(q,w);exact IQ I (by rw[e];exact xZ) p O<|Qh t x (i.a4 k J) j;subst B C;cases(show u=iB b from G);obtain⟨z,x,M,i,D⟩:=acG I.a1 e;have n:M.length<=dG:=by rw[<-NV i];exact z
 have t:(og m k v).length<=dG:=by grind?[PM]
 refine wpAny_setItem_heap (hsz:=n) (Hr hu) (AQ I.a1 L) D λK j p=>h _ ?_;obtain⟨q,U,V,w,T,S,R,_,P⟩:=j;refine IQ I (by rw[e];exact xZ) p (q,w) (t,x,_,(i.a3 k L J).a2 λc Y W=>?_,q,U,V,w,T,S,R,P);rw[aO<|ab1 W e (λz=>nomatch z)];symm
end
section
variable{X:bA}{c:af (ax×cU)}{d:cw}{H:ay}{s:ba}{a:ax}{b:af (fA×aH)}{k:fA}{u:aB}{A:fG}{E:aB->ba->Prop}
def acK(I:aV X c d H s)(e:H a=ai (.d b))(m:cy (lO k) u)(l:j_ b k=ai v)(y:more=[]\/∃x,more=[x])
  (h:∀g r,aV X c d (bu H a<|.d<|wH b k) r->cy v g->Q g r):cf (bQ X.a2 X.w) A (oX (.builtin "dict.pop") (.ref a::u::more)) Q E s:=by
 obtain⟨z,J,p,f,B⟩:=Qg I.a1 e;obtain⟨g,w,n⟩:=tw.a1 (v:=v) (o:=eR p k) (by rw[<-l];exact f.a0 k);have D:(keyPart u).isSome=ao:=by
  cases k with
  |inl i=>obtain⟨t,q⟩:=(show ∃t,u=wu i t from m);subst q;rfl
  |inr x=>obtain⟨t,q⟩:=(show ∃t,u=Dl x t from m);subst q;rfl
 have L:argsOk "dict.pop" (.ref a::u::more,[]):=by rcases y with q|⟨x,q⟩;subst q;exact PySem.F.args_dict_pop_2 _ _;subst q;exact PySem.F.args_dict_pop_3 _ _ _
 refine HB Za B.typeIs PySem.F.entry_dict_pop L (meets_dict_pop_there (mx X.a2 X.w) a (yE m) more y D) (p,g,B,by rw[<-f.a1];exact z,w,λK j C=>h g _ ?_ n);have G:∃q,K.get? a=ai q:=let(q,_,_,F,_):=j;(q,F);exact IQ I (by rw[e];exact xZ) C G<|Qh (fx (acH b k) z) J (f.a2 k) j
end
def Qy(i:bI):Prop:=∀b a,Hu i aw b a=NI [b,a] (Ag b a)
def aa4{T id:qQ}
  (hl:typeLookup (.type T) "__getitem__"=cA (ai<|.builtin id))(k:Qy slice)
  (h:cf (bQ prog w) A (bN value env) (λo d=>cf (bQ prog w) A (bN slice env) (λi a=>a.TypeIs o T/\cf (bQ prog w) A (Ag o i) Q E a) E d) E s):
  cf (bQ prog w) A (bN (.Subscript value slice pos) env) Q E s:=by
 refine Od<|nU h (λo d g=>nU g (λi a b=>?_) λ_ _ x=>x) λ_ _ x=>x;obtain⟨j,b⟩:=b;unfold Oa;refine eB ?_;rw[getitemInPython_of_ne j.not_modules];refine eB<|wpAny_specialOf j hl ?_;have e:cf (bQ prog w) A (Hu slice aw o i) (λr c=>cf (bQ prog w) A (letTemporaryGo value o r>>=λ_=>cA r) Q E c) E a:=by rw[k o i];exact wpAny_operating<|nU b (λr c f=>eB<|wpAny_letTemporaryGo<|gB f) λ_ _ x=>x
 first
  |exact gB<|eB e
  |exact wpAny_bind<|wpAny_pure<|wpAny_bind e
  |exact wpAny_bind e
def aaU(f d:cS):cS:=λb H Q=>f b H λy e=>d b e λx c=>∃a o,x=.c a/\uX c a y o/\Q (.e o.isSome) c
def aaS(f d:cS):cS:=λb H Q=>f b H λy e=>d b e λx c=>∃a o,x=.c a/\uX c a y o/\Q (.e (!o.isSome)) c
def abb(e i d:cS):hX:=λD b H=>d b H λv h=>e b h λx g=>i b g λy f=>∃a c,x=.c a/\Em f a y v c/\D.a b c
section
variable{X:bA}{o i e b:bI}{f c j:dj}{d ty k:cS}
def abN(hu:X.A.units+1<nW)(v:aA X i ty)(t:aA X o d):Jd X .In i o (aaU ty d):=by intro l s m H Q I h;refine bZ (v l s m H _ I h) λJ n (y,E,C,p,r)=>bZ (t l n m E _ C r) λu G (x,D,B,A,a,ov,w,g,q)=>?_;subst w;obtain rfl:u=iB a:=A;exact acM hu B g p λF z=>(.e ov.isSome,D,z,aa,q)
def abM(hu:X.A.units+1<nW)(v:aA X i ty)(t:aA X o d):Jd X .NotIn i o (aaS ty d):=by intro l s m H Q I h;refine bZ (v l s m H _ I h) λJ n (y,E,C,p,r)=>bZ (t l n m E _ C r) λu G (x,D,B,A,a,ov,w,g,q)=>?_;subst w;obtain rfl:u=iB a:=A;exact acL hu B g p λF z=>(.e (!ov.isSome),D,z,aa,q)
def abn(hu:X.A.units+1<nW)(F:aA X o d)(G:aA X i ty)(C:aA X b k)(E:fS b (ai<|.Subscript o i c) f.line X.a0=cA aw):
  cH X (.Assign [.Subscript o i c] b f) (abb d ty k):=by
 intro l s m H D I h;refine wpAny_Assign_Subscript (bZ (C l s m H _ I h) λr p (v,Q,N,t,B)=>bZ (F l p m Q _ N B) λu n (x,P,M,A,z)=>bZ (G l n m P _ M z) λT S (y,U,L,q,a,O,J,g,w)=>?_) E;subst J;obtain rfl:u=iB a:=A;exact acJ hu L g q t λR K=>(m,O,K,w)
end
def acI(h:bT)(a:qS<h.objs.size):hZ P w H (h.push {cls:=.type "dict",data:=.dict #[]}) h.objs.size (.d []):=(mW _,zQ.mpr<|dZ<|kY a,[],.nil,V4 h)
def aaT:cS:=λ_ H Q=>∀p,H p=aq->Q (.c p) (bu H p<|.d [])
section
variable{X:bA}{b:dj}
def abH:aA X (.Dict [] [] b) aaT:=λc s d H Q I h=>wpAny_Dict_empty (.c s.heap.objs.size,_,I.b5 (a:=s.heap.objs.size) (o:=.d []) (t':=s.toks) (λ_ _ q=>gN _ q) (b_ _)<|acI s.heap I.f8,aa,h _<|I.a1.a0<|b_ _)
end
structure Qz(X:bA)(o:bI)(m:aC)(apos:dj)(e:bI)(cpos:dj):Prop where
 c:ie o m X.a0 (bN o X.a0)=bN o X.a0
 a:((lH cpos (dC [e] X.a0)).all (λx=> !x.1)&&(pX cpos (pV [] X.a0)).all (λx=>x.1.isSome) &&aT (([e]:af bI).length+([]:af qV).length+(if([]:af qV).isEmpty then 0 else 1)<30))=ao
 b:(apos.endLine==cpos.line)=ao
 d:lH cpos (dC [e] X.a0)=[(aw,bN e X.a0)]
structure Je(X:bA)(o:bI)(m:aC)(apos:dj)(e f:bI)(cpos:dj):Prop where
 b:ie o m X.a0 (bN o X.a0)=bN o X.a0
 d:((lH cpos (dC [e,f] X.a0)).all (λx=> !x.1)&&(pX cpos (pV [] X.a0)).all (λx=>x.1.isSome) &&aT (([e,f]:af bI).length+([]:af qV).length+(if([]:af qV).isEmpty then 0 else 1)<30))=ao
 a:(apos.endLine==cpos.line)=ao
 c:lH cpos (dC [e,f] X.a0)=[(aw,bN e X.a0),(aw,bN f X.a0)]
def Jh(H:ay)(a:ax):Prop:=(∃b,pA H a<|.d b)\/∃b,pA H a<|.h b
def PY(I:aV X pins σ H s)(d:Jh H a):
  s.TypeIs (.ref a) "dict"/\(∀b,iB a=.ref b->∃c,s.heap.get? b=ai c/\c.dict=aq)/\(a==qS)=aw:=by
 rcases d with⟨g,e⟩|⟨g,e⟩;obtain⟨_,h,l,_,f⟩:=AU I.a1 e;refine(f.typeIs,λb q=>?_,h);cases q;obtain⟨c,_,_,j,i,_⟩:=f;exact(c,j,i.2.1);obtain⟨_,h,k,_,f⟩:=AS I.a1 e;refine(f.typeIs,λb q=>?_,h);cases q;obtain⟨c,_,_,j,i,_⟩:=f;exact(c,j,i.2.1)
section
variable{X:bA}{c:af (ax×cU)}{f:cw}{H:ay}{s:ba}{a:ax}{y d:aH}{u r:aB}{o:aJ aH}{A:fG}{E:aB->ba->Prop}
def acN(hu:A.units+1<nW)(I:aV X c f H s)(g:uX H a y o)(v:cy y u)(x:cy d r)(h:∀q t,aV X c f H t->cy (o.getD d) q->Q q t):
  cf (bQ X.a2 X.w) A (oX (.builtin "dict.get") [.ref a,u,r]) Q E s:=by
 rcases g with⟨m,k,e,p,l⟩|⟨m,k,b,e,p,C,l⟩;subst p;obtain⟨z,n,D,i,j⟩:=AU I.a1 e;refine HB Du j.typeIs NZ (N' _ _ _) (Yw (mx X.a2 X.w) a (yE v) n r) (_,j.mapOf,h _ _ (I.a4 _) ?_);rw[l];exact(i.a0 k).a2 x;subst p;cases(show u=iB b from v);obtain⟨z,n,B,i,j⟩:=AS I.a1 e;refine HB Du j.typeIs NZ (N' _ _ _) (meetsH_dict_get_default (Ae<|mx X.a2 X.w) a b n r) (Hr hu,k,B,AQ I.a1 C,j,h _ _ (I.a4 _) ?_);rw[l];exact(i.a0 k).a2 x
end
def aaV(f h e:cS):cS:=λb H Q=>f b H λx d=>∃a,x=.c a/\Jh d a/\h b d λy g=>e b g λz c=>∃o,uX c a y o/\Q (o.getD z) c
def aaR(f g:cS):cS:=λc H Q=>f c H λx e=>∃a,x=.c a/\Jh e a/\g c e λy d=>∃b k v,d a=ai (.d b)/\y=lO k/\j_ b k=ai v/\Q v (bu d a<|.d<|wH b k)
section
variable{X:bA}{o e f:bI}{b c:dj}{i ty j:cS}
def abI(hu:X.A.units+1<nW)(G:aA X o i)(K:aA X e ty)(J:aA X f j)(m:Je X o "get" b e f c):aA X (.Call (.Attribute o "get" b) [e,f] [] c) (aaV i ty j):=by intro k s l H Q I h;refine NA m.b m.d m.a NY Du YY<|bZ (G k s l H _ I h) λu v (x,S,p,A,a,L,d,E)=>?_;subst L;obtain rfl:u=iB a:=A;obtain⟨r,q,_⟩:=PY p d;refine(r,q,?_);rw[m.c];refine Dx aa<|HM<|Aq<|bZ (K k v l S _ p E) λW t (y,R,O,B,D)=>Aq<|bZ (J k t l R _ O D) λY V (z,P,N,w,ov,g,C)=>HL ?_;exact acN hu N g B w λT U M n=>(_,P,M,n,C)
def abG(ho:aA X o i)(D:aA X e ty)(m:Qz X o "pop" b e c):aA X (.Call (.Attribute o "pop" b) [e] [] c) (aaR i ty):=by intro g s p H Q I h;refine NA m.c m.a m.b NY Za PySem.F.type_dict_pop<|bZ (ho g s p H _ I h) λu w (x,M,q,F,a,G,d,B)=>?_;subst G;obtain rfl:u=iB a:=F;obtain⟨t,r,_⟩:=PY q d;refine(t,r,?_);rw[m.d];refine Dx aa<|HM<|Aq<|bZ (D g w p M _ q B) λR P (y,S,L,z,C,k,v,J,E,l,A)=>HL ?_;subst E;exact acK L J z l (.inl aa) λN O K n=>(v,_,K,n,A)
end
def ac0:lG "reversed"=ai (.type "reversed"):=⋯
section
variable{X:bA}{a:af (ax×cU)}{f:cw}{H:ay}{s:ba}{d:bT}
def aV.f4{ch:af ax}(I:aV X a f H s)(k:∀b o,b∉ch->s.heap.get? b=ai o->d.get? b=ai o)(g:∀b∈ch,qh X a H b):aV X a f H {s with heap:=d,toks:=t'}:=by
 have j:∀b u,H b=ai u->b∉ch:=λb u e z=>by have q:=(g b z).1;rw[q]at e;cases e
 refine I.c4 (g':=s.gens) (d':=s.drawn) (ch:=ch) (λb i=>((g b i).2.2.2.1,(g b i).2.1,(g b i).2.2.2.2.1,(g b i).2.2.2.2.2)) (λb o _ _ h e _=>k b o h e) (λb o _ _ h e _=>(o.slots,k b o h e)) (λ_ _ _ _ n=>n) (λb o h e=>(o,k b o h e)) (λ_ _ e=>e) (λ_ _ _ e=>e) (λb x e=>(#[],by rw[e];rfl)) (λm p=>?_) (λb u e=>?_) I.a9;obtain⟨o,t,w,l,r⟩:=p;exact(o,t,w,k _ o (λz=>(g _ z).2.1 aa) l,r);refine(I.a1 b u e).a0 (λc v h q=>k c v ?_ q) (λ_ q=>q) λ_ _ q=>q;grind
def aV.c8{ch:af ax}(I:aV X a f H s)(k:∀b o,b∉ch->s.heap.get? b=ai o->d.get? b=ai o)(g:∀b∈ch,qh X a H b)(l:s.heap.objs.size<=T)
  (new:hZ X.a2 X.w (bu H T ob) d T ob):aV X a f (bu H T ob) {s with heap:=d,toks:=t'}:=by
 have j:H T=aq:=I.a1.a0 l;have t:∀b u,H b=ai u->b∉ch:=λb u e z=>by have q:=(g b z).1;rw[q]at e;cases e
 refine I.c4 (g':=s.gens) (d':=s.drawn) (ch:=ch) (λb i=>((g b i).2.2.2.1,(g b i).2.1,(g b i).2.2.2.2.1,(g b i).2.2.2.2.2)) (λb o _ _ h e _=>k b o h e) (λb o _ _ h e _=>(o.slots,k b o h e)) (λb o _ e n=>?_) (λb o h e=>(o,k b o h e)) (λb p e=>?_) (λb o u e=>?_) (λb C e=>(#[],?_)) (λm y=>?_) (λb u e=>?_) I.a9;rw[aO<|kY<|gX (eU e) l];exact n;rw[aO<|lN e j];exact e;rw[aO<|lN e j];exact e;rw[aO<|lN e j,e];rfl;obtain⟨o,A,B,x,r⟩:=y;exact(o,A,B,k _ o (λz=>(g _ z).2.1 aa) x,r);by_cases i:b=T;(simp_all[bO]);rw[aO i]at e;refine(I.a1 b u e).a0 (λc v h q=>k c v ?_ q) (λc q=>by rw[aO<|lN q j];exact q) λc p q=>by rw[aO<|lN q j];exact q
 grind
end
section
variable{X:bA}
def DW(I:aV X pins σ H s)(o:cU)
  (T:qd X.a2 X.w X.K tg J [s.heap.objs.size] s.heap.objs.size tn)(a:tn 0 (s.heap.push o))(q:R J H):Jc X pins σ tg R (.ref s.heap.objs.size) {s with heap:=s.heap.push o,toks:=tk}:=by
 refine(s.heap.objs.size,[s.heap.objs.size],tn,J,H,aa,I.a7 λb d e=>gN _ e,T,a,λb c=>?_,q);have e:b=s.heap.objs.size:=by simpa using c
 subst e;exact I.b6 (b_ _)<|I.a1.a0<|b_ _
end
def QG(a c:ah)(n:ag):my:=(λi _=>i<n,λi H x b=>b=H/\x=.d (a+(i:ag)*c),λi _=>n<=i)
def aat{P:cn}{w:bS}{K:aZ}{L:bI}(f:ax)(l c:ah)(n:ag):qd P w K L (QG l c n) [f] f (λi h=>HH h f (l+(i:ag)*c) ((n:ah)-(i:ag)) c) where
 g:=(_)
 a:=λi h a b g=>by
  have e:b=f:=by simpa using g
  subst e;exact(_,a,λv z=>nomatch z)
 c:=λi h p a k=>k f (_) _ a
 d:=by intro X u S x r i d s G H E I m a q;subst u S x;obtain⟨F,D,N,C,B,y⟩:=m f (_);have W:=YE (prog:=X.a2) (w:=X.w) (I.ok.hd r) f l c n;refine W.item i s _ _ q a λv p J M j T=>?_;obtain⟨t,rfl⟩:=M;have R:aV X d G H {s with heap:=p,toks:=J}:=I.a5 (λb o g e=>T b o (by simpa using g) e) F D C B y;exact(_,aa,yF (s:={s with heap:=p,toks:=J}) (n:="range_iterator") j aa aa ⋯ (.d<|l+(i:ag)*c,H,R,(t,aa),(aa,aa),j,λb g=>(m b g).1))
 e:=by intro X u S x r i d s G H E I m a q;subst u S x;obtain⟨F,D,N,C,B,y⟩:=m f (_);exact Ye (I.ok.hd r) a (by have:n<=i:=q;lia) λp O=>(aa,I.a5 (t':=s.toks) (λb o g e=>O b o g e) F D C B y)
 f:=λA i s Q E a h=>Yk a h
def Qw(i j c:ah)(n:ag):Prop:=c≠0/\c.natAbs<1073741824/\N_ i j c=ao/\Ar i j c=n
def acp(ta:iD):oo:=λa H R=>ta a H λb d=>∃(i j c:ah) (n:ag),b=[.d i,.d j,.d c]/\Qw i j c n/\R (QG i c n) d
section
variable{X:bA}{d:bI}
def abx(hg:dn X "range")(B:X.mg "range"=aq)(P:eW X [a,b,c] ta)
  (hs:dC [a,b,c] X.a0=(aw,bN a X.a0)::dC [b,c] X.a0|>1)(v:(lH pos<|dC [b,c] X.a0).any (·.1)=aw|>1):
  fz X d (.Call (.Name "range" p) [a,b,c] [] pos) (acp ta):=by
 intro f s w H R I h;refine Av<|tu I hg B Ob<|yl (bZ (P pos f s w H _ I h) λO l (N,M,L,y,A)=>?_) hs v;obtain⟨i,j,k,n,e,⟨J,G,F,E⟩,q⟩:=A;subst e;cases y using X4 with|cons r g=>
  cases g using X4 with|cons z g=>
   cases g using X4 with|cons u g=>
    cases g;obtain⟨t,rfl⟩:=r;obtain⟨x,rfl⟩:=z;obtain⟨m,rfl⟩:=u;refine call_range_3 J ?_<|.inl<|PyProof.noPylong_small G;refine Yl (YU ..) F ?_;have K:aV X f w M {l with heap:=l.heap.push {cls:=.type "range",data:=.fields #[.int i t,.int j x,.int k m]}}:=L.a7 (t':=l.toks) λb o e=>gN _ e;refine DW (tk:=l.toks) K _ (aat _ i k n) ?_ q;have D:i+((0:ag):ah)*k=i:=¬_;have C:(n:ah)-((0:ag):ah)=Ar i j k:=by rw[E];rfl
    show HH _ _ (i+((0:ag):ah)*k) ((n:ah)-((0:ag):ah)) k;rw[D,C];exact jb _ aa
end
def QB(K:aZ)(a:ax)(n:ag):my:=(λi H=>i<n/\∃(b:af aH) (x:aH),dX K H a b/\b[n- 1- i]?=ai x,λi H x c=>c=H/\∀b,dX K H a b->b[n- 1- i]?=ai x,λi _=>n<=i)
def aas{P:cn}{w:bS}{K:aZ}{T:bI}(a m:ax)(n:ag):qd P w K T (QB K a n) [m] m (λi h=>i<=n/\h.IsRevIter m a ((n:ah)- 1-(i:ag))) where
 g:=(_)
 a:=λi h g b q=>by
  have e:b=m:=by simpa using q
  subst e;obtain⟨_,o,e,c,d⟩:=g;exact(o,e,λv z=>by rw[d]at z;cases z)
 c:=λi h y g k=>(g.1,g.2.at λo e=>k m (_) o e)
 d:=by intro X C W D S i j s O H E I t g B;subst C W D;obtain⟨r,xs,x,hq,R⟩:=B;obtain⟨Z,V,p,hz⟩:=I.a3 hq;obtain⟨u,hu,Y⟩:=V.a1 R;obtain⟨M,L,f2,J,G,F⟩:=t m (_);obtain⟨_,f⟩:=g;have N:(n:ah)- 1-((i:ag):ah)=((n- 1- i:ag):ah):=!_;rw[N]at f;refine wpAny_pyNext_rev_item f p.isList (x:=u) (by simpa using hu) λy l U=>?_;have e2:((n- 1- i:ag):ah)- 1=(n:ah)- 1-((i+1:ag):ah):=!_;rw[e2]at l;have I1:aV X j O H {s with heap:=y}:=I.a5 (t':=s.toks) (λb o q e=>(U.2 b q).trans e) M L J G F;obtain⟨o,e,c,d⟩:=id l;exact(u,aa,yF (s:={s with heap:=y}) e c d ⋯ (x,H,I1,Y,(aa,λys hy=>by rw[I.c1 hy hq];exact R),(r,l),λb q=>(t b q).1))
 e:=by intro X C W D S i j s O H E I t g B;subst C W D;obtain⟨M,L,f2,J,G,F⟩:=t m (_);obtain⟨r,f⟩:=g;have g0:n<=i:=B;have N:(n:ah)- 1-((i:ag):ah)= -1:=!_;rw[N]at f;exact wpAny_pyNext_rev_end (I.ok.hd S) f λy eb=>(aa,I.a5 (t':=s.toks) (λb o q e=>eb b o q e) M L J G F)
 f:=λA i s Q E g h=>Yj g.2 h
def acr(K:aZ)(f:iD):oo:=λd H R=>f d H λe c=>∃(a:ax) (b:af aH),e=[.c a]/\dX K c a b/\R (QB K a b.length) c
section
variable{X:bA}{b:bI}
def abw(hg:dn X "reversed")(w:X.mg "reversed"=aq)(E:eW X [e] ta)(v:dC [e] X.a0=[(aw,bN e X.a0)]|>1):fz X b (.Call (.Name "reversed" p) [e] [] pos) (acr X.K ta):=by
 intro c s j H R I h;refine Av<|tu I hg w ac0<|yl (bZ (E pos c s j H _ I h) λz k (y,C,g,o,t)=>?_) v aa;obtain⟨a,f,e,D,q⟩:=t;subst e;cases o using X4 with|cons r n=>cases n;cases r;obtain⟨d,m,u,A⟩:=g.a3 D;have B:=m.a0;have x:((d.toArray.size:ag):ah)- 1=(f.length:ah)- 1-((0:ag):ah):=∅;refine call_reversed_list u.isList<|Yj (l:=a) (i:=((d.toArray.size:ag):ah)- 1) (_,jb _ aa,aa,aa) ?_;refine DW (tk:=k.toks) g _ (aas a _ f.length) (mW _,?_) q;rw[<-x];exact(_,jb _ aa,aa,aa)
end
def QD(x:aC):my:=(λi _=>i<x.cps.size,λi H v a=>a=H/\∃c,x.cps[i]?=ai c/\v=.g ⟨#[c]⟩,λi _=>x.cps.size<=i)
def OO{P:cn}{w:bS}{K:aZ}{U:bI}(f:ax)(x:aC)(t:tm)(ty:qQ)(g:ty="str_ascii_iterator"\/ty="str_iterator"):
  qd P w K U (QD x) [f] f (λi h=>h.IsStrIter f ty x t i) where
 g:=(_)
 a:=λi h a b j=>by
  have e:b=f:=by simpa using j
  subst e;obtain⟨o,e,c,d⟩:=a;exact(o,e,λv z=>by rw[d]at z;cases z)
 c:=λi h p a k=>let(o,Y,r):=a;(o,k f (_) o Y,r)
 d:=by
  intro X M hw N n i l s R H E I q a J;subst M hw N;obtain⟨F,D,Z,C,B,y⟩:=q f (_);have W:Walks X.a2 X.w X.A f [f] [f] x.cps.size (SignAt x) (λi h=>h.IsStrIter f ty x t i):=by
   rcases g with e|e;·rw[e];exact Walks.strAscii (I.ok.hd n) f x t
   ·rw[e];exact Walks.strWide (I.ok.hd n) f x t
  have G:["enumerate","zip","dict_itemiterator","dict_reverseitemiterator","odict_iterator","itertools.zip_longest","itertools.pairwise"].contains ty=aw:=by
   rcases g with e|e;·rw[e];decide
   ·rw[e];decide
  refine W.item i s _ _ J a λv p S V m kk=>?_;obtain⟨c,u,L,rfl⟩:=V;have I1:aV X l R H {s with heap:=p,toks:=S}:=I.a5 (λb o j e=>kk b o (by simpa using j) e) F D C B y;obtain⟨oi,e,cc,dd⟩:=id m;exact(_,aa,yF (s:={s with heap:=p,toks:=S}) e cc dd G (.g ⟨#[c]⟩,H,I1,(u,aa),(aa,c,L,aa),m,λb j=>(q b j).1))
 e:=by
  intro X M hw N n i l s R H E I q a J;subst M hw N;obtain⟨F,D,Z,C,B,y⟩:=q f (_);have T:x.cps[i]?=aq:=Array.getElem?_eq_none J;rcases g with e|e;·rw[e]at a;exact wpAny_pyNext_ascii_end (I.ok.hd n) a T λp O=>(aa,I.a5 (t':=s.toks) (λb o j e=>O b o j e) F D C B y)
  ·rw[e]at a;exact wpAny_pyNext_wide_end (I.ok.hd n) a T λp O=>(aa,I.a5 (t':=s.toks) (λb o j e=>O b o j e) F D C B y)
 f:=λA i s Q E a h=>by
  rcases g with e|e;·rw[e]at a;exact wpAny_pyIter_striter_ascii a h
  ·rw[e]at a;exact wpAny_pyIter_striter_wide a h
def aco(te:cS):oo:=λa H R=>te a H λv b=>∃x,v=.g x/\R (QD x) b
def abv(he:aA X e te):fz X tg e (aco te):=by intro a s d H R I h;refine bZ (he a s d H _ I h) λv b (y,i,c,f,x,g,q)=>?_;subst g;obtain⟨t,rfl⟩:=f;cases j:x.cps.all (· <128);exact wpAny_pyIter_wide j<|DW (tk:=b.toks) c _ (OO _ x t "str_iterator"<|.inr aa) (_,jb _ aa,aa,aa) q;exact wpAny_pyIter_ascii j<|DW (tk:=b.toks) c _ (OO _ x t "str_ascii_iterator"<|.inl aa) (_,jb _ aa,aa,aa) q
def QF(K:aZ)(a:ax):my:=(λi H=>∃(b:af aH) (x:aH),dX K H a b/\b[i]?=ai x,λi H v c=>∃T x,v=.c T/\H T=aq/\c=bu H T (.b [.d (i:ag),x])/\∀b,dX K H a b->b[i]?=ai x,λi H=>∃b:af aH,dX K H a b/\b.length<=i)
def aaw{P:cn}{w:bS}{K:aZ}{C:af bI}{kk:ag}{t:dj}(a e f:ax):
  qd P w K (.Tuple C kk t) (QF K a) [e,f] e (λi h=>(∃c,Dq h e f ((i:ag):ah) c)/\h.IsListIter f a i/\e≠f) where
 g:=(_)
 a:=λi h l b j=>by
  obtain⟨⟨c,g⟩,⟨o,M,S,hd⟩,_⟩:=l;have e':b=e\/b=f:=by simpa using j
  rcases e' with z|z;·rw[z];exact(_,g,λv q=>nomatch q)
  ·rw[z];exact(o,M,λv q=>by rw[hd]at q;cases q)
 c:=λi h Z l k=>let((c,g),hi,d):=l;((c,k e (_) _ g),hi.at λo q=>k f (_) o q,d)
 d:=by
  intro X V hw Y S i n s σ H E I D l O;subst V hw Y;obtain⟨⟨c,g⟩,m,d⟩:=l;obtain⟨xs,x,W,L⟩:=O;obtain⟨J,G,p,hz⟩:=I.a3 W;obtain⟨u,hu,ru⟩:=G.a1 L;have B:e<s.heap.objs.size:=eU g;have N:f<s.heap.objs.size:=by obtain⟨_,q,_⟩:=m;exact eU q
  refine wpAny_pyNext_enum_item g m p.isList (x:=u) (by simpa using hu) d λZ M y hT g1 hk=>?_;refine(_,aa,Ny (s:={s with heap:=Z,toks:=s.toks+1}) M λr R F=>?_);have U:r.get? s.heap.objs.size=ai {cls:=.type "tuple",data:=.seq #[.int i s.toks,u]}:=(F.2 _<|DA B).trans hT;have g0:hZ X.a2 X.w (bu H s.heap.objs.size<|.b [.d (i:ag),x]) r s.heap.objs.size (.b [.d (i:ag),x]):=(by show 2<=dG;decide,[.int i s.toks,u],.cons (_,aa)<|.cons ru .nil,(_,U,aa,_,aa));have I1:aV X n σ (bu H s.heap.objs.size<|.b [.d (i:ag),x]) {s with heap:=r,toks:=s.toks+1}:=I.c8 (ch:=[e,f]) (λb ob j q=>(F.2 b<|λz=>j (by nofun)).trans<|hk b ob (λz=>j (by nofun)) (λz=>j (by nofun)) q) D (b_ _) g0;refine(.c s.heap.objs.size,_,I1,aa,(_,x,aa,I.a1.a0<|b_ _,aa,λys hy=>by rw[I.c1 hy W];exact L),((u,?_),y.at λo q=>(F.2 f<|dZ d).trans q,d),λb j=>?_);·have e1:((i+1:ag):ah)=(i:ah)+1:=aa;rw[e1];exact R
  ·have T:b<s.heap.objs.size:=by
    have e':b=e\/b=f:=by simpa using j
    rcases e' with z|z;·rw[z];exact B
    ·rw[z];exact N
   rw[aO<|kY T];exact(D b j).1
 e:=by intro X V hw Y S i n s σ H E I D l O;subst V hw Y;obtain⟨⟨c,g⟩,m,d⟩:=l;obtain⟨xs,W,L⟩:=O;obtain⟨J,G,p,hz⟩:=I.a3 W;obtain⟨f0,f1,f2,f3,f4,f5⟩:=D f (_);have hl:=G.a0;exact wpAny_pyNext_enum_end (I.ok.hd S) g m p.isList (by simp;nofun) λZ eb=>(aa,I.a5 (t':=s.toks) (λb o j q=>eb b o j q) f0 f1 f3 f4 f5)
 f:=λA i s Q E l h=>let((_,g),_):=l;Ad g h
def acu(K:aZ)(f:iD):oo:=λc H R=>f c H λe b=>∃a d,e=[.c a]/\dX K b a d/\R (QF K a) b
def abA(hg:dn X "enumerate")(x:X.mg "enumerate"=aq)(M:eW X [e] ta)(w:dC [e] X.a0=[(aw,bN e X.a0)]|>1):
  fz X (.Tuple elts kk tpos) (.Call (.Name "enumerate" p) [e] [] pos) (acu X.K ta):=by
 intro d s j H R I h;refine Av<|tu I hg x Oc<|yl (bZ (M pos d s j H _ I h) λF c (E,l,g,n,o)=>?_) w aa;obtain⟨a,D,B,K,q⟩:=o;subst B;cases n using X4 with|cons r m=>
  cases m;cases r;obtain⟨u,G,t,J⟩:=g.a3 K;refine call_enumerate_list t.isList λA k i v y=>Ad k ?_;have C:aV X d j l {c with heap:=A}:=g.a7 (t':=c.toks) y;refine(c.heap.objs.size+1,[c.heap.objs.size+1,c.heap.objs.size],_,_,l,aa,C,aaw a (c.heap.objs.size+1) c.heap.objs.size,((.none,k),i,Og _),λb z=>?_,q);have L:b=c.heap.objs.size+1\/b=c.heap.objs.size:=by simpa using z
  have f:c.heap.objs.size<=b:=();exact g.b6 f<|g.a1.a0 f
def acZ:lG "zip"=ai (.type "zip"):=⋯
def QA(K:aZ)(a b:ax):my:=(λi H=>∃(d c:af aH) (x y:aH),dX K H a d/\dX K H b c/\d[i]?=ai x/\c[i]?=ai y, λi H v e=>∃T x y,v=.c T/\H T=aq/\e=bu H T (.b [x,y])/\(∀d,dX K H a d->d[i]?=ai x)/\∀c,dX K H b c->c[i]?=ai y, λi H=>∃d c:af aH,dX K H a d/\dX K H b c/\(d.length<=i\/c.length<=i))
def aaq{P:cn}{w:bS}{K:aZ}{V:af bI}{kk:ag}{O:dj}{a b z TI W n m:ax}(D:ZipApart z TI W n m a b):
  qd P w K (.Tuple V kk O) (QA K a b) [z,TI,W,n,m] z (λi h=>IsZip h z TI W .none/\IsPair h TI (.ref n) (.ref m)/\(∃x y,IsPair h W x y)/\h.IsListIter n a i/\h.IsListIter m b i) where
 g:=(_)
 a:=λi h j c hc=>by
  obtain⟨F,d,⟨x,y,f⟩,⟨o1,e1,_,d1⟩,⟨o2,e2,_,d2⟩⟩:=j;have e':c=z\/c=TI\/c=W\/c=n\/c=m:=by simpa using hc
  rcases e' with q|q|q|q|q;·rw[q];exact(_,F,λv q=>nomatch q)
  ·rw[q];exact(_,d,λv q=>nomatch q)
  ·rw[q];exact(_,f,λv q=>nomatch q)
  ·rw[q];exact(o1,e1,λv q=>by rw[d1]at q;cases q)
  ·rw[q];exact(o2,e2,λv q=>by rw[d2]at q;cases q)
 c:=λi h h' j k=>by obtain⟨F,d,⟨x,y,f⟩,N,M⟩:=j;exact(k z (_) _ F,k TI (_) _ d,(x,y,k W (_) _ f),N.at λo q=>k n (_) o q,M.at λo q=>k m (_) o q)
 d:=by
  intro X hP hw hK hc i B s σ H E I hf j hg;subst hP hw hK;obtain⟨F,d,⟨x0,y0,f⟩,N,M⟩:=j;obtain⟨xs,ys,x,y,t,r,hx,hy⟩:=hg;obtain⟨R,rv,p,_⟩:=I.a3 t;obtain⟨C,G,p2,_⟩:=I.a3 r;obtain⟨u,hu,ru⟩:=rv.a1 hx;obtain⟨Y,g3,g1⟩:=G.a1 hy;have S:z<s.heap.objs.size:=eU F;refine wpAny_pyNext_zip_item D F d f N M p.isList p2.isList (x:=u) (y:=Y) (by simpa using hu) (by simpa using g3) λh' z' g8 g7 g6 hT g9 Z=>?_;refine(_,aa,wpAny_letOwnedTupleGo_zip (s:={s with heap:=h'}) z' λJ g0 L=>?_);have g5:J.get? s.heap.objs.size=ai {cls:=.type "tuple",data:=.seq #[u,Y]}:=(L.2 _<|DA S).trans hT;have g2:hZ X.a2 X.w (bu H s.heap.objs.size<|.b [x,y]) J s.heap.objs.size (.b [x,y]):=(by show 2<=dG;decide,[u,Y],.cons ru<|.cons g1 .nil,(_,g5,aa,_,aa));have I1:aV X B σ (bu H s.heap.objs.size<|.b [x,y]) {s with heap:=J}:=I.c8 (t':=s.toks) (ch:=[z,TI,W,n,m]) (λc o g q=>(L.2 c<|λe=>g (by nofun)).trans<|Z c o (λe=>g (by nofun)) (λe=>g (by nofun)) (λe=>g (by nofun)) (λe=>g (by nofun)) q) hf (b_ _) g2;refine(.c s.heap.objs.size,_,I1,aa,(_,x,y,aa,I.a1.a0<|b_ _,aa,λl hl=>by rw[I.c1 hl t];exact hx,λl hl=>by rw[I.c1 hl r];exact hy),(g0,?_,(u,Y,?_),?_,?_),λc U=>?_);·exact(L.2 _ D.TIz).trans<|Z _ _ D.TIz D.TITO D.TIi1 D.TIi2 d
  ·exact(L.2 _ D.TOz).trans g8
  ·exact g7.at λo q=>(L.2 _ D.i1z).trans q
  ·exact g6.at λo q=>(L.2 _ D.i2z).trans q
  ·have g4:c<s.heap.objs.size:=by
    have e':c=z\/c=TI\/c=W\/c=n\/c=m:=by simpa using U
    rcases e' with q|q|q|q|q;·rw[q];exact S
    ·rw[q];exact eU d
    ·rw[q];exact eU f
    ·rw[q];obtain⟨_,e1,_⟩:=N;exact eU e1
    ·rw[q];obtain⟨_,e2,_⟩:=M;exact eU e2
   rw[aO<|kY g4];exact(hf c U).1
 e:=by
  intro X hP hw hK hc i B s σ H E I hf j hg;subst hP hw hK;obtain⟨F,d,⟨x0,y0,f⟩,N,M⟩:=j;obtain⟨xs,ys,t,r,T⟩:=hg;obtain⟨R,rv,p,_⟩:=I.a3 t;obtain⟨C,G,p2,_⟩:=I.a3 r;have l1:=rv.a0;have l2:=G.a0;have he:R.toArray[i]?=aq\/C.toArray[i]?=aq:=by
   rcases T with q|q;·exact .inl (by simp;nofun)
   ·exact .inr (by simp;nofun)
  exact wpAny_pyNext_zip_end (I.ok.hd hc) D F d f N M p.isList p2.isList he λh' Z=>(aa,I.f4 (t':=s.toks) (ch:=[z,TI,W,n,m]) (λc o g q=>Z c o (λe=>g (by nofun)) (λe=>g (by nofun)) (λe=>g (by nofun)) (λe=>g (by nofun)) q) hf)
 f:=λA i s Q E j h=>Yh j.1 h
def acm(K:aZ)(h:iD):oo:=λd H R=>h d H λg c=>∃a b f e,g=[.c a,.c b]/\dX K c a f/\dX K c b e/\R (QA K a b) c
def Pr(hg:dn X "zip")(L:X.mg "zip"=aq)(K:eW X [e,e2] ta)
  (hs:eI X e [e2]|>1)(m:eG X pos [e2]|>1):
  fz X (.Tuple elts kk tpos) (.Call (.Name "zip" p) [e,e2] [] pos) (acm X.K ta):=by
 intro f s u H R I h;refine Av<|tu I hg L acZ<|yl (bZ (K pos f s u H _ I h) λY d (V,z,i,B,D)=>?_) hs m;obtain⟨a,b,U,T,Q,l,k,q⟩:=D;subst Q;cases B using X4 with|cons r j=>
  cases j using X4 with|cons C j=>
   cases j;cases r;cases C;obtain⟨G,Z,w,_⟩:=i.a3 l;obtain⟨x,A,v,_⟩:=i.a3 k;have F:a<d.heap.objs.size:=w.lt;have E:b<d.heap.objs.size:=v.lt;refine call_zip_2 w.isList v.isList λP y t o O N J M=>Yh y ?_;have S:aV X f u z {d with heap:=P}:=i.a7 (t':=d.toks) M;refine(d.heap.objs.size+4,[d.heap.objs.size+4,d.heap.objs.size+2,d.heap.objs.size+3,d.heap.objs.size,d.heap.objs.size+1],_,_,z,aa,S,aaq<|PySem.W.ktu_apart d.heap.objs.size a b F E,(y,t,(_,_,o),O,N),λc n=>?_,q);have W:c=d.heap.objs.size+4\/c=d.heap.objs.size+2\/c=d.heap.objs.size+3\/c=d.heap.objs.size\/c=d.heap.objs.size+1:=by simpa using n
   have g:d.heap.objs.size<=c:=();exact i.b6 g<|i.a1.a0 g
def rZ(s:du)(j:ag):du:=match s with|.ClassDef _ _ _ a _ _ _ _ _ _ _=>a.getD j (.Pass (0,0,0,0))|_=>.Pass (0,0,0,0)
def pw(s:du):Arguments:=match s with|.FunctionDef _ a _ _ _ _ _ _ _ _=>a|_=>{posonlyargs:=[],args:=[],vararg:=aq,kwonlyargs:=[],kw_defaults:=[],kwarg:=aq,defaults:=[]}
def iQ(s:du):af du:=match s with|.FunctionDef _ _ b _ _ _ _ _ _ _=>b|_=>[]
def bf(s:du):nY:=match s with|.FunctionDef _ _ _ _ _ _ a _ _ _=>a|_=>{kind:=.function,names:=[],isGenerator:=aw,isCoroutine:=aw}
abbrev kb:uY:=λ_ _ _ _ _ _=>eo
abbrev QH:jC:=λ_ _ _=>eo
def mZ:yJ kb X QH:=λ_ _ _ _ _ _ _ h=>h.elim
structure wI(K:aZ)(x qual:aC)(st:du)(f:ax)(fd:jY):Prop where
 ex:∃(oc:aB) (od:aJ ax) (kV doc pm:aB) (an:aJ ax) (cdv ct:aB) (osl:kS (aJ aB)), fd=nX x qual (pw st) (iQ st) (bf st) .none kV doc pm an cdv ct/\K.lookup f=ai (oc,od,.func fd,osl)/\Dj K cdv qual=ao
 kp:mr K (.ref f)=ao
section
variable{K:aZ}
def wI.ok{g:du}(F:wI K x qual g f fd)(S:bW N ps (bf g))(B:∀e H Q E,sp e H Q E->e.length=ps.length)
  (hbody:∀(d:aB) (A:fG) (c:af ig) (s:ba) (H:ay) (e:af aH) (Q:dw) (E:jC),dy k (A.deeper<|tp qual (bf g) s.heap.objs.size f d)->sp e H Q E->
   ∃t,bg (uV kb P w K b a N qual (bf g) f d A c s H E).b9 (iQ g) t/\t {a:=λ_ p=>Q .f p,b:=Q} (pj N e) H):gR P w K b a kb (k+1) f fd ps sp:=by
 obtain⟨v,u,C,o,r,z,d,y,l,rfl,m,j⟩:=F.ex;refine acE m j S B λA c s H e Q E n i=>?_;obtain⟨t,h,q⟩:=hbody d A c s H e Q E n i;exact(t,h.a0,q)
def wI.a1{e:du}(F:wI K x qual e f fd)
  (h:∀(a c i:aB) (k:aJ ax) (d j:aB) (g:af aB),g.length=ps.length->uy (nX x qual (pw e) (iQ e) (bf e) .none a c i k d j) (g,[])=cA (ps.zip g)):la K fd ps []:=by
 obtain⟨o,n,a,c,i,k,d,j,l,rfl,p,m⟩:=F.ex;exact .a0<|h a c i k d j
def Qb{e:du}{a g h d i:aB}(l:K.lookup f=ai (oc,od,.func<|nX x qual (pw e) (iQ e) (bf e) .none a g h an d i,osl)) (c:Dj K d qual=ao)(k:mr K (.ref f)=ao):wI K x qual e f (nX x qual (pw e) (iQ e) (bf e) .none a g h an d i):=((oc,od,a,g,h,an,d,i,osl,aa,l,c),k)
end
def Ea(hr:dy k A):A.units+1<nW:=Ax (Nat.add_le_add_left (by decide:1<=64) _) hr.a0
section
variable{X:bA}
def fI(i:ag)(c:X.N[i]?=ai x|>1)(a:eF X.a0.scope x|>3)(b:dA x|>2) (d:fP x|>2):aA X (.Name x pos) (OQ i):=ft c a b d
end
def m_{A B:Prop}(h:B):if aw=ao then A else B:=(_)
def om{A B:Prop}(h:A):if ao=ao then A else B:=(_)
def bD(H a:ay):Prop:=∀b o,H b=ai o->a b=ai o
def bD.a2(H:ay):bD H H:=λ_ _ h=>h
def bD.a0(a:bD H H1)(b:bD H1 H2):bD H H2:=λc o h=>b c o<|a c o h
def bD.a1(e:bD H H')(h:H' l=aq):H l=aq:=by
 cases q:H l with|none=>rfl|some o=>rw[e l o q]at h;cases h
section
variable{b:Type} [Xd b]
def PF:∀{l:af b} {k:b},l.Nodup->¬k∈l->(l++[k]).Nodup
 |[],k,_,_=>by simp|a::r,k,h,c=>by obtain⟨e,d⟩:=qX.mp h;show(a::(r++[k])).Nodup;refine qX.mpr (λm=>?_,PF d λm=>c<|fq.mpr<|Or.inr m);rcases nZ.mp m with q|q;exact e q;exact c<|fq.mpr<|o_ (List.mem_singleton.mp q).symm
end
def ab2{l:af α}(c:l.Nodup){i j:ag}{x:α}(a:l[i]?=ai x)(b:l[j]?=ai x):i=j:=by grind only[eM,OA]
def bD.a3(nx:H x=aq)(a:H dx=aq)(k:∀b o,(bu (bu H dx<|.e x) x<|.c C dx []) b=ai o->b≠x->H1 b=ai o):bD H H1:=λb o e=>k b o (by rw[aO<|lN e nx,aO<|lN e a];exact e)<|lN e nx
local macro_rules|`(tactic|ext)=>`(tactic|first|assumption|(apply dy.a5<;>first|assumption|decide))
section
set_option maxHeartbeats 2000000
mutual
inductive ot(K:aZ)(H:ay):aH->lI->Prop
 |a5:ot K H .f .none
 |bl (b:da):ot K H (.e b) (.bool b)
 |a3 (i:ah):ot K H (.d i) (.int i)
 |a8 (x:aC):ot K H (.g x) (.str x)
 |a6 (b:kS UInt8):ot K H (.h b) (.bytes b.toList)
 |a0 {a:ax} {xs:af aH} {ds:af lI}:dX K H a xs->qi K H xs ds->ot K H (.c a) (.list ds)
 |a2 {a:ax} {xs:af aH} {ds:af lI}:iS K H a xs->qi K H xs ds->ot K H (.c a) (.tuple ds)
inductive qi(K:aZ)(H:ay):af aH->af lI->Prop
 |b:qi K H [] []
 |a {v:aH} {vs:af aH} {d:lI} {ds:af lI}:ot K H v d->qi K H vs ds->qi K H (v::vs) (d::ds)
end
def Qe{K:aZ}:∀a:af ah,qi K H (a.map aH.d)<|a.map NU
 |[]=>.b|n::r=>.a (.a3 n)<|Qe r
def PZ{K:aZ}:∀(ns:af ah) (a:af aH),qi K H a (ns.map NU)->a=ns.map aH.d
 |[],a,h=>by cases h;rfl
 |n::r,a,h=>by
  cases h with|a c b=>cases c;rw[PZ r _ b]<;>rfl
section
variable{P:cn}{w:bS}{K:aZ}{H:ay}{h:bT}{R:PySem.W.WRecords}{cl:aC->aJ ax}
def aa6(hok:gC P w H h)(g:K.In h)(q:dX K H a xs):∃(b:af aB) (o:cU) (n:ag),dh xs b/\h.get? a=ai o/\o.cls=.type "list"/\o.data=.seq b.toArray n:=by rcases q with q|⟨o,b,n,e,f,_,d,_,c⟩;obtain⟨_,b,n,c,e⟩:=(show hZ P w H h a (.a xs)from q.ok hok);exact(b,_,n,c,e,aa,aa);exact(b.toList,o,n,c,g _ _ e,f,by nofun)
def aa5(hok:gC P w H h)(g:K.In h)(q:iS K H a xs):∃(b:af aB) (o:cU) (n:ag),dh xs b/\h.get? a=ai o/\o.cls=.type "tuple"/\o.data=.seq b.toArray n:=by rcases q with q|⟨o,b,n,e,f,d,_,c⟩;obtain⟨_,b,c,o,e,f,n,d⟩:=(show hZ P w H h a (.b xs)from q.ok hok);exact(b,o,n,c,e,f,d);exact(b.toList,o,n,c,g _ _ e,f,by nofun)
def ot.a4(hok:gC P w H h)(c:K.In h)(d:lI)(v:aH)(u:aB)(x:ot K H v d):cy v u->∃p,PySem.W.ReadsW R cl h u d p:=ot.rec (motive_1:=λv d _=>∀u,cy v u->∃p,PySem.W.ReadsW R cl h u d p) (motive_2:=λb a _=>∀f,dh b f->∃e,PySem.W.ReadsAllW R cl h f a e) (λ_ r=>by cases r;exact(_,.none)) (λb _ r=>by cases r;exact(_,.bool b)) (λi _ r=>by obtain⟨t,rfl⟩:=r;exact(_,.int i t)) (λs _ r=>by obtain⟨t,rfl⟩:=r;exact(_,.str s t)) (λb _ r=>by obtain⟨t,rfl⟩:=r;exact(_,.bytes _ t)) (λf _ y _ r=>by cases r;obtain⟨a,o,n,e,j,l,k⟩:=aa6 hok c f;obtain⟨p,g⟩:=y a e;exact(_,.list j l k g)) (λf _ y _ r=>by cases r;obtain⟨a,o,n,e,j,l,k⟩:=aa5 hok c f;obtain⟨p,g⟩:=y a e;exact(_,.tuple j l k g)) (λ_ r=>by cases r;exact(_,.nil)) (λ_ _ y z _ r=>by cases r using X4 with|cons i g=>obtain⟨e,k⟩:=y _ i;obtain⟨s,j⟩:=z _ g;exact(_,.cons k j)) x u
end
mutual
def oj:lI->da
 |.none=>ao|.bool _=>ao|.int _=>ao|.str _=>ao|.bytes _=>ao|.list a=>qc a|.tuple a=>qc a|_=>aw
def qc:af lI->da
 |[]=>ao|x::r=>oj x&&qc r
end
def Pq{f:α->lI}(h:∀a,oj (f a)=ao):∀l:af α,qc (l.map f)=ao
 |[]=>aa|x::r=>by show(oj (f x)&&qc (r.map f))=ao;rw[h x,Pq h r]<;>rfl
def uO:∀(c:PySem.W.Codec) (a:c.denote),oj (c.enc a)=ao
 |.unit,_=>aa|.bool,_=>aa|.int _ _,_=>aa|.nat _ _,_=>aa|.u8,_=>aa|.bytes _ _,_=>aa|.text _ _ _ _,_=>aa|.list _ _ c,a=>Pq (λx=>uO c x) a|.pair c d,a=>by show(oj (c.enc a.1)&&(oj (d.enc a.2)&&ao))=ao;rw[uO c a.1,uO d a.2]<;>rfl|.triple c d e,a=>by show(oj (c.enc a.1)&&(oj (d.enc a.2.1)&&(oj (e.enc a.2.2)&&ao)))=ao;rw[uO c a.1,uO d a.2.1,uO e a.2.2]<;>rfl|.option c,aq=>aa|.option c,ai x=>uO c x
def Po:∀(b:af PySem.W.Codec) (a:HF b),qc (Ak b a)=ao
 |[],_=>aa|c::b,a=>by show(oj (c.enc a.1)&&qc (Ak b a.2))=ao;rw[uO c a.1,Po b a.2]<;>rfl
def Ik:∀{a:af lI} {d:lI},d∈a->d.weight<=HE a
 |[],d,h=>bG h ∅|x::r,d,h=>by show d.weight<=x.weight+1+HE r;rcases fq.mp h with e|m;rw[e];lia;have z:=Ik m;lia
def lL:aB->aH
 |.none=>.f|.bool b=>.e b|.int i _=>.d i|.str x _=>.g x|.bytes b _=>.h b|.ref a=>.c a|_=>.f
def qg(A:af ax):aB->Prop
 |.none=>eA|.bool _=>eA|.int _ _=>eA|.str _ _=>eA|.bytes _ _=>eA|.ref a=>a∈A|_=>eo
def qg.a0(h:∀a∈A,a∈B):∀{u:aB},qg A u->qg B u:=λ{u} x=>by
 cases u with|ref a=>exact h a x|none=>trivial|bool b=>trivial|int i t=>trivial|str s t=>trivial|bytes b t=>trivial|_=>exact mP x
def abc(x:qg A u):cy (lL u) u:=by
 cases u with|ref a=>rfl|none=>rfl|bool b=>rfl|int i t=>exact(t,aa)|str s t=>exact(t,aa)|bytes b t=>exact(t,aa)|_=>exact mP x
def yu:∀{a:af aB},(∀u∈a,qg A u)->dh (a.map lL) a
 |[],_=>.nil|u::r,h=>.cons (abc<|h u<|gY ..)<|yu λx b=>h x<|cO _ b
def rh(h:bT)(A:af ax)(a:ax):Prop:=∃b:af aB,b.length<=dG/\(∀u∈b,qg A u)/\ (h.get? a=ai {cls:=.type "list",data:=.seq b.toArray}\/h.get? a=ai {cls:=.type "tuple",data:=.seq b.toArray})
def rh.a0(k:∀a∈A,a∈B)(x:rh h A a):rh h B a:=by obtain⟨b,f,e,d⟩:=x;exact(b,f,λu c=>(e u c).a0 k,d)
def DN:∀{a:af aB} {c:af lI},wt P h a c->a.length=c.length
 |_,_,.nil=>aa|_,_,.cons _ b=>by show _+1=_+1;rw[DN b]
def PL(h:n<=1048576):n<=dG:=fx h ⋯
section
variable{P:Params}{h:bT}
def Eh(c:af lI)(g:af aB)(x:wt P h g c):qc c=ao->(∀d∈c,d.weight<=1048576)->∃A:af ax,(∀u∈g,qg A u)/\∀a∈A,rh h A a:=have n{α}(p:aw=ao):α:=qG p;have o:∃A:af ax,eA/\∀a∈A,rh h A a:=([],dU,λa m=>bG m ∅);have O{a:ax}{g:af lI}{l:af aB}(c:wt P h l g)(j:HE g<=1048576)(o:h.get? a=ai {cls:=.type "list",data:=.seq l.toArray}\/h.get? a=ai {cls:=.type "tuple",data:=.seq l.toArray}):(∃A:af ax,(∀u∈l,qg A u)/\∀a∈A,rh h A a)->∃A:af ax,a∈A/\∀a∈A,rh h A a:=λ⟨A,t,r⟩=>(by have k:∀b∈A,b∈a::A:=λb f=>cO _ f;refine(a::A,gY ..,λb f=>?_);rcases fq.mp f with e|m;rw[e];exact(l,PL (by rw[DN c];exact fx (YG g) j),λu n=>(t u n).a0 k,o);exact(r b m).a0 k);PySem.W.WellAll.rec (motive_1:=λv d _=>oj d=ao->d.weight<=1048576->∃A:af ax,qg A v/\∀a∈A,rh h A a) (motive_2:=λg c _=>qc c=ao->(∀d∈c,d.weight<=1048576)->∃A:af ax,(∀u∈g,qg A u)/\∀a∈A,rh h A a) (motive_3:=λ_ _ _=>eA) (motive_4:=λ_ _ _=>eA) (motive_5:=λ_ _ _=>eA) (λ_ _=>o) (λ_ _ _=>o) (λ_ _ _ _=>o) (λ_ _ _ _=>o) (λ_ _ p=>n p) (λ_ _ _ _=>o) (λ_ p=>n p) (λa c y p z=>O c z (.inl a)<|y p λd q=>fx (Ik q) z) (λa c y p z=>O c z (.inr a)<|y p λd q=>fx (Ik q) z) (λ_ _ _ p=>n p) (λ_ _ _ _ _ p=>n p) (λ_ _ _ _ _ p=>n p) (λ_ _ _ _ _ p=>n p) (λ_ _=>([],λu m=>bG m ∅,λa m=>bG m ∅)) (λ_ _ y s p z=>by
  have q:=Xg.mp p;obtain⟨A,w,t⟩:=y q.1<|z _<|gY ..;obtain⟨B,s,r⟩:=s q.2 λe o=>z e<|cO _ o;have j:∀b∈A,b∈A++B:=λb f=>nZ.mpr<|.inl f;have i:∀b∈B,b∈A++B:=λb f=>nZ.mpr<|.inr f;refine(A++B,λu n=>?_,λb f=>?_);rcases fq.mp n with e|m;rw[e];exact w.a0 j;exact(s u m).a0 i;rcases nZ.mp f with m|m;exact(t b m).a0 j;exact(r b m).a0 i) dU (λ_ _ _ _ _ _=>dU) dU (λ_ _ _ _=>dU) dU (λ_ _ _ _=>dU) x
end
def Eb(o:cU):aJ lQ:=match o.data with
 |.seq a _=>if(o.cls==qU "list")=ao then ai (.g o<|.a<|a.toList.map lL)else ai<|.g o<|.b<|a.toList.map lL
 |_=>aq
def jB(K:aZ)(h:bT)(A:af ax):ay:=λb=>if b∈A then(if(K.lookup b).isNone=ao then(h.get? b).bind Eb else aq)else aq
def yK(H:ay):Prop:=∀b,H b=aq\/∃o u,H b=ai (.g o u)
def Qa(vs:af aB):Eb {cls:=.type "list",data:=.seq vs.toArray}=ai (.g {cls:=.type "list",data:=.seq vs.toArray} (.a<|vs.map lL)):=by show(if(qU "list"==qU "list")=ao then ai (lQ.g {cls:=.type "list",data:=.seq vs.toArray} (.a<|vs.toArray.toList.map lL))else ai<|lQ.g {cls:=.type "list",data:=.seq vs.toArray} (.b<|vs.toArray.toList.map lL))=_;rw[aG<|Xi _]
def P_(vs:af aB):Eb {cls:=.type "tuple",data:=.seq vs.toArray}=ai (.g {cls:=.type "tuple",data:=.seq vs.toArray} (.b<|vs.map lL)):=by show(if(qU "tuple"==qU "list")=ao then ai (lQ.g {cls:=.type "tuple",data:=.seq vs.toArray} (.a<|vs.toArray.toList.map lL))else ai<|lQ.g {cls:=.type "tuple",data:=.seq vs.toArray} (.b<|vs.toArray.toList.map lL))=_;rw[aE ⋯]
section
variable{P:cn}{w:bS}{K:aZ}{h:bT}{A:af ax}
def Eg(hb:b∈A)(a:K.lookup b=aq)(e:h.get? b=ai o):jB K h A b=Eb o:=by unfold jB;rw[aG hb,a,aG (show(aq:aJ cU).isNone=ao from aa),e]<;>rfl
def abZ(q:jB K h A b=ai u):b∈A/\K.lookup b=aq:=by
 unfold jB at q;by_cases a:b∈A;rw[aG a]at q;cases c:K.lookup b with|none=>exact(a,aa)|some o=>rw[c,aE ¬_]at q;cases q
 rw[aE a]at q;cases q
def AW(ar:∀a∈A,rh h A a)(q:jB K h A b=ai u):K.lookup b=aq/\∃c:af aB,c.length<=dG/\(∀u∈c,qg A u)/\
  ((h.get? b=ai {cls:=.type "list",data:=.seq c.toArray}/\u=.g {cls:=.type "list",data:=.seq c.toArray} (.a<|c.map lL))\/
   (h.get? b=ai {cls:=.type "tuple",data:=.seq c.toArray}/\u=.g {cls:=.type "tuple",data:=.seq c.toArray} (.b<|c.map lL))):=by
 obtain⟨f,d⟩:=abZ q;obtain⟨c,j,i,g⟩:=ar b f;refine(d,c,j,i,?_);rcases g with e|e;rw[Eg f d e,Qa]at q;exact .inl (e,(kX q).symm);rw[Eg f d e,P_]at q;exact .inr (e,(kX q).symm)
def ac6(ar:∀a∈A,rh h A a):yK (jB K h A):=λb=>by
 cases q:jB K h A b with|none=>exact .inl aa|some u=>obtain⟨_,c,_,_,⟨_,e⟩|⟨_,e⟩⟩:=AW ar q;exact .inr (_,_,by rw[e]);exact .inr (_,_,by rw[e])
def ac7(ar:∀a∈A,rh h A a):gC P w (jB K h A) h:=λb u q=>by obtain⟨_,c,f,d,⟨e,rfl⟩|⟨e,rfl⟩⟩:=AW ar q;exact(e,by rw[cb];exact f,c,_,yu d,e);exact(e,by rw[cb];exact f,c,yu d,_,e,aa,_,aa)
def DS{a b:af aB}(e:(ai {cls:=c,data:=.seq a.toArray}:aJ cU)=ai {cls:=c',data:=.seq b.toArray}):c=c'/\a=b:=by have d:=kX e;have j:c=c':=fk Obj.cls d;have i:HK a.toArray=HK b.toArray:=fk Obj.data d;injection i with g;refine(j,?_);have f:=fk Array.toList g;simpa using f
def ac5(KX:K.In h)(l:∀a∈A,rh h A a){b:af aB}(m:a∈A)(e:h.get? a=ai {cls:=.type "list",data:=.seq b.toArray}):(∀u∈b,qg A u)/\dX K (jB K h A) a (b.map lL):=by
 obtain⟨d,k,f,j⟩:=l a m;have i:d=b:=by rcases j with q|q;rw[e]at q;exact(DS q).2.symm;rw[e]at q;exact bG (YL (DS q).1) ⋯
 subst i;refine(f,?_);cases c:K.lookup a with|none=>exact .inl (.inr (_,by rw[Eg m c e,Qa]))|some o=>have g:=KX a o c;rw[e]at g;obtain rfl:=kX g;exact .inr (_,d.toArray,_,c,aa,aa,aa,by rw[jZ];exact k,by simpa using yu f)
def ac4(KX:K.In h)(l:∀a∈A,rh h A a){b:af aB}(m:a∈A)(e:h.get? a=ai {cls:=.type "tuple",data:=.seq b.toArray}):(∀u∈b,qg A u)/\iS K (jB K h A) a (b.map lL):=by
 obtain⟨d,k,f,j⟩:=l a m;have i:d=b:=by rcases j with q|q;rw[e]at q;exact bG (YL (DS q).1) ⋯;rw[e]at q;exact(DS q).2.symm
 subst i;refine(f,?_);cases c:K.lookup a with|none=>exact .inl (.inr (_,by rw[Eg m c e,P_]))|some o=>have g:=KX a o c;rw[e]at g;obtain rfl:=kX g;exact .inr (_,d.toArray,_,c,aa,aa,by rw[jZ];exact k,by simpa using yu f)
def Ed(KX:K.In h)(e:∀a∈A,rh h A a)(b:af lI)(c:af aB)(x:wt Pm h c b):qc b=ao->(∀u∈c,qg A u)->qi K (jB K h A) (c.map lL) b:=have n{α}(p:aw=ao):α:=qG p;PySem.W.WellAll.rec (motive_1:=λv d _=>oj d=ao->qg A v->ot K (jB K h A) (lL v) d) (motive_2:=λc b _=>qc b=ao->(∀u∈c,qg A u)->qi K (jB K h A) (c.map lL) b) (motive_3:=λ_ _ _=>eA) (motive_4:=λ_ _ _=>eA) (motive_5:=λ_ _ _=>eA) (λ_ _=>.a5) (λb _ _=>.bl b) (λi _ _ _=>.a3 i) (λs _ _ _=>.a8 s) (λ_ _ p=>n p) (λb _ _ _=>ot.a6 b.toArray) (λ_ p=>n p) (λj _ y p f=>by obtain⟨k,g⟩:=ac5 KX e f j;exact .a0 g<|y p k) (λj _ y p f=>by obtain⟨k,g⟩:=ac4 KX e f j;exact .a2 g<|y p k) (λ_ _ _ p=>n p) (λ_ _ _ _ _ p=>n p) (λ_ _ _ _ _ p=>n p) (λ_ _ _ _ _ p=>n p) (λ_ _=>.b) (λ_ _ a b p f=>have q:=Xg.mp p;.a (a q.1<|f _<|gY ..)<|b q.2 λu m=>f u<|cO _ m) dU (λ_ _ _ _ _ _=>dU) dU (λ_ _ _ _=>dU) dU (λ_ _ _ _=>dU) x
end
def aa7{K:aZ}
  (KX:K.In s₁.heap)(N:s₁.heap.Ns iA mg)(hb:s₁.heap.Ns NL mb)(hbb:∀x:aC,x≠"__name__"->mb x=lG x)(O:s₁.heap.NoLimit)(g:s₁.heap.NoSeer)(B:P.given.tree=aq)(hg:s₁.gens= #[])
  (hwl:wt w.params s₁.heap vals ds)(M:qc ds=ao)(hwt:∀d∈ds,d.weight<=1048576)(hr:dy k Ah)
  (F:∀i:bT,K.In i->i.Ns iA mg->gR P w K mg i CX k fa fd ps sp)(D:∀(s:ba) (X:af aB),X.length=ps.length->yk s fd (X,[]) (ps.zip X))(Q:ds.length=ps.length)
  (hsp:∀(H:ay) (xs:af aH),yK H->qi K H xs ds->sp xs H (λv H'=>ot K H' v d0) λ_ _ _=>eo)
  (hCX:∀H e j,CX [] H s₁ (λ_ _ _=>eo) e j->eo):
  yi (bQ P w) Ah (.call (.ref fa) (vals,[])) (λr j=>∃u as,r=.ok (.ret u)/\PySem.W.ReadsW R cl j.heap u d0 as/\OldK s₁.heap j.heap/\j.os=s₁.os/\ym j.gens) s₁:=by
 obtain⟨A,ho,I⟩:=Eh ds vals hwl M hwt;have hO:yK (jB K s₁.heap A):=ac6 I;have C:gC P w (jB K s₁.heap A) s₁.heap:=ac7 I;have hS:=Ed KX I ds vals hwl M ho;have hV:=yu ho;have hK:∀b u,jB K s₁.heap A b=ai u->K.lookup b=aq:=λb u q=>(AW I q).1;have L:∀{b:ax} {o:cU} {E:kS Dw} {G:ag},s₁.heap.get? b=ai o->o.data=.dict E G->jB K s₁.heap A b=aq:=λ{b o E G} e d=>by
  cases q:jB K s₁.heap A b with|none=>rfl|some u=>
   obtain⟨_,U,_,_,⟨p,_⟩|⟨p,_⟩⟩:=AW I q;·rw[p]at e;cases e;have d':HK U.toArray _=Zf E G:=d;cases d'
   ·rw[p]at e;cases e;have d':HK U.toArray _=Zf E G:=d;cases d'
 have J:∀{b:ax} {o:cU},s₁.heap.get? b=ai o->o.cls=.type "module"->jB K s₁.heap A b=aq:=λ{b o} e d=>by
  cases q:jB K s₁.heap A b with|none=>rfl|some u=>
   obtain⟨_,U,_,_,⟨p,_⟩|⟨p,_⟩⟩:=AW I q;·rw[p]at e;cases e;exact bG d !_
   ·rw[p]at e;cases e;exact bG d !_
 generalize jB K s₁.heap A=H at hO C hS hK L J;have c:∀{b:ax} {o:cU},s₁.heap.get? b=ai o->H b=aq->(r_ s₁.heap H).get? b=ai o:=λe n=>acw e n;have h:∀{b:ax} {m:aC->aJ aB},s₁.heap.Ns b m->(r_ s₁.heap H).Ns b m:=λ{b m} (o,E,G,e,d,r)=>(o,E,G,c e<|L e d,d,r);have nK:∀b o,K.lookup b=ai o->H b=aq:=λb o e=>by
  cases q:H b with|none=>rfl|some u=>rw[hK b u q]at e;cases e
 have S:K.In (r_ s₁.heap H):=λb o e=>c (KX b o e)<|nK b o e;have l:(r_ s₁.heap H).NoSeer:=((let(y,a,b):=g.statics;(y,h a,b)),(let(y,a,b):=g.mods;(y,h a,b)),(let(y,a,b):=g.imp;(y,h a,b)), (let(Z,bm,Y,a,b,c',d,f):=g.main;(Z,bm,Y,h a,b,c c'<|J c' d,d,f)));have hM:El K mg (r_ s₁.heap H):=(S,h N,(mb,h hb,hbb),let(y,h1,h2):=O;(y,h h1,h2),l);have e0:uW P w K mg (r_ s₁.heap H) Ah [] s₁ H:=(aa,hM,λb o e=>abY e,HU<|acv _ _,dU,λb hb=>bG (show b∈([]:af ax)from hb) ¬_,B,C,.of_eq hg);have hl:vals.length=ps.length:=by rw[DN hwl];exact Q
 refine Hz ((F _ S<|h N).a0 Ah [] s₁ H (vals,[]) vals (vals.map lL) _ _ hr e0 (D s₁ vals hl) hV<|hsp H _ hO hS) λr j x=>?_;cases r with|error e=>exact(hCX H e j x).elim|ok fl=>
  cases fl with
  |next=>exact mP x
  |brk=>exact mP x|cont=>exact mP x|ret u=>
   obtain⟨v,H',os,T,un,t,r',q⟩:=x;have kept:∀b o,s₁.heap.get? b=ai o->j.heap.get? b=ai o:=λb o e=>by
    cases q2:H b with|none=>exact un.a1 b o e q2 (by intro z;exact bG (show b∈([]:af ax)from z) ¬_) ¬_|some u2=>
     rcases hO b with z|⟨Y,u3,z⟩;·rw[q2]at z;cases z
     ·have z2:=un.a3 b Y _ z;obtain⟨e1,_⟩:=C b _ z;obtain⟨p,_⟩:=t b _ z2;rw[e]at e1;cases e1;exact p
   have KX':K.In j.heap:=λb o e=>kept b o<|KX b o e;obtain⟨as,hrd⟩:=ot.a4 (R:=R) (cl:=cl) t KX' d0 v u q r';exact(u,as,aa,hrd,OldK.of_keep kept,os,T)
def aca(h:PySem.W.WData.layableAll ds=ao):∀d∈ds,d.weight<=1048576:=λd a=> (PySem.W.layableW_iff.mp<|mw.mp h d a).2.2
def Qd:∀(b:af PySem.W.Codec) (a:HF b),(Ak b a).length=b.length
 |[],_=>aa|c::b,a=>by show(Ak b a.2).length+1=b.length+1;rw[Qd b a.2]
def aan{K:Params->aZ}{CX:bS->uY}{sp:bS->k_}
  (hwell:r.wellSaid=ao)(x:Zp q=ao)(i:r.prog.given.tree=aq)(Z:d.params.defaults=[])(p:r.args.length=ps.length)(S:dy k Ah)
  (hY:∀(w:bS) (h:bT),YP w h->(K w.params).In h)
  (F:∀(w:bS) (j:aC->aJ aB) (C:ax) (h:bT),YP w h->(K w.params).In h->h.Ns iA j->j d.name=ai (.ref C)->
   ∃L:jY,(∀(s:ba) (D:af aB),D.length=ps.length->yk s L (D,[]) (ps.zip D))/\
    ∀c:bT,(K w.params).In c->c.Ns iA j->gR r.prog w (K w.params) j c (CX w) k C L ps (sp w))
  (hsp:∀(w:bS) (H:ay) (A:af aH) (a:HF r.args),yK H->YK r.args a=ao->Dk r.args r.asked a=ao->qi (K w.params) H A (Ak r.args a)->
   sp w A H (λv H'=>ot (K w.params) H' v<|r.ret.enc<|Dk r.args r.f a) λ_ _ _=>eo)
  (hCX:∀(w:bS) (H:ay) (s:ba) (e:aB) (B:ba),CX w [] H s (λ_ _ _=>eo) e B->eo):
  YJ q loose XP YP r d [] (λf P=>oX f P):=by
 intro w E l j mb G Y C o pm cd g0 dV kV ho hd g hD J X y N as n t Q I U;obtain⟨a,e1,e2⟩:=PySem.W.os_pre_some n;obtain⟨e3,m⟩:=PySem.W.Codec.encAll_of_decAll r.args y a e1;subst e3;have O:=hY w _ Y;obtain⟨L,T,hF⟩:=F w j C _ Y O G.T.g J;refine PySem.W.enter_call<|Hz (aa7 (R:=[]) (cl:=classAt E.heap) (d0:=r.ret.enc<|Dk r.args r.f a) O G.T.g G.T.b G.T.builtins G.T.nolimit (G.T.seer x) i X I (Po _ _) (aca t) S hF T (by rw[Qd];exact p) (λH A W V=>hsp w H A a W m e2 V) λH e B=>hCX w H l e B) λr' B b=>?_;obtain⟨u,M,rfl,h1,h2,h3,h4⟩:=b;exact(.inl (u,_,M,aa,λ_=>aa,h1,(PySem.W.OpenSpec.post_iff hwell m _ _).mpr aa,λz=>qG (show aw=ao from z)),h2,h3,h4)
def aam{K:Params->aZ}{D:aZ->k_}
  (hwell:r.wellSaid=ao)(i:Zp q=ao)(c:r.prog.given.tree=aq)(o:d.params.defaults=[])(g:r.args.length=ps.length)(x:dy k Ah)
  (hY:∀(w:bS) (h:bT),YP w h->(K w.params).In h)
  (F:∀(w:bS) (l:aC->aJ aB) (t:ax) (h:bT),YP w h->(K w.params).In h->h.Ns iA l->l d.name=ai (.ref t)->
   ∃p:jY,(∀(s:ba) (m:af aB),m.length=ps.length->yk s p (m,[]) (ps.zip m))/\
    ∀b:bT,(K w.params).In b->b.Ns iA l->gR r.prog w (K w.params) l b CX k t p ps (D<|K w.params))
  (hsp:∀(K:aZ) (H:ay) (j:af aH) (a:HF r.args),yK H->YK r.args a=ao->Dk r.args r.asked a=ao->qi K H j (Ak r.args a)->
   D K j H (λv C=>ot K C v<|r.ret.enc<|Dk r.args r.f a) λ_ _ _=>eo)
  (hCX:∀(H:ay) (s:ba) (e:aB) (n:ba),CX [] H s (λ_ _ _=>eo) e n->eo):
  YJ q loose XP YP r d [] (λf u=>oX f u):=
 aan (K:=K) (CX:=λ_=>CX) (sp:=λw=>D<|K w.params) hwell i c o g x hY F (λw H j a B A z y=>hsp (K w.params) H j a B A z y) λ_ H s e n=>hCX H s e n
end
inductive az where
 |e|g (b:da)|a (i:ah)|j (x:aC)
 |f (l:af az)|d (l:af az)
 |m (c:ax) (ns:af aC) (ds:af az)
 |k (x c:ax) (ns:af aC) (ds:af az)
 |h (ks:af ah) (ds:af az)
mutual
inductive bY(F:ay):aH->az->Prop
 |b0:bY F .f .e
 |bl (b:da):bY F (.e b) (.g b)
 |a1 (i:ah):bY F (.d i) (.a i)
 |a9 (x:aC):bY F (.g x) (.j x)
 |a3 {a:ax} {vs:af aH} {ds:af az}:F a=ai (.b vs)->cx F vs ds->bY F (.c a) (.f ds)
 |a0 {a:ax} {vs:af aH} {ds:af az}:F a=ai (.a vs)->cx F vs ds->bY F (.c a) (.d ds)
 |a8 {x dx c:ax} {ns:af aC} {vs:af aH} {ds:af az}:F x=ai (.c c dx (ns.zip vs))->cx F vs ds->ns.length=vs.length->bY F (.c x) (.m c ns ds)
 |a4 {x dx c:ax} {ns:af aC} {vs:af aH} {ds:af az}:F x=ai (.c c dx (ns.zip vs))->cx F vs ds->ns.length=vs.length->bY F (.c x) (.k x c ns ds)
 |a5 {a:ax} {ks:af ah} {vs:af aH} {ds:af az}:F a=ai (.d ((ks.map hJ).zip vs))->cx F vs ds->ks.length=vs.length->bY F (.c a) (.h ks ds)
inductive cx(F:ay):af aH->af az->Prop
 |a2:cx F [] []
 |a0 {v:aH} {vs:af aH} {d:az} {ds:af az}:bY F v d->cx F vs ds->cx F (v::vs) (d::ds)
end
def W1(h:bY F v (.a i)):v=.d i:=by cases h;rfl
def W4(h:bY F v .e):v=.f:=by cases h;rfl
def W8(h:bY F v (.g b)):v=.e b:=by cases h;rfl
def W9(h:bY F v (.j x)):v=.g x:=by cases h;rfl
def W2{d:af az}{motive:(v:aH)->bY F v (.d d)->Prop}(a0:∀{a:ax} {s:af aH} (e:F a=ai (.a s))(r:cx F s d),motive (.c a) (.a0 e r)){v:aH}(h:bY F v (.d d)):motive v h:=by cases h with|a0 e r=>exact a0 e r
def W3{d:af az}{motive:(v:aH)->bY F v (.f d)->Prop}(a3:∀{a:ax} {s:af aH} (e:F a=ai (.b s))(r:cx F s d),motive (.c a) (.a3 e r)){v:aH}(h:bY F v (.f d)):motive v h:=by cases h with|a3 e r=>exact a3 e r
def W5{x c:ax}{n:af aC}{d:af az}{motive:(v:aH)->bY F v (.k x c n d)->Prop}(a4:∀{k:ax} {s:af aH} (e:F x=ai (.c c k (n.zip s)))(r:cx F s d)(l:n.length=s.length),motive (.c x) (.a4 e r l)){v:aH}(h:bY F v (.k x c n d)):motive v h:=by cases h with|a4 e r l=>exact a4 e r l
def W6{k:af ah}{d:af az}{motive:(v:aH)->bY F v (.h k d)->Prop}(a5:∀{a:ax} {s:af aH} (e:F a=ai (.d ((k.map hJ).zip s)))(r:cx F s d)(l:k.length=s.length),motive (.c a) (.a5 e r l)){v:aH}(h:bY F v (.h k d)):motive v h:=by cases h with|a5 e r l=>exact a5 e r l
def W7{c:ax}{n:af aC}{d:af az}{motive:(v:aH)->bY F v (.m c n d)->Prop}(a8:∀{x k:ax} {s:af aH} (e:F x=ai (.c c k (n.zip s)))(r:cx F s d)(l:n.length=s.length),motive (.c x) (.a8 e r l)){v:aH}(h:bY F v (.m c n d)):motive v h:=by cases h with|a8 e r l=>exact a8 e r l
def X1(h:cx F g []):g=[]:=by cases h;rfl
def X2{d:az}{s:af az}{motive:(g:af aH)->cx F g (d::s)->Prop}(a0:∀{v:aH} {t:af aH} (e:bY F v d)(r:cx F t s),motive (v::t) (.a0 e r)){g:af aH}(h:cx F g (d::s)):motive g h:=by cases h with|a0 e r=>exact a0 e r
local macro_rules|`(tactic|cases $x:ident)=>`(tactic|first|exists W1,$x|exists X1,$x|exists W4,$x|exists W8,$x|exists W9,$x|(have h:=Eq.symm (kX $x);clear $x;subst h)|(have h:=Eq.symm (Aw $x).1;have k:=Eq.symm (Aw $x).2;clear $x;subst h k)|injection $x:ident)
def bY.b1(s:bD F F')(d:az){v:aH}(h:bY F v d):bY F' v d:=bY.rec (F:=F) (motive_1:=λv d _=>bY F' v d) (motive_2:=λv d _=>cx F' v d) .b0 .bl .a1 .a9 (λe _=>.a3<|s _ _ e) (λe _=>.a0<|s _ _ e) (λe _ l r=>.a8 (s _ _ e) r l) (λe _ l r=>.a4 (s _ _ e) r l) (λe _ l r=>.a5 (s _ _ e) r l) .a2 (λ_ _=>.a0) h
def cx.a8(s:bD F F')(c:af az){e:af aH}(h:cx F e c):cx F' e c:=cx.rec (F:=F) (motive_1:=λ_ _ _=>eA) (motive_2:=λv d _=>cx F' v d) dU (λ_=>dU) (λ_=>dU) (λ_=>dU) (λ_ _ _=>dU) (λ_ _ _=>dU) (λ_ _ _ _=>dU) (λ_ _ _ _=>dU) (λ_ _ _ _=>dU) .a2 (λa _ _=>.a0<|bY.b1 s _ a) h
def bY.up(h:bY F v d)(s:bD F F'):bY F' v d:=bY.b1 s d h
def cx.up(h:cx F vs ds)(s:bD F F'):cx F' vs ds:=cx.a8 s ds h
def cx.a1:∀{c:af az} {e:af aH},cx F e c->e.length=c.length
 |[],_,h=>by cases h;rfl
 |d::c,_,h=>by
  cases h using X2 with|a0 a b=>simp[cx.a1 b]
def cx.a4:∀{c:af az} {f:af aH} {i:ag} {d:az},cx F f c->c[i]?=ai d->∃v,f[i]?=ai v/\bY F v d
 |[],_,i,d,h,e=>by simp at e|d::c,_,0,k,h,e=>by
  cases h using X2 with|a0 a b=>simp at e;subst e;exact(_,aa,a)
 |d::c,_,i+1,k,h,e=>by
  cases h using X2 with|a0 a b=>obtain⟨v,j,g⟩:=cx.a4 b (by simpa using e);exact(v,by simpa using j,g)
def cx.a5:∀{c i:af az} {f e:af aH},cx F f c->cx F e i->cx F (f++e) (c++i)
 |[],_,_,_,h,g=>by cases h;exact g
 |d::c,_,_,_,h,g=>by
  cases h using X2 with|a0 a b=>exact .a0 a<|cx.a5 b g
def cx.a9(hd:bY F v d):∀{c:af az} {f:af aH} (i:ag),cx F f c->cx F (f.set i v) (c.set i d)
 |[],_,i,h=>by cases h;exact .a2
 |e::c,_,0,h=>by
  cases h using X2 with|a0 a b=>exact .a0 hd b
 |e::c,_,i+1,h=>by
  cases h using X2 with|a0 a b=>exact .a0 a<|cx.a9 hd i b
def cx.b1:∀{c:af az} {e:af aH} (n:ag),cx F e c->cx F (e.take n) (c.take n)
 |_,_,0,h=>.a2|[],_,n+1,h=>by cases h;exact .a2
 |d::c,_,n+1,h=>by
  cases h using X2 with|a0 a b=>exact .a0 a<|cx.b1 n b
def cx.b3:∀{c:af az} {e:af aH} (n:ag),cx F e c->cx F (e.drop n) (c.drop n)
 |_,_,0,h=>h|[],_,n+1,h=>by cases h;exact .a2
 |d::c,_,n+1,h=>by
  cases h using X2 with|a0 a b=>exact cx.b3 n b
def cx.b7:∀{c:af az} {e:af aH},cx F e c->cx F e.reverse c.reverse
 |[],_,h=>by cases h;exact .a2
 |d::c,_,h=>by
  cases h using X2 with|a0 a b=>rw[DF,DF];exact(cx.b7 b).a5<|.a0 a .a2
def cx.b6(h:bY F v d):∀n,cx F (cg n v)<|cg n d
 |0=>.a2|n+1=>.a0 h<|cx.b6 h n
def cx.b0(h:cx F vs [a,b]):∃x y,vs=[x,y]/\bY F x a/\bY F y b:=by
 cases h using X2 with|a0 f e=>
  cases e using X2 with|a0 d c=>cases c;exact(_,_,aa,f,d)
def cx.a7:∀{c:af ah} {d:af aH},cx F d (c.map az.a)->d=c.map aH.d
 |[],_,h=>by cases h;rfl
 |n::c,_,h=>by
  cases h using X2 with|a0 a b=>cases a;rw[cx.a7 b];rfl
def Fb:∀(a:af ah),cx F (a.map aH.d)<|a.map az.a
 |[]=>.a2|n::a=>.a0 (.a1 n)<|Fb a
def cx.b5:∀{c:af da} {d:af aH},cx F d (c.map az.g)->d=c.map aH.e
 |[],_,h=>by cases h;rfl
 |n::c,_,h=>by
  cases h using X2 with|a0 a b=>cases a;rw[cx.b5 b];rfl
structure cZ(F0 H0 F H:ay):Prop where
 ff:bD F0 F
 hh:bD H0 H
 fh:bD F H
 nf:∀a,H0 a≠aq->F0 a=aq->F a=aq
def cZ.a3(h:bD F H):cZ F H F H:=(bD.a2 _,bD.a2 _,h,λ_ _ n=>n)
def EO(s:bD H H')(h:H a≠aq):H' a≠aq:=by
 cases e:H a with|none=>exact bG e h|some o=>rw[s a o e];simp
def cZ.a4(a:cZ F0 H0 F H)(b:cZ F H F' H'):cZ F0 H0 F' H':=(a.ff.a0 b.ff,a.hh.a0 b.hh,b.fh,λx h n=>b.nf x (EO a.hh h)<|a.nf x h n)
def jG(n:H p=aq):bD H (bu H p o):=λb u e=>by rwa[aO<|lN e n]
def cZ.a8(a:cZ F0 H0 F H)(n:H p=aq):cZ F0 H0 (bu F p o) (bu H p o):=by have c:=a.fh.a1 n;have d:=a.hh.a1 n;refine(a.ff.a0<|jG c,a.hh.a0<|jG n,λb u e=>?_,λx h z=>?_);by_cases q:b=p;(simp_all[bO]);rw[aO q]at e ⊢;exact a.fh _ _ e;have q:x≠p:=!_;rw[aO q];exact a.nf x h z
def cZ.a9(a:cZ F0 H0 F H)(n:H p=aq):cZ F0 H0 F (bu H p o):=(a.ff,a.hh.a0<|jG n,a.fh.a0<|jG n,a.nf)
def cZ.wr(a:cZ F0 H0 F H)(n:F p=aq)(c:H0 p=aq):cZ F0 H0 F (bu H p o):=(a.ff,λb u e=>by rw[aO<|lN e c];exact a.hh _ _ e,λb u e=>by rw[aO<|lN e n];exact a.fh _ _ e,a.nf)
def cZ.a6{d c F H:ay}(a:cZ d c F H){p:ax}{o:lQ}(h:H p=ai o)(n:F p=aq)(g:c p=aq):cZ d c (bu F p o) H/\bD F (bu F p o):=by refine((a.ff.a0<|jG n,a.hh,λb u e=>?_,λx f z=>?_),jG n);by_cases q:b=p;simp_all[bO];rw[aO q]at e;exact a.fh _ _ e;have q:x≠p:=();rw[aO q];exact a.nf x f z
inductive bL where
 |b|a (d:az)|c (ds:af az)|e (v:aH)
structure bE(F0 H0 F H:ay)(σ:cw)(ρ:af bL):Prop extends cZ F0 H0 F H where
 a5:σ.length=ρ.length
 a3:∀(i:ag) (d:az),ρ[i]?=ai (.a d)->∃v,σ[i]?=ai (ai v)/\bY F v d
 a0:∀(i:ag) (ds:af az),ρ[i]?=ai (.c ds)->∃a vs,σ[i]?=ai (ai (.c a))/\H a=ai (.a vs)/\F a=aq/\H0 a=aq/\cx F vs ds
 a1:∀(i:ag) (v:aH),ρ[i]?=ai (.e v)->σ[i]?=ai (ai v)
 a8:∀(i j:ag) (ds es:af az) (a:ax),ρ[i]?=ai (.c ds)->ρ[j]?=ai (.c es)->σ[i]?=ai (ai (.c a))->σ[j]?=ai (ai (.c a))->i=j
section
variable{g f F H m t:ay}{l:cw}{c:af bL}
def bE.up(a:bE g f F H l c)(r:cZ F H m t):bE g f m t l c where
 tocZ:=a.tocZ.a4 r
 a5:=a.a5
 a3:=λi d e=>let(v,h,b):=a.a3 i d e;(v,h,b.up r.ff)
 a0:=λi p e=>by obtain⟨x,j,h,b,o,n,k⟩:=a.a0 i p e;exact(x,j,h,r.hh _ _ b,r.nf x () o,n,k.up r.ff)
 a1:=a.a1
 a8:=a.a8
def bE.c5(a:bE g f F H l c)(n:H p=aq):bE g f (bu F p o) (bu H p o) l c/\bD F (bu F p o):=(a.up<|(cZ.a3 a.fh).a8 n,jG<|a.fh.a1 n)
def bE.a9(a:bE g f F H l c)(n:H p=aq):F p=aq/\f p=aq:=(a.fh.a1 n,a.hh.a1 n)
def bE.z{l:af α}(e:(l.set i x)[i]?=ai y):y=x:=by obtain⟨h,rfl⟩:=eM.mp e;simp
def bE.a7(a:bE g f F H l c){v:aH}{d:az}(i:ag)(r:bY F v d):bE g f F H (l.set i<|ai v) (c.set i<|.a d) where
 tocZ:=a.tocZ
 a5:=by rw[j',j'];exact a.a5
 a3:=λj A e=>by by_cases q:i=j;subst q;have u:=(eM.mp e).1;rw[j']at u;cases bE.z e;exact(v,mY (by rwa[a.a5]),r);rw[hW q]at e ⊢;exact a.a3 j A e
 a0:=λj b e=>by by_cases q:i=j;subst q;cases bE.z e;rw[hW q]at e ⊢;exact a.a0 j b e
 a1:=λj s e=>by by_cases q:i=j;subst q;cases bE.z e;rw[hW q]at e ⊢;exact a.a1 j s e
 a8:=λj k b z x p o n h=>by have y:i≠j:=λq=>by subst q;cases bE.z p
                            have w:i≠k:=λq=>by subst q;cases bE.z o
                            rw[hW y]at p n;rw[hW w]at o h;exact a.a8 j k b z x p o n h
inductive jQ:af bL->af bL->Prop
 |a2:jQ [] []
 |a0 {s:bL} {a b:af bL}:jQ a b->jQ (s::a) (s::b)
 |no {s:bL} {a b:af bL}:jQ a b->jQ (s::a) (.b::b)
def jQ.a4:∀c,jQ c c
 |[]=>.a2|_::r=>.a0<|jQ.a4 r
def jQ.a5(h:jQ a b):a.length=b.length:=by
 induction h with|a2=>rfl|a0 _ d=>nofun|no _ d=>nofun
def jQ.a3(h:jQ a b):∀{i:ag} {s:bL},b[i]?=ai s->s≠.b->a[i]?=ai s:=by
 induction h with|a2=>intro i s e;simp at e|a0 _ d=>grind?|no _ d=>grind?
def bE.b5{b:af bL}(a:bE g f F H l c)(w:jQ c b):bE g f F H l b where
 tocZ:=a.tocZ
 a5:=by rw[a.a5,w.a5]
 a3:=λi d e=>a.a3 i d (w.a3 e ())
 a0:=λi d e=>a.a0 i d (w.a3 e ())
 a1:=λi d e=>a.a1 i d (w.a3 e ())
 a8:=λi j o h x n k=>a.a8 i j o h x (w.a3 n ())<|w.a3 k ()
end
def aP(g e:ay)(c:af bL)(d:az):cS:=λb H Q=>∃F,bE g e F H b c/\∀v a f,bD F a->bE g e a f b c->bY a v d->Q v f
def eg(f d:ay)(c:af bL)(b:da):iR:=λa H Q=>∃F,bE f d F H a c/\∀g e,bD F g->bE f d g e a c->Q b e
def lW(g e:ay)(c:af bL)(h:af az):iD:=λb H Q=>∃F,bE g e F H b c/\∀d a f,bD F a->bE g e a f b c->cx a d h->Q d f
def zK(σ:cw)(b:af bL)(a:ax):Prop:=∀(i:ag) (c:af az),b[i]?=ai (.c c)->σ[i]?≠ai (ai<|.c a)
def lV(h e:ay)(d:af bL)(i:af az):cS:=λc H Q=>∃F,bE h e F H c d/\∀a g b f,bD F b->bE h e b f c d->f a=ai (.a g)->b a=aq->e a=aq->zK c d a->cx b g i->Q (.c a) f
def yS(e c:ay)(b:af bL)(o:aJ ah):yH:=λa H Q=>∃F,bE e c F H a b/\∀f d,bD F f->bE e c f d a b->Q o d
section
variable{X:bA}{B z:ay}{m:af bL}{e a b c:bI}{J:af bI}{E p L:dj}{d K d2:az}{G:af az}{i j:ah}{x f:aC}
def eL(h:aA X e t)(w:∀g H Q,t' g H Q->t g H Q):aA X e t':=λk s g H Q I l=>h k s g H Q I<|w g H Q l
def qD(h:cP X e t)(w:∀g H Q,t' g H Q->t g H Q):cP X e t':=λk s g H Q I l=>h k s g H Q I<|w g H Q l
def ub(h:jD X e t)(w:∀g H Q,t' g H Q->t g H Q):jD X e t':=λl k s g H Q I n=>h l k s g H Q I<|w g H Q n
def W_(h:eW X J t)(w:∀g H Q,t' g H Q->t g H Q):eW X J t':=λE k s g H Q I l=>h E k s g H Q I<|w g H Q l
def eK{l:du}(h:cH X l t)(w:∀D g H,t' D g H->t D g H):cH X l t':=λk s g H D I n=>h k s g H D I<|w D g H n
def fg{l:af du}(h:bg X l t)(w:∀D g H,t' D g H->t D g H):bg X l t':=λk s g H D I n=>h k s g H D I<|w D g H n
def sI(h:fz X tg e t)(w:∀g H Q,t' g H Q->t g H Q):fz X tg e t':=λk s g H Q I l=>h k s g H Q I<|w g H Q l
def Ms(h:jd X e t)(w:∀v g H Q,t' v g H Q->t v g H Q):jd X e t':=λk s g H v u Q I r l=>h k s g H v u Q I r<|w v g H Q l
def WZ(h:qf X o t)(w:∀g H Q,t' g H Q->t g H Q):qf X o t':=λk s g H Q I l=>h k s g H Q I<|w g H Q l
def bE.b7{F H:ay}{g:cw}(A:bE B z F H g m){a:ax}{o:lQ}(h:H a=ai o)(n:F a=aq)(u:z a=aq)(D:zK g m a):bE B z (bu F a o) H g m/\bD F (bu F a o):=by obtain⟨r,s⟩:=A.tocZ.a6 h n u;refine((r,A.a5,λi d e=>let(v,l,k):=A.a3 i d e;(v,l,k.up s),λi G e=>?_,A.a1,A.a8),s);obtain⟨x,t,l,k,C,y,w⟩:=A.a0 i G e;have q:x≠a:=λq=>D i G e ∅;exact(x,t,l,k,by rwa[aO q],y,w.up s)
def bE.b4(A:bE B z F H σ m){a:ax}(h:H a=aq):zK σ m a:=λi G e q=>by obtain⟨x,l,k,g,_⟩:=A.a0 i G e;rw[k]at q;injection q with q;injection q with q;injection q with q;subst q;rw[h]at g;cases g
def bE.b8(A:bE B z F H σ m){p:ax}(h:H p=aq):bE B z F (bu H p o) σ m:=A.up<|(cZ.a3 A.fh).a9 h
def bE.wr(A:bE B z F H σ m){p:ax}(n:F p=aq)(g:z p=aq)(u:zK σ m p):bE B z F (bu H p o) σ m:=by refine(A.tocZ.wr n g,A.a5,A.a3,λi G e=>?_,A.a1,A.a8);obtain⟨x,h,t,s,r,l,k⟩:=A.a0 i G e;have q:x≠p:=λq=>u i G e ();simp[*,aO]
def bJ(h:aA X e (lV B z m G)):aA X e (aP B z m<|.d G):=eL h λv H Q (F,A,k)=>(F,A,λa w C y s u r q o n l=>by obtain⟨t,g⟩:=u.b7 r q o n;exact k _ _ _ (s.a0 g) t<|.a0 bO<|l.up g)
def dY(h:aA X e (aP B z m K))(q:K=d2):aA X e (aP B z m d2):=q▸h
def cX(h:cP X e (eg B z m k))(q:k=k'):cP X e (eg B z m k'):=q▸h
def aj(n:ag)(h:m[n]?=ai (.a d)|>1)(o:X.N[n]?=ai x|>1)(g:eF X.a0.scope x|>3)(l:dA x|>2)
  (hcd:fP x|>2):aA X (.Name x E) (aP B z m d):=
 eL (ft o g l hcd) λs H Q (F,A,k)=>let(v,r,q):=A.a3 n d h;(v,r,k v F H (bD.a2 _) A q)
def Cc(h:aA X e (yx v))(r:∀F,bY F v d):aA X e (aP B z m d):=eL h λg H Q (F,A,k)=>k v F H (bD.a2 _) A<|r F
def aF:aA X (.Constant (.int i) k E) (aP B z m<|.a i):=Cc uQ λF=>.a1 i
def eO:aA X (.Constant .none k E) (aP B z m .e):=Cc abE λF=>.b0
def Gj:aA X (.Constant (.str x) k E) (aP B z m<|.j x):=Cc abC λF=>.a9 x
def tX{b:da}:aA X (.Constant (.bool b) k E) (aP B z m<|.g b):=Cc abL λF=>.bl b
def cY(g:∃t,X.mg x=ai (.int i t))(h:dn X x|>1)(k:dA x|>2):aA X (.Name x E) (aP B z m<|.a i):=by obtain⟨t,g⟩:=g;exact Cc (AM (v:=.d i) h g (t,aa) k) λF=>.a1 i
def VK:gi X (th .Mult) (AI oZ λi j=>.d<|i*j):=PD λ_ _ _ _ _ _ _ g q=>mul_int q g
def PK(hr:dy 32 X.A):gi X (th .FloorDiv) (AI (λ_ j=>0<j) λi j=>.d<|i/j):=by intro g s n H x y v u Q I w k h;obtain⟨i,j,rfl,rfl,r,q⟩:=h;obtain⟨t,rfl⟩:=w;obtain⟨o,rfl⟩:=k;have l:=hr.dp;refine floordiv_int (by lia) ?_<|.inr<|j5 I.f9 (by show X.A.depth+100<NH;(apply Nat.le_of_lt;solve_by_elim))<|I.ok.b2 _ I.bk;rw[Int.fdiv_eq_ediv_of_nonneg i !_];exact(.d _,H,I.a4 _,(_,aa),q)
def LL{g:ah->ah->ah}(q:gi X (th op) (AI C λi j=>.d<|g i j))(O:aA X a (aP B z m<|.a i))(s:aA X b (aP B z m<|.a j))(r:C i j):aA X (.BinOp a op b E) (aP B z m<|.a<|g i j):=eL (DX q O s) λD H Q (F,A,k)=>(F,A,λM v N l y o=>(v,y,λI u t h w n=>by cases o;cases n;exact(i,j,aa,aa,r,k _ u t (l.a0 h) w<|.a1 _)))
def Wa{g:ah->ah->ah}(q:gi X (th op) (rW λi j=>.d<|g i j))(M:aA X a (aP B z m<|.a i))(r:aA X b (aP B z m<|.a j)):aA X (.BinOp a op b E) (aP B z m<|.a<|g i j):=eL (DX q M r) λy H Q (F,A,k)=>(F,A,λD u I l w o=>(u,w,λC t s h v n=>by cases o;cases n;exact(i,j,aa,aa,k _ t s (l.a0 h) v<|.a1 _)))
def kx(ha:aA X a (aP B z m<|.a i))(g:aA X b (aP B z m<|.a j)):aA X (.BinOp a .Add b E) (aP B z m<|.a<|i+j):=Wa abW ha g
def sy(ha:aA X a (aP B z m<|.a i))(g:aA X b (aP B z m<|.a j)):aA X (.BinOp a .Sub b E) (aP B z m<|.a<|i- j):=Wa abO ha g
def fR(ha:aA X a (aP B z m<|.a i))(g:aA X b (aP B z m<|.a j))(h:oZ i j):aA X (.BinOp a .Mult b E) (aP B z m<|.a<|i*j):=LL VK ha g h
def sC(ha:aA X a (aP B z m<|.a i))(k:aA X b (aP B z m<|.a j))(h:0<j)(g:dy 32 X.A|>3):aA X (.BinOp a .FloorDiv b E) (aP B z m<|.a<|i/j):=LL (PK g) ha k h
def LN(ha:aA X a (aP B z m<|.a i))(g:aA X b (aP B z m<|.a j))(h:0<j):aA X (.BinOp a .Mod b E) (aP B z m<|.a<|i%j):=LL abR ha g h
def tW(ha:aA X a (aP B z m<|.a i)):aA X (.UnaryOp .USub a E) (aP B z m<|.a (-i)):=eL (abB aao ha) λq H Q (F,A,k)=>(F,A,λr n l g o h=>by cases h;exact(i,aa,k _ n l g o<|.a1 _))
def Gm(ho:gi X (jy op) r)(l:aA X a (aP B z m K))(y:aA X b (aP B z m d2))(w:∀F H h g (Q:dw),bD F H->bY F h K->bY F g d2->Q (.e k) H->r h g H Q)
  (hm:oY op b=aw:=by exact D' _):aA X (.Compare a [op] [b] E) (aP B z m<|.g k):=
 eL (Pw ho l y hm) λI H Q (F,A,q)=>(F,A,λh C M t D v=>(C,D,λg o n l s u=>w o n h g _ s.fh (v.up l) u<|q _ o n (t.a0 l) s<|.bl k))
def rk(ho:gi X (jy op) r)(l:aA X a (aP B z m K))(y:aA X b (aP B z m d2))(w:∀F H h g (Q:dw),bD F H->bY F h K->bY F g d2->Q (.e k) H->r h g H Q)
  (hm:oY op b=aw:=by exact D' _):cP X (.Compare a [op] [b] E) (eg B z m k):=
 qD (yz ho l y hm) λI H Q (F,A,q)=>(F,A,λh C M t D v=>(C,D,λg o n l s u=>w o n h g _ s.fh (v.up l) u (k,aa,q o n (t.a0 l) s)))
def tI(g:ah->ah->da):∀(F H:ay) (k h:aH) (Q:dw),bD F H->bY F k (.a i)->bY F h (.a j)->Q (.e<|g i j) H->rW (λi j=>.e<|g i j) k h H Q:=λF H k h Q _ n l q=>by cases n;cases l;exact(i,j,aa,aa,q)
def S_:∀(F H:ay) (h g:aH) (Q:dw),bD F H->bY F h (.a i)->bY F g (.a j)->Q (.e<|aT<|i=j) H->Pe h g H Q:=λF H h g Q _ l k q=>by cases l;cases k;refine(aa,?_);have e:aT (aH.d i=aH.d j)=aT (i=j):=();rwa[e]
def xv:∀(F H:ay) (h g:aH) (Q:dw),bD F H->bY F h (.a i)->bY F g (.a j)->Q (.e (!aT (i=j))) H->Pc h g H Q:=λF H h g Q _ l k q=>by cases l;cases k;refine(aa,?_);have e:aT (aH.d i=aH.d j)=aT (i=j):=();rwa[e]
section
variable(ha:aA X a (aP B z m (.a i)))(g:aA X b (aP B z m (.a j)))
include ha g
def Wc:aA X (.Compare a [.LtE] [b] E) (aP B z m<|.g<|aT<|i<=j):=Gm yB ha g<|tI λi j=>aT<|i<=j
def F8:aA X (.Compare a [.GtE] [b] E) (aP B z m<|.g<|aT<|j<=i):=Gm abU ha g<|tI λi j=>aT<|j<=i
def We:aA X (.Compare a [.Eq] [b] E) (aP B z m<|.g<|aT<|i=j):=Gm AN ha g S_
def sg:cP X (.Compare a [.Lt] [b] E) (eg B z m<|aT<|i<j):=rk Py ha g<|tI λi j=>aT<|i<j
def EH:cP X (.Compare a [.LtE] [b] E) (eg B z m<|aT<|i<=j):=rk yB ha g<|tI λi j=>aT<|i<=j
def jE:cP X (.Compare a [.Gt] [b] E) (eg B z m<|aT<|j<i):=rk abT ha g<|tI λi j=>aT<|j<i
def ec:cP X (.Compare a [.Eq] [b] E) (eg B z m<|aT<|i=j):=rk AN ha g S_
def iH:cP X (.Compare a [.NotEq] [b] E) (eg B z m (!aT (i=j))):=rk II ha g xv
end
def md:az->da
 |.e=>ao|_=>aw
def SO(h:bY F v d):aT (v=.f)=md d:=by cases h<;>rfl
def eX(ha:aA X a (aP B z m d)):cP X (.Compare a [.Is] [.Constant .none k q] E) (eg B z m<|md d):=rk abS ha eO λF H n l Q _ h g q=>by cases g;exact(aa,by rwa[SO h])
def JE(ha:aA X a (aP B z m d)):cP X (.Compare a [.IsNot] [.Constant .none k q] E) (eg B z m (!md d)):=rk abQ ha eO λF H n l Q _ h g q=>by cases g;exact(aa,by rwa[SO h])
def Wf(ho:gi X (jy op) r)(o:gi X (jy op') r')(W:aA X a (aP B z m K))(R:aA X b (aP B z m d2))(P:aA X c (aP B z m d3))
  (hr:∀F H h g (Q:dw),bD F H->bY F h K->bY F g d2->Q (.e k) H->r h g H Q)(n:∀F H h g (Q:dw),bD F H->bY F h d2->bY F g d3->Q (.e k') H->r' h g H Q)
  (hm:Hy [op,op'] [b,c]=aw|>5):aA X (.Compare a [op,op'] [b,c] E) (aP B z m<|.g<|k&&k'):=
 eL (abJ ho o W R P hm) λU H Q (F,A,q)=>(F,A,λh S V v T O=>(S,T,λg s C l t w=>
  hr s C h g _ t.fh (O.up l) w (k,aa,by
   cases k with|false=>exact m_ (q _ s C (v.a0 l) t<|.bl aw)|true=>exact om (s,t,λM D y u I N=>n D y g M _ I.fh (w.up u) N<|q _ D y ((v.a0 l).a0 u) I<|.bl k'))))
def Gk(ha:aA X a (aP B z m<|.a i))(k:aA X b (aP B z m<|.a j))(h:aA X c (aP B z m<|.a l))(g:Hy [.LtE,.LtE] [b,c]=aw|>5): aA X (.Compare a [.LtE,.LtE] [b,c] E) (aP B z m<|.g<|aT (i<=j)&&aT (j<=l)):=Wf yB yB ha k h (tI λi j=>aT<|i<=j) (tI λi j=>aT<|i<=j) g
def Wb(ha:aA X a (aP B z m<|.a i))(k:aA X b (aP B z m<|.a j))(h:aA X c (aP B z m<|.a l))(g:Hy [.LtE,.Lt] [b,c]=aw|>5): aA X (.Compare a [.LtE,.Lt] [b,c] E) (aP B z m<|.g<|aT (i<=j)&&aT (j<l)):=Wf yB Py ha k h (tI λi j=>aT<|i<=j) (tI λi j=>aT<|i<j) g
def d_(h:aA X e (aP B z m<|.g k))(o:(∀g,yh e X.a0 g=(do let v<-g;we e.pos;jW [v]<|truthy v))|>4):cP X e (eg B z m k):=qD (Pj h o) λu H Q (F,A,q)=>(F,A,λv s r l t n=>by cases n;exact(k,aa,q s r l t))
def Kt:jD X e λ_ _ _=>eo:=λ_ _ _ _ _ _ _ h=>h.elim
def Ky:aA X e λ_ _ _=>eo:=λ_ _ _ _ _ _ h=>h.elim
def dQ(h:cP X a (eg B z m k)):jD X (.BoolOp op [a] E) (eg B z m k):=by
 cases op with|And=>exact Pf h|Or=>exact Iu h
def rj{g:af bI}(h:cP X a (eg B z m ao)):jD X (.BoolOp .Or (a::b::g) E) (eg B z m ao):=ub (AK h Kt) λo H Q (F,A,q)=>(F,A,λl k g n=>om<|q l k g n)
def RB{g:af bI}(h:cP X a (eg B z m aw))(n:jD X (.BoolOp .Or (b::g) E) (eg B z m k)):jD X (.BoolOp .Or (a::b::g) E) (eg B z m k):=ub (AK h n) λv H Q (F,A,q)=>(F,A,λs w l u=>m_ (s,u,λr o g t=>q r o (l.a0 g) t))
def er{l:af bI}(h:cP X a (eg B z m k))(g:k=aw->jD X (.BoolOp .Or (b::l) E) (eg B z m k')):jD X (.BoolOp .Or (a::b::l) E) (eg B z m (k||k')):=by
 cases k with|true=>exact rj h|false=>exact RB h<|g aa
def se{y:af bI}(h:cP X a (eg B z m k))(t:k=ao->jD X (.BoolOp .And (b::y) E) (eg B z m k')):jD X (.BoolOp .And (a::b::y) E) (eg B z m<|k&&k'):=by
 cases k with|true=>exact ub (Pg h<|t aa) λr H Q (F,A,q)=>(F,A,λl o g n=>om (l,n,λv u s w=>q v u (g.a0 s) w))|false=>exact ub (Pg h Kt) λr H Q (F,A,q)=>(F,A,λl o g n=>m_<|q l o g n)
def ef(h:cP X a (eg B z m k)):cP X (.UnaryOp .Not a E) (eg B z m (!k)):=qD (Pk h) λr H Q (F,A,q)=>(F,A,λn l g o=>q n l g o)
def LO{I:af bI}(h:aA X a (aP B z m<|.g k))(w:k=ao->aA X (.BoolOp .And (b::I) E) (aP B z m<|.g k')):aA X (.BoolOp .And (a::b::I) E) (aP B z m<|.g<|k&&k'):=by
 cases k with|true=>exact eL (Px h<|w aa) λs H Q (F,A,q)=>(F,A,λt n r g o l=>by cases l;exact(ao,aa,om (n,o,λv C y u D=>q v C y (g.a0 u) D)))|false=>exact eL (Px h Ky) λs H Q (F,A,q)=>(F,A,λt n r g o l=>by cases l;exact(aw,aa,m_<|q _ n r g o<|.bl aw))
def LM(h:aA X a (aP B z m d)):aA X (.BoolOp op [a] E) (aP B z m d):=abD h
def sA(hc:cP X c (eg B z m k))(w:k=ao->aA X a (aP B z m d))(u:k=aw->aA X b (aP B z m d)):aA X (.IfExp c a b E) (aP B z m d):=by
 cases k with|true=>exact eL (Pu hc (w aa) Ky) λt H Q (F,A,q)=>(F,A,λo y h s=>om (o,s,λv n l g r=>q v n l (h.a0 g) r))|false=>exact eL (Pu hc Ky<|u aa) λt H Q (F,A,q)=>(F,A,λo y h s=>m_ (o,s,λv n l g r=>q v n l (h.a0 g) r))
def aD:eW X [] (lW B z m []):=W_ pq λg H Q (F,A,k)=>k [] F H (bD.a2 _) A .a2
def au(h:aA X e (aP B z m d))(r:eW X J (lW B z m G))(q:eI X e J|>1):eW X (e::J) (lW B z m (d::G)):=W_ (kZ h r q) λC H Q (F,A,k)=>(F,A,λv u I l y o=>(u,y,λD t s g w n=>k _ t s (l.a0 g) w<|.a0 (o.up g) n))
def kv(h:eW X J (lW B z m G))(q:G.length<=100:=by exact Nat.le_of_ble_eq_true rfl):aA X (.Tuple J k E) (aP B z m<|.f G):=eL (ID h) λt H Q (F,A,k)=>(F,A,λu w v n s l=>(by rw[l.a1];exact fx q ⋯,λp o=>by obtain⟨r,g⟩:=s.c5 o;exact k _ _ _ (n.a0 g) r<|.a3 bO<|l.up g))
def xg{Q:dw}(q:bD F F1)(n:bE B z F1 H1 σ m)(r:cx F1 g G)
  (k:∀a g l o,bD F l->bE B z l o σ m->o a=ai (.a g)->l a=aq->z a=aq->zK σ m a->cx l g G->Q (.c a) o):∀p,H1 p=aq->Q (.c p) (bu H1 p<|.a g):=λp h=>
 k p g F1 _ q (n.b8 h) bO (n.a9 h).1 (n.a9 h).2 (n.b4 h) r
def cQ(h:eW X J (lW B z m G))(n:G.length<=100:=by exact Nat.le_of_ble_eq_true rfl):aA X (.List J E) (lV B z m G):=eL (IG h) λq H Q (F,A,k)=>(F,A,λr t s l o g=>(by rw[g.a1];exact fx n ⋯,xg l o g k))
def WE{ys:af β}(g:xs.length=ys.length){y:β}(h:fZ ys i=ai y):∃j:ag,ys[j]?=ai y/\∀x,xs[j]?=ai x->fZ xs i=ai x:=by unfold fZ at*;rw[g];obtain⟨j,a,b⟩:=Option.bind_eq_some_iff.mp h;exact(j,b,λx c=>by rw[a];exact c)
def cx.b2(h:cx F vs G)(e:fZ G i=ai d):∃v,fZ vs i=ai v/\bY F v d:=by obtain⟨j,g,n⟩:=WE h.a1 e;obtain⟨v,l,k⟩:=h.a4 g;(simp[*])
def bt(ha:aA X a (aP B z m<|.d G))(t:aA X b (aP B z m<|.a i))(h:fZ G i=ai d)(s:qe b|>4):aA X (.Subscript a b E) (aP B z m d):=
 eL (rY uT ha t s) λM H Q (F,A,k)=>(F,A,λO D P n I q=>(D,I,λN C y g l o=>by
  cases o;cases q.up g with|a0 e r=>obtain⟨v,w,u⟩:=r.b2 h;exact(_,_,i,v,aa,aa,dX.of<|l.fh _ _ e,w,k v C y (n.a0 g) l u)))
def gb(ha:aA X a (aP B z m<|.f G))(t:aA X b (aP B z m<|.a i))(h:fZ G i=ai d)(s:qe b|>4):aA X (.Subscript a b E) (aP B z m d):=
 eL (rY PU ha t s) λM H Q (F,A,k)=>(F,A,λO D P n I q=>(D,I,λN C y g l o=>by
  cases o;cases q.up g with|a3 e r=>obtain⟨v,w,u⟩:=r.b2 h;exact(_,_,i,v,aa,aa,iS.of<|l.fh _ _ e,w,k v C y (n.a0 g) l u)))
def nJ(n:ag)(r:m[n]?=ai (.c G))(I:aA X b (aP B z m<|.a i))(h:fZ G i=ai d)(C:qe b|>4)(M:X.N[n]?=ai x|>1)
  (hv:eF X.a0.scope x|>3)(D:dA x|>2)(l:fP x|>2):aA X (.Subscript (.Name x p) b E) (aP B z m d):=
 eL (rY uT (ft M hv D l) I C) λT H Q (F,A,k)=>by obtain⟨a,U,s,_⟩:=A.a0 n G r;refine(_,s,F,A,λV S R w t y=>?_);cases y;obtain⟨W,u,g,q,_,_,o⟩:=t.a0 n G r;rw[s]at g;injection g with g;injection g with g;injection g with g;subst g;obtain⟨v,P,O⟩:=o.b2 h;exact(_,_,i,v,aa,aa,dX.of q,P,k v S R w t O)
def jO{h:Type}(g:af h)(k l:aJ ah):af h:=(g.drop<|il g.length 0 k).take<|il g.length g.length l- il g.length 0 k
def cx.b4{F:ay}{g:af aH}(h:cx F g G)(k l:aJ ah):cx F (yG g k l) (jO G k l):=by unfold yG jO;rw[h.a1];exact(h.b3 _).b1 _
def zl:qf X aq (yS B z m aq):=WZ abq λg H Q (F,A,k)=>k F H (bD.a2 _) A
def qt(h:aA X e (aP B z m<|.a i)):qf X (ai e) (yS B z m<|ai i):=WZ (abp h) λr H Q (F,A,k)=>(F,A,λv o n g q l=>by cases l;exact(i,aa,k o n g q))
def xh{l n:aJ bI}(w:aA X e (aP B z m<|.d G))(t:qf X l (yS B z m ol))(u:qf X n (yS B z m oh)):aA X (.Subscript e (.Slice l n aq L) E) (lV B z m<|jO G ol oh):=
 eL (Pt OX w t u) λM H Q (F,A,k)=>(F,A,λv C P q I s=>(C,I,λy O h D=>(y,D,λR N g o=>by
  cases s.up (h.a0 g)with
  |a0 e r=>exact(_,_,aa,dX.of<|o.fh _ _ e,xg ((q.a0 h).a0 g) o (r.b4 ol oh) k))))
def jl(ha:aA X a (aP B z m<|.d G))(t:aA X b (aP B z m<|.d es'))(s:G.length+es'.length<=1000000):aA X (.BinOp a .Add b E) (lV B z m<|G++es'):=
 eL (DX abV ha t) λy H Q (F,A,k)=>(F,A,λD v M n w q=>(v,w,λC N I h g o=>by
  cases q.up h with|a0 e r=>
   cases o using W2 with|a0 u l=>exact(_,_,_,_,aa,aa,g.fh _ _ e,g.fh _ _ u,by rw[r.a1,l.a1];exact fx s ⋯,xg (n.a0 h) g (r.a5 l) k)))
def tQ{n:ag}(S:aA X a (aP B z m<|.d [d]))(v:aA X b (aP B z m<|.a n))(t:n<=1000000):aA X (.BinOp a .Mult b E) (lV B z m<|cg n d):=
 eL (DX abP S v) λD H Q (F,A,k)=>(F,A,λM y P l C q=>(y,C,λI R O g h o=>by
  cases o;cases q.up g with|a0 e r=>
   cases r using X2 with|a0 u s=>
    cases s;refine(_,_,_,aa,aa,h.fh _ _ e,(_),!_,?_,?_);have:1*n<=dG:=by rw[ZC];exact fx t ⋯
    exact this;have w:(cg ((n:ah).toNat) [‹aH›]).flatten=cg n ‹aH› :=by
     rw[Int.toNat_natCast];induction n with|zero=>rfl|succ n N=>rw[Ay,Ay];simp
    rw[w];exact xg (l.a0 g) h (cx.b6 u n) k))
def xC{id:qQ}(M:nh X (.builtin id) r)(D:X.mg x=aq)(y:lG x=ai (.builtin id))(o:eW X (e::J) (lW B z m G))
  (h:∀F H g (Q:dw),bD F H->cx F g G->(∀v,bY F v d->Q v H)->r g H Q)(I:dn X x|>1)(C:x≠"__name__"|>2)(n:dA x|>2)
  (he:eI X e J|>1)(l:eG X E J|>1):aA X (.Call (.Name x p) (e::J) [] E) (aP B z m d):=
 eL (IH M I D y o C n he l) λN H Q (F,A,k)=>(F,A,λg s o u t w=>h s o g Q t.fh w λv q=>k v s o u t q)
def A8{id:qQ}(M:nh X (.type id) r)(D:X.mg x=aq)(y:lG x=ai (.type id))(o:eW X (e::J) (lW B z m G))
  (h:∀F H g (Q:dw),bD F H->cx F g G->(∀v,bY F v d->Q v H)->r g H Q)(I:dn X x|>1)(C:x≠"__name__"|>2)(n:dA x|>2)
  (he:eI X e J|>1)(l:eG X E J|>1):aA X (.Call (.Name x p) (e::J) [] E) (aP B z m d):=
 eL (DY M I D y o C n he l) λN H Q (F,A,k)=>(F,A,λg s o u t w=>h s o g Q t.fh w λv q=>k v s o u t q)
def kN(h:cx F vs [d]):∃v,vs=[v]/\bY F v d:=by
 cases h using X2 with|a0 a b=>cases b;exact(_,aa,a)
end
local macro_rules|`(($n:num))=>`(aj $n)|`(#[$a])=>`(au $a aD)|`(#[$a,$b,*])=>`(au $a #[$b,*])
structure jS(K:aZ)(C:ax)(ns:af aC):Prop where
 a:wK K C
 b:∀f∈ns,sb K C f
 c:ns.Nodup
def Et:∀{a:af aC} {b:af aH} {j:ag} {f:aC} {v:aH},a.Nodup->a[j]?=ai f->b[j]?=ai v->(a.zip b).lookup f=ai v
 |[],_,j,f,v,_,h,_=>by simp at h|n::a,[],j,f,v,_,_,h=>by simp at h|n::a,w::b,0,f,v,c,h,e=>by simp at h e;subst h e;simp|n::a,w::b,j+1,f,v,c,h,e=>by have g:=eC (by simpa using h);have d:f≠n:=λq=>(qX.mp c).1<|q▸g;show((n,w)::a.zip b).lookup f=ai v;rw[oe];have:(f==n)=aw:=zQ.mpr d;rw[this];exact Et (qX.mp c).2 (by simpa using h) (_)
section
variable{X:bA}{m g:ay}{ρ u:af bL}{e a b c:bI}{es:af bI}{t p B:dj}{d I J:az}{ds:af az}{i j:ah}{x f:aC}{C:ax}{ns:af aC}
def cC(n:ag)(q:jS X.K C ns)(D:aA X e (aP m g ρ<|.m C ns ds))(s:ns[n]?=ai f|>1)(E:ds[n]?=ai d|>1)(G:ie e f X.a0 (bN e X.a0)=bN e X.a0|>1):aA X (.Attribute e f t) (aP m g ρ d):=
 eL (wF D G) λP H Q (F,A,k)=>(F,A,λv O N y w z=>by
  cases z using W7 with|a8 h r l=>obtain⟨v,M,L⟩:=r.a4 E;exact(_,C,_,_,v,aa,w.fh _ _ h,q.a,q.b f<|eC s,Et q.c s M,k v O N y w L))
def bc(n:ag)(q:jS X.K C ns)(E:aA X e (aP m g ρ<|.k y C ns ds))(s:ns[n]?=ai f|>1)(G:ds[n]?=ai d|>1)(L:ie e f X.a0 (bN e X.a0)=bN e X.a0|>1):aA X (.Attribute e f t) (aP m g ρ d):=
 eL (wF E L) λR H Q (F,A,k)=>(F,A,λv P O z w D=>by
  cases D using W5 with|a4 h r l=>obtain⟨v,N,M⟩:=r.a4 G;exact(_,C,_,_,v,aa,w.fh _ _ h,q.a,q.b f<|eC s,Et q.c s N,k v P O z w M))
def aeA(R:af az->az->Prop):k_:=λl H Q _=>∃F ds d,bD F H/\cx F l ds/\R ds d/\∀v k h,cZ F H k h->bY k v d->Q v h
structure cI(P:cn)(w:bS)(K:aZ)(mg:aC->aJ aB)(base:bT)(k:ag)(x:aC)(R:af az->az->Prop):Prop where
 ex:∃(f:ax) (fd:jY) (ps:af aC),gR P w K mg base kb k f fd ps (aeA R)/\mg x=ai (.ref f)/\mr K (.ref f)=ao/\la K fd ps []
def aY(h:cI X.a2 X.w X.K X.mg X.a8 k x R)(o:eW X (e::es) (lW m g ρ ds))(N:R ds d)(z:dy k X.A|>3)(L:dn X x|>1)(n:dA x|>2)
  (he:eI X e es|>1)(l:eG X t es|>1):aA X (.Call (.Name x p) (e::es) [] t) (aP m g ρ d):=by
 obtain⟨f,Y,W,F,D,E,M⟩:=h.ex;refine eL (uR F z L D E M .nil (mZ) o n he l) λT H Q (G,A,q)=>(G,A,λU S Z s r V=>?_);refine(S,ds,d,r.fh,?_,N,λv P O rl y=>q v P O (s.a0 rl.ff) (r.up rl) y);nofun
def aeD(C:ax)(ns:af aC)(R:af az->af az->Prop):k_:=λr H Q _=>∃(p n:ax) (q:af aH) (F:ay) (ds s:af az),r=.c p::q/\H p=ai (.c C n [])/\F p=aq/\bD F H/\cx F q ds/\R ds s/\∀k h l,bD F k->(∀b o,H b=ai o->b≠p->h b=ai o)->bD k h->(∀b,H b≠aq->F b=aq->k b=aq)->h p=ai (.c C n<|ns.zip l)->ns.length=l.length->cx k l s->Q .f h
structure vH(P:cn)(w:bS)(K:aZ)(mg:aC->aJ aB)(base:bT)(k:ag)(x:aC)(C:ax)(ns:af aC)(R:af az->af az->Prop):Prop where
 a:∃(f:ax) (fd:jY) (ps:af aC),gR P w K mg base kb k f fd ps (aeD C ns R)/\mg x=ai (.ref C)/\yL K C f/\la K fd ps []
def Pi{x h:ax}(A:bE m g F H σ ρ)(L:H x=aq)(y:H h=aq)(G:h≠x)(s:bD F F')
  (k:∀b o,(bu (bu H h<|.e x) x<|.c C h []) b=ai o->b≠x->H' b=ai o)(D:bD F' H')(r:∀b,(bu (bu H h<|.e x) x<|.c C h []) b≠aq->F b=aq->F' b=aq)
  (hx:H' x=ai (.c C h<|ns.zip ws)):bE m g (bu F' x<|.c C h<|ns.zip ws) H' σ ρ/\bD F' (bu F' x<|.c C h<|ns.zip ws):=by
 have v:=bD.a3 L y k;have z:=(A.a9 L).1;have l:=r x (by rw[bO];simp) z;have E:=A.up (s,v,D,λb K n=>r b (by by_cases q:b=x;nofun;rw[aO q];by_cases w:b=h;nofun;rwa[aO w]) n);exact E.b7 hx l (A.a9 L).2 λi ds e q=>A.b4 L i ds e q
def rC(h:vH X.a2 X.w X.K X.mg X.a8 k x C ns R)(w:eW X (e::es) (lW m g ρ ds))(Z:R ds fs)(T:dy (k+1) X.A|>3)(W:dn X x|>1)(r:dA x|>2)
  (he:eI X e es|>1)(n:eG X t es|>1):aA X (.Call (.Name x p) (e::es) [] t) (aP m g ρ<|.m C ns fs):=by
 obtain⟨f,fd,ps,F,U,M,Y⟩:=h.a;refine eL (IF M F T W U Y .nil (mZ) w r he n) λσ H Q (G,A,q)=>(G,A,λL F1 H1 N v O=>λy K o E D=>?_);refine(y,K,L,F1,ds,fs,by rw[kH],bO,(v.a9 o).1,?_,O,Z,λF' H' ws s k fh P S V l=>(aa,?_));exact(v.fh.a0<|jG E).a0<|jG (by rwa[aO<|dZ D]);obtain⟨A2,z⟩:=Pi v o E D s k fh P S;exact q _ _ _ ((N.a0 s).a0 z) A2<|.a8 bO (l.up z) V
inductive lB where
 |a (ρ:af bL)|b (d:az)|c (Pd:az->Prop)
def cT(m g:ay)(ρ:af bL)(o:lB):hX:=λE n H=>∃F,bE m g F H n ρ/\match o with|.a u=>∀l h k,bD F h->bE m g h k l u->E.a l k|.b d=>∀v h k,bD F h->cZ m g h k->bY h v d->E.b v k|.c l=>∀v d h k,l d->bD F h->cZ m g h k->bY h v d->E.b v k
variable{st:du}{rest:af du}{o:lB}
def aL(h1:cH X st (cT m g ρ<|.a ρ1))(D:bg X rest (cT m g ρ1 o)):bg X (st::rest) (cT m g ρ o):=
 fg (eN h1 D) λE L H (F,A,k)=>(F,A,λy G M s K=>(G,K,by
  cases o with|a u=>exactλw n l h q=>k w n l (s.a0 h) q|b d=>exactλv n l h q r=>k v n l (s.a0 h) q r|c N=>exactλv d n l z h q r=>k v d n l z (s.a0 h) q r))
def Sx(h1:cH X st (cT m g ρ o)):bg X [st] (cT m g ρ o):=uM h1
def aX(h1:cH X st (cT m g ρ<|.b d)):bg X (st::rest) (cT m g ρ<|.b d):=fg (eN h1 lM) λE h H (F,A,k)=>(F,A,k)
def Mn(o1:lB)(l:af bL->Prop)(k:az->Prop):Prop:=match o1 with|.a h=>l h|.b d=>k d|.c _=>eo
def yZ(h1:cH X st (cT m g ρ o1))(k:Mn o1 (λh=>bg X rest<|cT m g h o) λd=>o=.b d):bg X (st::rest) (cT m g ρ o):=by
 cases o1 with|a h=>exact aL h1 k|b d=>have e:o=.b d:=k;simp[*,aX]|c l=>exact mP k
def bV:bg X [] (cT m g ρ<|.a ρ):=fg DU λE h H (F,A,k)=>k h F H (bD.a2 _) A
def fj(h:bg X sts (cT m g ρ<|.a ρ1))(w:jQ ρ1 u):bg X sts (cT m g ρ<|.a u):=fg h λE v H (F,A,k)=>(F,A,λl q n s r=>k l q n s<|r.b5 w)
def fB(h:bg X sts (cT m g ρ<|.b I))(q:I=J):bg X sts (cT m g ρ<|.b J):=q▸h
def bb(h:aA X e (aP m g ρ d)):cH X (.Return (ai e) t) (cT m g ρ<|.b d):=eK (yA h) λE w H (F,A,k)=>(F,A,λv n l s q r=>k v n l s q.tocZ r)
def bK(hc:cP X c (eg m g ρ k))(L:k=ao->bg X as (cT m g ρ o))(K:k=aw->bg X bs (cT m g ρ o)):cH X (.If c as bs t) (cT m g ρ o):=by
 cases k with
 |true=>exact eK (rX hc (L aa) lM) λE G H (F,A,k)=>(F,A,λz M w D=>om (z,D,by
  cases o with|a u=>exactλs n l h q=>k s n l (w.a0 h) q|b d=>exactλv n l h q r=>k v n l (w.a0 h) q r|c N=>exactλv d n l y h q r=>k v d n l y (w.a0 h) q r))
 |false=>exact eK (rX hc lM<|K aa) λE G H (F,A,k)=>(F,A,λz M w D=>m_ (z,D,by
  cases o with|a u=>exactλs n l h q=>k s n l (w.a0 h) q|b d=>exactλv n l h q r=>k v n l (w.a0 h) q r|c N=>exactλv d n l y h q r=>k v d n l y (w.a0 h) q r))
def cB(n:ag)(w:aA X e (aP m g ρ d))(y:X.N.Nodup)(s:X.N[n]?=ai x|>1)(q:h_ X.a0.scope x|>3)(r:fS e (ai<|.Name x p) t.line X.a0=cA aw|>1)
  (hf:iE X x|>3):cH X (.Assign [.Name x p] e t) (cT m g ρ<|.a<|ρ.set n<|.a d):=
 eK (pk y s q w r hf) λE K H (F,A,k)=>(F,A,λv D z h G l=>k _ D z h<|G.a7 n l)
def bE.c0{F H:ay}{s:cw}(A:bE m g F H s ρ){a:ax}{v:af aH}(n:ag)(W:H a=ai (.a v))(U:F a=aq)(T:g a=aq)(L:zK s ρ a)(S:cx F v ds):bE m g F H (s.set n<|ai<|.c a) (ρ.set n<|.c ds) where
 tocZ:=A.tocZ
 a5:=by rw[j',j'];exact A.a5
 a3:=λj Z e=>by by_cases q:n=j;grind?;rw[hW q]at e ⊢;exact A.a3 j Z e
 a0:=λj h e=>by by_cases q:n=j;subst q;have R:n<ρ.length:=(by grind?);rw[mY R]at e;cases e;exact(a,v,mY (by rwa[A.a5]),W,U,T,S);rw[hW q]at e ⊢;exact A.a0 j h e
 a1:=λj Q e=>by by_cases q:n=j;grind?;rw[hW q]at e ⊢;exact A.a1 j Q e
 a8:=λj k h Y y P O N M=>by
  have D:∀{j:ag} {h:af az},(ρ.set n<|.c ds)[j]?=ai (.c h)->(s.set n<|ai<|.c a)[j]?=ai (ai<|.c y)->(n=j/\y=a)\/(n≠j/\ρ[j]?=ai (.c h)/\s[j]?=ai (ai<|.c y)):=λ{j h} P N=>by by_cases q:n=j;left;nofun
  rcases D P N with⟨q,z⟩|⟨q,G,E⟩;rcases D O M with⟨w,K⟩|⟨w,r,l⟩;nofun;subst z;exact bG l<|L k _ r;rcases D O M with⟨w,K⟩|⟨w,r,l⟩;subst K;exact bG E<|L j _ G;exact A.a8 j k _ _ y G r E l
def ia(n:ag)(s:aA X e (lV m g ρ ds))(v:X.N.Nodup)(r:X.N[n]?=ai x|>1)(l:h_ X.a0.scope x|>3)(q:fS e (ai<|.Name x p) t.line X.a0=cA aw|>1)
  (hf:iE X x|>3):cH X (.Assign [.Name x p] e t) (cT m g ρ<|.a<|ρ.set n<|.c ds):=
 eK (pk v r l s q hf) λE O H (F,A,k)=>(F,A,λa P L K h M G D z y w=>k _ L K h<|M.c0 n G D z y w)
def Bm{l:af α}{x:α}(h:l[n]?=ai x):l.set n x=l:=by apply yt;grind?
def bE.b6(A:bE m g F H σ ρ)(E:ρ[n]?=ai (.c ds)):∃O,bD F O/\bE m g O H σ (ρ.set n<|.a<|.d ds):=by
 obtain⟨a,vs,M,V,U,T,S⟩:=A.a0 n ds E;obtain⟨r,s⟩:=A.tocZ.a6 V U T;have R:=(eM.mp E).1;have w:∀{j:ag} {h:af az},(ρ.set n<|.a<|.d ds)[j]?=ai (.c h)->n≠j/\ρ[j]?=ai (.c h):=λ{j h} e=>by by_cases q:n=j;nofun;nofun
 refine(_,s,(r,by rw[j'];exact A.a5,λj D e=>?_,λj h e=>?_,λj P e=>?_,λj k h L y e1 Z=>A.a8 j k h L y (w e1).2 (w Z).2));by_cases q:n=j;subst q;rw[mY R]at e;cases e;exact(_,M,.a0 bO<|S.up s);rw[hW q]at e;obtain⟨v,K,G⟩:=A.a3 j D e;exact(v,K,G.up s);obtain⟨q,e⟩:=w e;obtain⟨N,l,K,G,g3,Y,W⟩:=A.a0 j h e;have Q:N≠a:=λz=>q<|A.a8 n j ds h a E e M ();exact(N,l,K,G,by rwa[aO Q],Y,W.up s);by_cases q:n=j;nofun;rw[hW q]at e;exact A.a1 j P e
def iI(n:ag)(G:ρ[n]?=ai (.c ds))(h:bg X sts (cT m g (ρ.set n<|.a<|.d ds) o)):bg X sts (cT m g ρ o):=
 fg h λE M H (F,A,k)=>by
  obtain⟨K,s,L⟩:=A.b6 G;refine(K,L,?_);cases o with|a u=>exactλz w q l y=>k z w q (s.a0 l) y|b d=>exactλv w q l y r=>k v w q (s.a0 l) y r|c N=>exactλv d w q D l y r=>k v d w q D (s.a0 l) y r
def bE.b1(A:bE m g F H σ ρ){a:ax}(w:ρ[n]?=ai (.c ds))(D:σ[n]?=ai (ai<|.c a))(r:cx F ws es'):bE m g F (bu H a<|.a ws) σ (ρ.set n<|.c es'):=by
 obtain⟨E,T,l,W,O,N,V⟩:=A.a0 n ds w;rw[D]at l;injection l with l;injection l with l;injection l with l;subst l;have s:∀{j:ag} {h:af az},(ρ.set n<|.c es')[j]?=ai (.c h)->∃v,ρ[j]?=ai (.c v):=λ{j h} e=>by by_cases q:n=j;nofun;nofun
 refine(A.tocZ.wr O N,by rw[j'];exact A.a5,λj S e=>?_,λj h e=>?_,λj M e=>?_,λj k h P y R Q=>?_);by_cases q:n=j;grind?;rw[hW q]at e;exact A.a3 j S e;by_cases q:n=j;(nofun;grind?[bO]);rw[hW q]at e;obtain⟨E,L,g1,g2,g3,Z,Y⟩:=A.a0 j h e;have U:E≠a:=λz=>q<|A.a8 n j ds h a w e D ();simp[*,aO];by_cases q:n=j;grind?;rw[hW q]at e;exact A.a1 j M e;obtain⟨_,K⟩:=s R;obtain⟨_,G⟩:=s Q;exact A.a8 j k _ _ y K G
section
variable(n:ag)(l:ρ[n]?=ai (.c ds)){h:dj}
include l
def kf(he:aA X e (aP m g ρ d))(hl:ds.length<1000000)(Y:X.N[n]?=ai x|>1)
  (hv:eF X.a0.scope x|>3)(W:dA x|>2)(D:fP x|>2)
  (hbase:ie (.Name x p) "append" X.a0 (bN (.Name x p) X.a0)=bN (.Name x p) X.a0|>1)
  (hfew:wM X B e|>1)
  (hline:(h.endLine==B.line)=ao|>1)(K:eI X e []|>1)(q:eG X B []|>1)
  (hsw:fS (.Call (.Attribute (.Name x p) "append" h) [e] [] B) aq t.line X.a0=cA aw|>1):
  cH X (.Expr (.Call (.Attribute (.Name x p) "append" h) [e] [] B) t) (cT m g ρ<|.a<|ρ.set n<|.c<|ds++[d]):=by
 have V:rg X "list.append" AJ:=λw s y H x O v R Q=>D_ w s y H x O v R Q;refine eK (uN (uS uC Dt HJ V (ft Y hv W D) (au he aD K) hbase hfew hline K q) hsw) λE y H (F,A,k)=>?_;obtain⟨a,P,G,Z,h3,h4,h5⟩:=A.a0 n ds l;refine(_,G,.inl (aa,P,dX.of Z),F,A,λws F1 H1 S M U=>?_);obtain⟨v,rfl,T⟩:=kN U;obtain⟨a',z,r,N,g3,g4,L⟩:=M.a0 n ds l;rw[G]at r;injection r with r;injection r with r;injection r with r;subst r;exact(a,z,v,aa,aa,N,gX (by rwa[L.a1]) ⋯,k y F1 _ S<|M.b1 l G<|L.a5<|.a0 T .a2)
def vk{k:ag}(z:aA X e (aP m g ρ d))(S:aA X b (aP m g ρ<|.a i))(hk:lP ds.length i=ai k)(U:X.N[n]?=ai x|>1)
  (hv:eF X.a0.scope x|>3)(T:dA x|>2)(D:fP x|>2)
  (ha:(∀v,kE (.Subscript (.Name x p) b B) X.a0 v=(do
   let N<-jW [v]<|bN (.Name x p) X.a0
   let y<-jW [v,N] (bN b X.a0)
   we B
   jW [v,N,y] (qT N y v)
   s_ [v,N,y] []))|>4)
  (hs:Hs [.Subscript (.Name x p) b B] e t.line X.a0=cA aw|>1)(hw:Ht [.Subscript (.Name x p) b B] e X.a0=cA aq|>1)
  (s:(gL [.Subscript (.Name x p) b B] X.a0).map (·.2)=[kE (.Subscript (.Name x p) b B) X.a0]|>1):
  cH X (.Assign [.Subscript (.Name x p) b B] e t) (cT m g ρ<|.a<|ρ.set n<|.c<|ds.set k d):=
 eK (Iz z (IC (ft U hv T D) S yy ha) hs hw s) λE O H (F,A,q)=>(F,A,λv Y H1 P M R=>by obtain⟨a,Z,s,h2,h3,h4,h5⟩:=M.a0 n ds l;refine(_,s,Y,M,λv2 W H2 G L Q=>?_);cases Q;obtain⟨a',w,r,V,g3,g4,K⟩:=L.a0 n ds l;rw[s]at r;injection r with r;injection r with r;injection r with r;subst r;exact(a,w,i,k,aa,aa,V,by rwa[K.a1],q O W _ (P.a0 G)<|L.b1 l s<|K.a9 (R.up G) k))
end
end
structure GD(J:my)(Fi:ay)(items:af az):Prop where
 b:∀(i:ag) F H,bD Fi F->bD F H->i<items.length->J.b i H
 c:∀(i:ag) F H x H' d,bD Fi F->bD F H->items[i]?=ai d->J.a i H x H'->∃F',cZ F H F' H'/\bY F' x d
 a:∀(i:ag) F H,bD Fi F->bD F H->items.length<=i->J.c i H
def kJ(g e:ay)(d:af bL)(a:af az):oo:=λc H R=>∃F,bE g e F H c d/\∀J b f,bD F b->bE g e b f c d->GD J b a->R J f
section
variable{X:bA}{o B:ay}{G W:af bL}{L e U a b c K:bI}{Y:af bI}{pos p p2 O:dj}{d P S:az}{M:af az}{i j:ah}{x f:aC}{C:ax}{Z:af aC}
def gm(h:aA X e (aP o B G<|.d M)):fz X L e (kJ o B G M):=sI (abz h) λJ H R (F,A,k)=>(F,A,λv I E n m q=>by
 cases q using W2 with|a0 e r=>
  rename_i a g;refine(a,aa,(_,dX.of<|m.fh _ _ e),k _ I E n m (λi F H s t w=>?_,λi F H x N d s t y l=>?_,λi F H s t w=>?_));have u:i<g.length:=by rwa[r.a1]
  exact(g,g[i],dX.of<|t _ _<|s _ _ e,by simp);obtain⟨rfl,l⟩:=l;obtain⟨v,D,z⟩:=r.a4 y;have:=l g<|dX.of<|t _ _<|s _ _ e;rw[D]at this;cases this;exact(F,cZ.a3 t,z.up s);exact(g,dX.of<|t _ _<|s _ _ e,by rwa[r.a1]))
def On(hm:X.mg "reversed"=aq)(h:aA X e (aP o B G<|.d M))(E:dn X "reversed"|>1)(n:dC [e] X.a0=[(aw,bN e X.a0)]|>1):fz X L (.Call (.Name "reversed" p) [e] [] pos) (kJ o B G M.reverse):=
 sI (abw E hm (au h aD n) n) λT H R (F,A,k)=>(F,A,λV Q N w u z=>by
  obtain⟨v,rfl,y⟩:=kN z;cases y using W2 with|a0 e r=>
   rename_i a g;refine(a,g,aa,dX.of<|u.fh _ _ e,k _ Q N w u (λi F H s t l=>?_,λi F H x H' d s t I m=>?_,λi F H s t l=>?_));rw[ZX]at l;have D:i<g.length:=by rwa[r.a1]
   exact(D,g,g[g.length- 1- i]'(),dX.of<|t _ _<|s _ _ e,by rw[cK]);obtain⟨rfl,m⟩:=m;obtain⟨v,q,J⟩:=r.b7.a4 I;have:=m g<|dX.of<|t _ _<|s _ _ e;have l:i<g.length:=(by grind?);rw[List.getElem?_reverse l]at q;rw[q]at this;cases this;exact(F,cZ.a3 t,J.up s);rw[ZX]at l;rwa[r.a1])
def rr(hm:X.mg "zip"=aq)(h:aA X e (aP o B G<|.d M))(h2:aA X U (aP o B G<|.d es'))(hg:dn X "zip"|>1)
  (hs:eI X e [U]|>1)(V:eI X U []|>1)(hpl:eG X pos [U]|>1):
  fz X (.Tuple elts kk O) (.Call (.Name "zip" p) [e,U] [] pos) (kJ o B G<|Oo (λa b=>az.f [a,b]) M es'):=
 sI (Pr hg hm (au h (au h2 aD V) hs) hs hpl) λσ H R (F,A,k)=>(F,A,λws F1 H1 s1 A1 r1=>by
  obtain⟨v,w,rfl,r2,r3⟩:=r1.b0;cases r2 using W2 with|a0 e r=>
   cases r3 using W2 with|a0 q E=>
    rename_i a m a' g;refine(a,a',m,g,aa,dX.of<|A1.fh _ _ e,dX.of<|A1.fh _ _ q,k _ F1 H1 s1 A1 (λi F H s t hi=>?_,λi F H x H' d s t l hy=>?_,λi F H s t hi=>?_));rw[ZW]at hi;have hv:i<m.length:=by rw[r.a1];grind
    have Q:i<g.length:=by rw[E.a1];grind
    exact(m,g,m[i],g[i],dX.of<|t _ _<|s _ _ e,dX.of<|t _ _<|s _ _ q,by simp,by simp);obtain⟨T,y,z,rfl,hT,rfl,N,J⟩:=hy;rw[List.getElem?_zipWith]at l;cases n:M[i]? with|none=>rw[n]at l;simp at l|some g1=>
     cases I:es'[i]? with|none=>rw[n,I]at l;simp at l|some g2=>rw[n,I]at l;simp at l;subst l;obtain⟨u,h1,h2⟩:=r.a4 n;obtain⟨u',h1',h2'⟩:=E.a4 I;have z1:=N m<|dX.of<|t _ _<|s _ _ e;have z2:=J g<|dX.of<|t _ _<|s _ _ q;rw[h1]at z1;rw[h1']at z2;cases z1;cases z2;have sT:bD F (bu F T<|.b [y,z]):=jG<|t.a1 hT;exact(bu F T<|.b [y,z],(cZ.a3 t).a8 hT,.a3 bO<|.a0 (h2.up<|s.a0 sT)<|.a0 (h2'.up<|s.a0 sT) .a2)
    rw[ZW]at hi;refine(m,g,dX.of<|t _ _<|s _ _ e,dX.of<|t _ _<|s _ _ q,?_);rw[r.a1,E.a1];lia)
def qy:ag->af az->af az
 |_,[]=>[]|n,d::r=>.f [.a n,d]::qy (n+1) r
def xA:∀(n:ag) (l:af az),(qy n l).length=l.length
 |_,[]=>aa|n,d::r=>by show(qy (n+1) r).length+1=r.length+1;rw[xA]
def Gd:∀{n:ag} {l:af az} {i:ag} {d:az},(qy n l)[i]?=ai d->∃g,l[i]?=ai g/\d=.f [.a ((n+i:ag):ah),g]
 |_,[],i,d,h=>by simp[qy]at h|n,g::r,0,d,h=>by simp[qy]at h;exact(g,aa,by rw[<-h];rfl)|n,g::r,i+1,d,h=>by obtain⟨q,m,k⟩:=Gd (by simpa[qy]using h);exact(q,by simpa using m,by rw[k];congr 4;lia)
def FD(hm:X.mg "enumerate"=aq)(h:aA X e (aP o B G<|.d M))(hg:dn X "enumerate"|>1)(w:dC [e] X.a0=[(aw,bN e X.a0)]|>1):
  fz X (.Tuple elts kk O) (.Call (.Name "enumerate" p) [e] [] pos) (kJ o B G<|qy 0 M):=
 sI (abA hg hm (au h aD w) w) λσ H R (F,A,k)=>(F,A,λws F1 H1 I D N=>by
  obtain⟨v,rfl,J⟩:=kN N;cases J using W2 with|a0 e r=>
   rename_i a l;refine(a,l,aa,dX.of<|D.fh _ _ e,k _ F1 H1 I D (λi F H s t n=>?_,λi F H x H' d s t hd V=>?_,λi F H s t n=>?_));rw[xA]at n;have hv:i<l.length:=by rwa[r.a1]
   exact(l,l[i],dX.of<|t _ _<|s _ _ e,by simp);obtain⟨T,y,rfl,z,rfl,m⟩:=V;obtain⟨g,Q,rfl⟩:=Gd hd;obtain⟨u,h1,h2⟩:=r.a4 Q;have q:=m l<|dX.of<|t _ _<|s _ _ e;rw[h1]at q;cases q;have E:bD F (bu F T<|.b [.d i,y]):=jG<|t.a1 z;refine(bu F T<|.b [.d i,y],(cZ.a3 t).a8 z,.a3 bO<|.a0 ?_<|.a0 (h2.up<|s.a0 E) .a2);rw[HQ];exact .a1 _;rw[xA]at n;exact(l,dX.of<|t _ _<|s _ _ e,by rwa[r.a1]))
def zo{n:ag}(E:X.mg "range"=aq)(h:aA X e (aP o B G<|.a n))(hn:n<=1000000)(J:dn X "range"|>1)(r:dC [e] X.a0=[(aw,bN e X.a0)]|>1):
  fz X L (.Call (.Name "range" p) [e] [] pos) (kJ o B G<|(bP n).map λi=>az.a (i:ag)):=
 sI (aby J E (au h aD r) r) λV H R (F,A,k)=>(F,A,λD Q N u T y=>by
  obtain⟨v,rfl,w⟩:=kN y;cases w;refine(n,aa,(_),!_,k _ Q N u T (λi F H s t m=>?_,λi F H x H' d s t g z=>?_,λi F H s t m=>?_));simp at m;show i<(n:ah).toNat;symm;obtain⟨rfl,rfl⟩:=z;refine(F,cZ.a3 t,?_);rw[cV]at g;cases q:(bP n)[i]? with
  |none=>rw[q]at g;cases g
  |some k'=>rw[q]at g;obtain⟨I,l⟩:=eM.mp q;simp at l;simp at g;subst g l;have:(0:ah)+i=i:=¬_;rw[this];exact .a1 _
  simp at m;show(n:ah).toNat<=i;symm)
def Un(h:aA X e (aP o B G<|.j z)):fz X L e (kJ o B G<|z.cps.toList.map λc=>az.j ⟨(List.toArray [c])⟩):=sI (abv h) λE H R (F,A,k)=>(F,A,λv w u m y n=>by cases n;refine(z,aa,k _ w u m y (λi F H s t g=>?_,λi F H x J d s t l r=>?_,λi F H s t g=>?_));simp at g;exact g;obtain⟨rfl,c,I,rfl⟩:=r;refine(F,cZ.a3 t,?_);rw[cV]at l;have q:z.cps.toList[i]?=ai c:=∅;rw[q]at l;simp at l;subst l;exact .a9 _;simp at g;exact g)
def vf(σ:cw)(n:ag)(y:aJ aH):∀g:af ag,gZ (σ.set n y) g=if n∈g then gZ σ g else(gZ σ g).set n y
 |[]=>by rfl|v::g=>by show(gZ (σ.set n y) g).set v aq=_;rw[vf σ n y g];by_cases h:n∈g;rw[aG h,aG<|cO _ h];rfl;rw[aE h];by_cases q:v=n;subst q;rw[aG gY,HW];rfl;rw[aE (),List.set_comm _ _<|dZ q];rfl
def sh(o B:ay)(G:af bL)(d:az)(W:af bL)(l:af ag):rf:=λv m H Q=>∃F,bE o B F H m G/\bY F v d/\∀g q n,(∀h:af ag,(∀k∈l,k∈h)->gZ g h=gZ m h)->bD F q->bE o B q n g W->Q g n
def e_(n:ag)(q:X.N.Nodup)(l:X.N[n]?=ai x|>1)(g:h_ X.a0.scope x|>3)(m:iE X x|>3):
  jd X (.Name x pos) (sh o B G d (G.set n<|.a d) [n]):=
 Ms (uP q l g m) λv s H Q (F,A,r,k)=>k _ F H (λt h=>by rw[vf,aG<|h n (_)]) (bD.a2 _)<|A.a7 n r
def SS(h:cx F vs [P,S,d3]):∃x y z,vs=[x,y,z]/\bY F x P/\bY F y S/\bY F z d3:=by
 cases h using X2 with|a0 m g=>obtain⟨y,z,rfl,l,k⟩:=g.b0;lia
def mf(n m:ag)(J:X.a9=ao)(s:X.N.Nodup)(E:X.N[n]?=ai x|>1)(D:h_ X.a0.scope x|>3)(I:iE X x|>3)
  (hi':X.N[m]?=ai y|>1)(g:h_ X.a0.scope y|>3)(q:iE X y|>3)
  (hn:(gL [.Name x px,.Name y py] X.a0).length=2|>1)(l:(gL [.Name x px,.Name y py] X.a0).findIdx? (·.1)=aq|>1)
  (h1:(gL [.Name x px,.Name y py] X.a0).map (·.2)=kE (.Name x px) X.a0::(gL [.Name y py] X.a0).map (·.2)|>1)(R:(gL [.Name y py] X.a0).map (·.2)=kE (.Name y py) X.a0::(gL [] X.a0).map (·.2)|>1):
  jd X (.Tuple [.Name x px,.Name y py] k pos) (sh o B G (.f [P,S]) ((G.set n<|.a P).set m<|.a S) [n,m]):=
 Ms (IB J (wD (uP s E D I) (wD (uP s hi' g q) IA R) h1) hn l) λv T H Q (F,A,r,k)=>by
  cases r using W3 with|a3 e r=>obtain⟨u,w,rfl,z,t⟩:=r.b0;exact(_,_,aa,iS.of<|A.fh _ _ e,aa,u,[w],aa,w,[],aa,aa,k _ F H (λV h=>by rw[vf,aG<|h m (_),vf,aG<|h n (_)]) (bD.a2 _)<|(A.a7 n z).a7 m t)
def Vu(n m l:ag)(hc:X.a9=ao)(I:X.N.Nodup)(N:X.N[n]?=ai x|>1)(V:h_ X.a0.scope x|>3)(hf:iE X x|>3)
  (hi':X.N[m]?=ai y|>1)(s:h_ X.a0.scope y|>3)(E:iE X y|>3)
  (hi2:X.N[l]?=ai z|>1)(q:h_ X.a0.scope z|>3)(D:iE X z|>3)
  (hn:(gL [.Name x px,.Name y py,.Name z pz] X.a0).length=3|>1)(t:(gL [.Name x px,.Name y py,.Name z pz] X.a0).findIdx? (·.1)=aq|>1)
  (h1:(gL [.Name x px,.Name y py,.Name z pz] X.a0).map (·.2)=kE (.Name x px) X.a0::(gL [.Name y py,.Name z pz] X.a0).map (·.2)|>1)(h2:(gL [.Name y py,.Name z pz] X.a0).map (·.2)=kE (.Name y py) X.a0::(gL [.Name z pz] X.a0).map (·.2)|>1)
  (h3:(gL [.Name z pz] X.a0).map (·.2)=kE (.Name z pz) X.a0::(gL [] X.a0).map (·.2)|>1):
  jd X (.Tuple [.Name x px,.Name y py,.Name z pz] k pos) (sh o B G (.f [P,S,d3]) (((G.set n<|.a P).set m<|.a S).set l<|.a d3) [n,m,l]):=
 Ms (IB hc (wD (uP I N V hf) (wD (uP I hi' s E) (wD (uP I hi2 q D) IA h3) h2) h1) hn t) λv σ H Q (F,A,r,k)=>by
  cases r using W3 with|a3 e r=>obtain⟨u,w,g,rfl,T,R,J⟩:=SS r;exact(_,_,aa,iS.of<|A.fh _ _ e,aa,u,[w,g],aa,w,[g],aa,g,[],aa,aa,k _ F H (λvs h=>by rw[vf,aG<|h l (_),vf,aG<|h m (_),vf,aG<|h n (_)]) (bD.a2 _)<|((A.a7 n T).a7 m R).a7 l J)
section
variable{g:Type}
def kg(env:af g->af bL)(l:af g->g->aJ az):af g->af g->lB
 |k,[]=>.a (env k)|k,z::h=>match l k z with|none=>kg env l (k++[z]) h|some d=>.b d
def xJ{m:ι->Prop}{t:ι->rf}(h:∀i,m i->jd X e (t i)):jd X e λv l H Q=>∃i,m i/\t i v l H Q:=λk s l H v u Q I r (i,n,q)=>h i n k s l H v u Q I r q
def oS{Pp:ι->Prop}{t:ι->hX}(h:∀i,Pp i->bg X sts (t i)):bg X sts λE l H=>∃i,Pp i/\t i E l H:=λk s l H E I (i,m,n)=>h i m k s l H E I n
def GA{m:ι->Prop}{t:ι->cS}(h:∀i,m i->aA X e (t i)):aA X e λl H Q=>∃i,m i/\t i l H Q:=λk s l H Q I (i,n,q)=>h i n k s l H Q I q
def Mq{m:ι->Prop}{t:ι->iR}(h:∀i,m i->tx X ifs (t i)):tx X ifs λl H Q=>∃i,m i/\t i l H Q:=λk s l H Q I (i,n,q)=>h i n k s l H Q I q
def EN{i:ag}(h:zs[i]?=ai z):zs=zs.take i++z::zs.drop (i+1)/\zs.take (i+1)=zs.take i++[z]:=by obtain⟨l,rfl⟩:=eM.mp h;exact(by simp,by simp)
def yY(zs:af g)(n:g->az)(h:af g->af bL)(w:af g->g->aJ az)(s:af g->g->af bL)
  (hi:fz X L K (kJ o B (h [])<|zs.map n))
  (hg:∀D z l,zs=D++z::l->jd X L (sh o B (h D) (n z) (s D z) idx))
  (hb:∀D z l,zs=D++z::l->bg X body (cT o B (s D z) (match w D z with|none=>.a (h<|D++[z])|some d=>.b d)))
  (hc:X.a9=ao)(hp:uB (bQ X.a2 X.w) X.A X.a0 X.xe)(hs:(∀x,pW K X.a0 x=cA x)|>4):
  cH X (.For L K body [] pos) (cT o B (h [])<|kg h w [] zs):=by
 refine eK (DV hp hc hi (xJ (ι:=af g×g×af g) λt ht=>hg t.1 t.2.1 t.2.2 ht) (oS (ι:=af g×g×af g) λt ht=>hb t.1 t.2.1 t.2.2 ht) hs) λE σ H (F,A,k)=>?_;refine(F,A,λJ F1 H1 s1 A1 it=>?_);refine(λi m σ H=>m=zs.length- i/\i<=zs.length/\kg h w (zs.take i) (zs.drop i)=kg h w [] zs/\∃F,bD F1 F/\bE o B F H σ (h<|zs.take i),(zs.length,aa,mW _,aa,F1,bD.a2 _,A1),?_);rintro i m T N ⟨rfl,hle,hrun,F2,s2,A2⟩;by_cases I:i<zs.length;have hz:=cK I;obtain⟨u,g0⟩:=EN hz;refine .inr (it.b i F2 N s2 A2.fh (by simp;omega),λr Q=>w (zs.take i) zs[i]=aq/\∃F,bD F1 F/\bE o B F Q r (h<|zs.take<|i+1),?_,?_);rintro r Q ⟨g1,F3,s3,A3⟩;refine(zs.length-(i+1),(),aa,I,?_,F3,s3,A3);grind?[kg];intro y Q hy;obtain⟨F3,rl,ry⟩:=it.c i F2 N y Q (n zs[i]) s2 A2.fh (by rw[cV,hz];rfl) hy;refine((zs.take i,zs[i],zs.drop<|i+1),u,F3,A2.up rl,ry,λσ3 F4 H4 _ s4 A4=>?_);refine((zs.take i,zs[i],zs.drop<|i+1),u,F4,A4,?_);cases q:w (zs.take i) zs[i]with
 |none=>intro σ5 F5 H5 V R;rw[<-g0]at R;exact(aa,F5,(s2.a0 rl.ff).a0<|s4.a0 V,R)|some d=>
  intro v F5 H5 V R r5;have e:kg h w [] zs=.b d:=by grind?[kg]
  rw[e]at k;exact k v F5 H5 (s1.a0<|(s2.a0 rl.ff).a0<|s4.a0 V) R r5
 have e:i=zs.length:=!_;subst e;refine .inl (it.a _ F2 N s2 A2.fh (),?_);rw[DD,OH]at hrun;rw[DD]at A2;have e:kg h w [] zs=.a (h zs):=by rw[<-hrun];rfl
 rw[e]at k;exact k T F2 N (s1.a0 s2) A2
def SE(env:af g->af bL):∀(h k:af g),kg env (λ_ _=>aq) k h=.a (env<|k++h)
 |[],k=>by unfold kg;rw[kH]|z::h,k=>by unfold kg;rw[SE env h,wA];rfl
def jh(zs:af g)(m:g->az)(h:af g->af bL)(l:af g->g->af bL)
  (hi:fz X L K (kJ o B (h [])<|zs.map m))
  (hg:∀r z k,zs=r++z::k->jd X L (sh o B (h r) (m z) (l r z) idx))
  (hb:∀r z k,zs=r++z::k->bg X body (cT o B (l r z)<|.a<|h<|r++[z]))
  (hc:X.a9=ao)(q:uB (bQ X.a2 X.w) X.A X.a0 X.xe)(n:(∀x,pW K X.a0 x=cA x)|>4):
  cH X (.For L K body [] pos) (cT o B (h [])<|.a<|h zs):=by
 have:=yY (pos:=pos) zs m h (λ_ _=>aq) l hi hg hb hc q n;simp_all[SE]
end
end
section
variable{X:bA}{G L:ay}{l W:af bL}{R e e2 a b c B O:bI}{T:af bI}{M p U S:dj}{d Y Z:az}{P:af az}{i j:ah}{x f:aC}{C:ax}{ns:af aC}
def WY{Pp:ι->Prop}{t:ι->iR}(h:∀i,Pp i->cP X e (t i)):cP X e λk H Q=>∃i,Pp i/\t i k H Q:=λg s k H Q I (i,m,n)=>h i m g s k H Q I n
def Sw{β:Type}{r:af du}(h:β->af bL)(g:β->da)(D:β->aJ az)(w:β->β)(z:β->ag)(s:β->Prop)(n:β->lB)(o:β->af bL)(hw:∀b,jQ (h b)<|o b)
  (hc:∀b,s b->cP X c (eg G L (h b)<|g b))
  (hb:∀b,s b->g b=ao->bg X r (cT G L (h b) (match D b with|none=>.a (h<|w b)|some d=>.b d)))
  (hI:∀b,s b->g b=ao->D b=aq->s (w b)/\z (w b)<z b)
  (hf:∀b,s b->n b=if g b=ao then(match D b with|none=>n (w b)|some d=>.b d)else .a<|o b)
  (b0:β)(h0:s b0)(hp:uB (bQ X.a2 X.w) X.A X.a0 X.xe):cH X (.While c r [] M) (cT G L (h b0)<|n b0):=by
 refine eK (Pn hp (WY hc)<|oS (Pp:=λb=>s b/\g b=ao) λb u=>hb b u.1 u.2) λE K H (F,A,k)=>?_;refine(λm K H=>∃b v,m=z b/\s b/\n b=n b0/\bD F v/\bE G L v H K (h b),(_,b0,F,aa,h0,aa,bD.a2 _,A),?_);rintro m y H1 ⟨b,F1,rfl,hv,hfin,s1,A1⟩;refine(b,hv,F1,A1,λV H2 s2 A2=>?_);cases N:g b with|false=>refine m_ ?_;have e:n b0=.a (o b):=∅;rw[e]at k;exact k y V H2 (s1.a0 s2) (A2.b5<|hw b)|true=>
  refine om ?_;refine(λt Q=>D b=aq/\∃v,bD F v/\bE G L v Q t (h<|w b),?_,?_);rintro t Q ⟨J,F3,s3,A3⟩;obtain⟨I,hm⟩:=hI b hv N J;refine(_,hm,w b,F3,aa,I,?_,s3,A3);nofun;refine(b,(hv,N),V,A2,?_);cases q:D b with|none=>(nofun;grind?[bD])|some d=>(nofun;grind?[bD])
def Fm:bL->bL
 |.c _=>.b|s=>s
def lS(l:af bL):af ag->af bL
 |[]=>l.map Fm|v::g=>(lS l g).set v .b
def Rv(l:af bL):∀g,(lS l g).length=l.length
 |[]=>by simp[lS]|v::g=>by rw[lS,j',Rv l g]
def JA:∀{g:af ag} {i:ag} {P:af az},(lS l g)[i]?≠ai (.c P)
 |[],i,P,h=>by
  rw[lS,cV]at h;cases q:l[i]? with
  |none=>rw[q]at h;cases h
  |some s=>rw[q]at h;cases s<;>simp[Fm]at h
 |v::g,i,P,h=>by rw[lS]at h;by_cases q:v=i;grind?;rw[hW q]at h;exact JA h
def Rt:∀{g:af ag} {i:ag} {d:az},(lS l g)[i]?=ai (.a d)->l[i]?=ai (.a d)/\i∉g
 |[],i,d,h=>by
  rw[lS,cV]at h;cases q:l[i]? with
  |none=>rw[q]at h;cases h
  |some s=>rw[q]at h;cases s<;>simp[Fm]at h;subst h;exact(aa,¬_)
 |v::g,i,d,h=>by rw[lS]at h;by_cases q:v=i;grind?;rw[hW q]at h;obtain⟨m,k⟩:=Rt h;exact(m,by grind)
def Ru:∀{g:af ag} {i:ag} {v:aH},(lS l g)[i]?=ai (.e v)->l[i]?=ai (.e v)/\i∉g
 |[],i,d,h=>by
  rw[lS,cV]at h;cases q:l[i]? with
  |none=>rw[q]at h;cases h
  |some s=>rw[q]at h;cases s<;>simp[Fm]at h;subst h;exact(aa,¬_)
 |v::g,i,d,h=>by rw[lS]at h;by_cases q:v=i;grind?;rw[hW q]at h;obtain⟨m,k⟩:=Ru h;exact(m,by grind)
def Jy:∀{g:af ag} {i:ag},σ[i]?=ai (ai v)->i∉g->(gZ σ g)[i]?=ai (ai v)
 |[],i,h,_=>h|w::g,i,h,n=>by rw[gZ,hW ()];exact Jy h λq=>n<|cO _ q
def Jz(σ:cw)(g:af ag):∀k:af ag,(∀u∈k,u∈g)->gZ (gZ σ k) g=gZ σ g
 |[],_=>aa|u::k,h=>by rw[gZ,vf,aG<|h u (_)];exact Jz σ g k λw m=>h w<|cO _ m
def bE.c2{F H:ay}{k:cw}(A:bE G L F H k l)(m:af ag):bE F H F H (gZ k m) (lS l m) where
 tocZ:=cZ.a3 A.fh
 a5:=by rw[DM,Rv];exact A.a5
 a3:=λi d e=>by obtain⟨h,g⟩:=Rt e;obtain⟨v,o,n⟩:=A.a3 i d h;exact(v,Jy o g,n)
 a0:=λi P e=>bG e JA
 a1:=λi v e=>by obtain⟨h,g⟩:=Ru e;exact Jy (A.a1 i v h) g
 a8:=λi j P T a e=>bG e JA
abbrev lf{g:Type}(o:af g)(m:g->az)(h:g->af bL)(l:af bL)(q k:af ag):rf:=λv n H Q=>∃t:g×ay×ay,t.1∈o/\sh t.2.1 t.2.2 (lS l q) (m t.1) (h t.1) k v n H Q
abbrev adV{g:Type}(m:af g)(n:g->da)(h:g->af bL):iR:=λk H Q=>∃t:g×ay×ay,t.1∈m/\eg t.2.1 t.2.2 (h t.1) (n t.1) k H Q
abbrev ad0{g:Type}(m:af g)(o:g->da)(n:g->az)(h:g->af bL):cS:=λk H Q=>∃t:g×ay×ay,(t.1∈m/\o t.1=ao)/\aP t.2.1 t.2.2 (h t.1) (n t.1) k H Q
def K'(zs:af α)(t:α->az)(D:α->da)(K:α->az)(q:α->af bL){V:af (aC×ag)}(I:∀k∈idx,k∈V.map (·.2))(hl:zs.length<=1000000)(z:cw)(H:ay)(Q:dw)
  (h:lV G L l ((zs.filter D).map K) z H Q):AH (kJ G L l<|zs.map t) (lf zs t q l (V.map (·.2)) idx) (adV zs D q) (ad0 zs D K q) (V.map (·.2)) z H Q:=by
 obtain⟨F,A,k⟩:=h;refine(F,A,λJ F1 H1 s1 A1 it=>λw hD=>?_);refine(λi m H=>m=zs.length- i/\i<=zs.length/\∃F g,bD F1 F/\bE G L F H z l/\H w=ai (.a g)/\F w=aq/\cx F g (((zs.take i).filter D).map K),(zs.length,aa,mW _,F1,[],bD.a2 _,A1.b8 hD,bO,(A1.a9 hD).1,.a2),?_);have n0:=(A1.a9 hD).2;have no:=A1.b4 hD;rintro i m H2 ⟨rfl,hle,F2,g,s2,A2,hacc,hFD,racc⟩;by_cases s:i<zs.length;have hz:=cK s;obtain⟨g5,g4⟩:=EN hz;have n:=ph s;refine .inr (it.b i F2 H2 s2 A2.fh (by simp;omega),λH=>∃F g,bD F1 F/\bE G L F H z l/\H w=ai (.a g)/\F w=aq/\cx F g (((zs.take<|i+1).filter D).map K),λE (u,g0,h)=>(zs.length-(i+1),(),aa,s,u,g0,h),?_);intro y E hy;obtain⟨u,rl,ry⟩:=it.c i F2 H2 y E (t zs[i]) s2 A2.fh (by rw[cV,hz];rfl) hy;have A3:=A2.up rl;have g3:=rl.hh _ _ hacc;have g2:=rl.nf _ () hFD;refine((zs[i],u,E),n,u,A3.c2 _,ry,λσ4 F4 H4 hw s4 A4=>((hw _ I).trans<|Jz z _ _ λ_ h=>h,?_));refine((zs[i],u,E),n,F4,A4,λF5 H5 s5 A5=>?_);have N:∀{o H6:ay} {ws:af aH} {gs:af az},cZ u E o H6->cx o ws gs->bD F1 o/\bE G L o H6 z l/\H6 w=ai (.a g)/\o w=aq/\cx o (g++ws) (((zs.take i).filter D).map K++gs):=λ{o H6 ws gs} r g1=> ((s2.a0 rl.ff).a0 r.ff,A3.up r,r.hh _ _ g3,r.nf _ () g2,(racc.up<|rl.ff.a0 r.ff).a5 g1);cases hp:D zs[i]with
 |false=>refine m_ ?_;obtain⟨z1,z2,z3,z4,z5⟩:=N A5.tocZ .a2;rw[kH,kH]at z5;exact(_,_,z1,z2,z3,z4,by rw[g4,M1,show[zs[i]].filter D=[]by simp[hp],kH];exact z5)
 |true=>refine om ?_;refine((zs[i],u,E),(n,hp),F5,A5,λv o H6 s6 A6 r=>?_);obtain⟨z1,z2,z3,z4,z5⟩:=N A6.tocZ<|.a0 r .a2;refine(g,z3,?_,o,g++[v],z1,z2.wr z4 n0 no,bO,z4,?_);rw[racc.a1,cb];refine Ax (Oy _ _) ?_;rw[AD];exact gX (show pb i zs.length<1000001 by lia) ⋯;rw[g4,M1,show[zs[i]].filter D=[zs[i]]by simp[hp],eV];exact z5
 have e:i=zs.length:=!_;subst e;refine .inl (it.a _ F2 H2 s2 A2.fh (),?_);rw[DD]at racc;exact k w g F2 H2 (s1.a0 s2) A2 hacc hFD n0 no racc
section
variable{q:Type}(w:af q)(v:q->az)(pr:q->da)(J:q->az)(u:q->af bL){idx:af ag}{r:af bI}{g:nY}{own:af (aC×ag)}
 (hi:fz X R B (kJ y I l (w.map v)))(ok:wL X.N X.a0.scope g own)(o:∀k∈idx,k∈own.map (·.2))
 (hg:∀(s:ba) (H:ay) (C:ax) (h:af (aC×ax)) (m:af ax) (y I:ay),∀z∈w,jd (X.b0 s H g (lF g h C X.a0) m) R (sh y I (lS l (own.map (·.2))) (v z) (u z) idx))
 (ht:∀(s:ba) (H:ay) (C:ax) (h:af (aC×ax)) (m:af ax) (y I:ay),∀z∈w,tx (X.b0 s H g (lF g h C X.a0) m) r (eg y I (u z) (pr z)))
 (V:∀(s:ba) (H:ay) (C:ax) (h:af (aC×ax)) (m:af ax) (y I:ay),∀z∈w,pr z=ao->aA (X.b0 s H g (lF g h C X.a0) m) O (aP y I (u z) (J z)))
 (hl:w.length<=1000000)(Q:X.a9=ao)(K:X.N.Nodup)
include hi ok o hg ht V hl Q K
def km(hs:(∀x,pW B X.a0 x=cA x)|>4):aA X (.ListComp O [(R,B,r,0)] g M) (lV y I l<|(w.filter pr).map J):=eL (abF Q K hi ok (λs H C h m=>xJ (ι:=q×ay×ay) λt k=>hg s H C h m t.2.1 t.2.2 t.1 k) (λs H C h m=>Mq (ι:=q×ay×ay) λt k=>ht s H C h m t.2.1 t.2.2 t.1 k) (λs H C h m=>GA (ι:=q×ay×ay) λt k=>V s H C h m t.2.1 t.2.2 t.1 k.1 k.2) hs)<|K' w v pr J u o hl
def oz(n:ag){D t:dj}(z:X.N[n]?=ai x|>1)(k:X.a0.scope.names.lookup x=ai .local|>1)
  (hsw:fS (.ListComp O [(R,B,r,0)] g M) (ai<|.Name x t) D.line X.a0=cA ao:=by exact E0 rfl rfl rfl rfl)(N:(∀x,pW B X.a0 x=cA x)|>4):
  cH X (.Assign [.Name x t] (.ListComp O [(R,B,r,0)] g M) D) (cT y I l<|.a<|l.set n<|.c<|(w.filter pr).map J):=
 eK (Iw Q K z k hsw hi ok (λs H C h m=>xJ (ι:=q×ay×ay) λt z=>hg s H C h m t.2.1 t.2.2 t.1 z) (λs H C h m=>Mq (ι:=q×ay×ay) λt z=>ht s H C h m t.2.1 t.2.2 t.1 z) (λs H C h m=>GA (ι:=q×ay×ay) λt z=>V s H C h m t.2.1 t.2.2 t.1 z.1 z.2) N) λE D H (F,A,k)=>K' w v pr J u o hl D H _ (F,A,λa vs F1 H1 t A1 h1 h2 N E z=>k _ F1 H1 t<|A1.c0 n h1 h2 N E z)
def Bt(n:ag){D py:dj}(hy:X.N[n]?=ai x|>1)(N:X.a0.scope.names.lookup x=ai .local|>1)
  (hsw:fS (.ListComp O [(R,B,r,0)] g M) (ai<|.Name x py) D.line X.a0=cA ao:=by exact E0 rfl rfl rfl rfl)(hs:(∀x,pW B X.a0 x=cA x)|>4):
  cH X (.Assign [.Name x py] (.ListComp O [(R,B,r,0)] g M) D) (cT y I l<|.a<|l.set n<|.a<|.d<|(w.filter pr).map J):=
 eK (Iw Q K hy N hsw hi ok (λs H C h m=>xJ (ι:=q×ay×ay) λt z=>hg s H C h m t.2.1 t.2.2 t.1 z) (λs H C h m=>Mq (ι:=q×ay×ay) λt z=>ht s H C h m t.2.1 t.2.2 t.1 z) (λs H C h m=>GA (ι:=q×ay×ay) λt z=>V s H C h m t.2.1 t.2.2 t.1 z.1 z.2) hs) λE σ H (F,A,k)=>K' w v pr J u o hl σ H _ (F,A,λa vs F1 H1 s1 A1 h1 h2 h3 h4 h5=>by obtain⟨A2,s2⟩:=A1.b7 h1 h2 h3 h4;exact k _ _ _ (s1.a0 s2)<|A2.a7 n<|.a0 bO<|h5.up s2)
end
def Li:Qx X λx y H Q=>∃p g k v,x=.c p/\y=.d ((k:ag):ah)/\dX X.K H p g/\g[k]?=ai v/\Q v H:=by intro n s F H o i ov J Q I A z h;obtain⟨p,g,k,v,rfl,rfl,K,u,q⟩:=h;cases A;obtain⟨t,rfl⟩:=z;obtain⟨E,r,D,N⟩:=I.a3 K;obtain⟨w,ew,m⟩:=r.a1 u;have V:=AO;have hk:=(eM.mp u).1;exact wpAny_getItem_list D.isList (_) (by lia) ∅ (v,H,I,m,q)
section
variable(n:ag)(h:l[n]?=ai (.c P)){m:dj}
include h
def Kl{D:Operator}{g:ah->ah->ah}{k:ag}(ho:tD X D (wG g))(hi:aA X b (aP G L l<|.a (k:ag)))(he:aA X e (aP G L l<|.a j))(I:P[k]?=ai (.a i))(hN:X.N[n]?=ai x|>1)
  (hv:eF X.a0.scope x|>3)(hd:dA x|>2)(z:fP x|>2)
  (ha:(∀ov t new,Ai b ov t new=(do jW [new,ov,t] (qT ov t new);s_ [new,ov,t] [];cA .next))|>4):
  cH X (.AugAssign (.Subscript (.Name x p) b U) D e M) (cT G L l<|.a<|l.set n<|.c<|P.set k<|.a<|g i j):=
 eK (Iy (ft hN hv hd z) hi Li he ho yy ha) λE V H (F,A,q)=>by obtain⟨a,vs,u,h2,h3,h4,h5⟩:=A.a0 n P h;refine(_,u,F,A,λv1 F1 H1 s1 Q r1=>?_);cases r1;obtain⟨a',v,o,g2,g3,g4,g5⟩:=Q.a0 n P h;rw[u]at o;injection o with o;injection o with o;injection o with o;subst o;obtain⟨w,hw,y⟩:=g5.a4 I;cases y;refine(a,v,k,_,aa,aa,dX.of g2,hw,F1,Q,λv2 F2 H2 s2 K r2=>?_);cases r2;obtain⟨a'',s,r,f2,f3,f4,J⟩:=K.a0 n P h;rw[u]at r;injection r with r;injection r with r;injection r with r;subst r;have hkl:=(eM.mp I).1;refine(i,j,aa,aa,a,s,k,k,aa,aa,f2,?_,q V F2 _ (s1.a0 s2)<|K.b1 h u<|J.a9 (.a1 _) k);unfold lP;rw[J.a1,aG (_),aG ∅];rfl
end
end
def rn(N:af aC)(a:af az):af bL:=a.map .a++cg (N.length- a.length) .b
def t0{N:af aC}{b:af az}{s:bL}{i:ag}(e:(rn N b)[i]?=ai s):s=.b\/∃d,b[i]?=ai d/\s=.a d:=by
 unfold rn at e;by_cases c:i<b.length;rw[yr ∅,cV]at e;obtain⟨d,x,y⟩:=p'.mp e;exact .inr (d,x,y.symm);rw[List.getElem?_append_right (by simpa using c)]at e;exact .inl (List.eq_of_mem_replicate (eC e))
def zD{F H:ay}{N:af aC}{f:af aH}{b:af az}(h:bD F H)(r:cx F f b):bE F H F H (pj N f) (rn N b) where
 tocZ:=cZ.a3 h
 a5:=by unfold pj rn;simp[r.a1]
 a3:=λi d e=>by rcases t0 e with h|⟨o,q,h⟩<;>cases h;obtain⟨v,k,g⟩:=r.a4 q;refine(v,?_,g);unfold pj;rw[yr (by have:=(eM.mp k).1;simpa using this),cV,k];rfl
 a0:=λi n e=>by rcases t0 e with h|⟨o,q,h⟩<;>cases h
 a1:=λi n e=>by rcases t0 e with h|⟨o,q,h⟩<;>cases h
 a8:=λi j m l a e=>by rcases t0 e with h|⟨o,q,h⟩<;>cases h
structure cu(K:aZ)(mg:aC->aJ aB)(x:aC)(st:du):Prop where
 a:∃(f:ax) (fd:jY),wI K x x st f fd/\mg x=ai (.ref f)
section
variable{K:aZ}
abbrev ml(P:cn)(w:bS)(K:aZ)(b:aC->aJ aB)(a:bT)(N:af aC)(x:aC)(e:du)(f:ax)(d:aB)(A:fG)(c:af ig)(s:ba)(H:ay)(E:jC):bA:=(uV kb P w K b a N x (bf e) f d A c s H E).b9
def cW{j:du}(T:cu K b x j)(S:bW N ps (bf j))
  (body:∀{f:ax} {g:aB} {A:fG} {c:af ig} {s:ba} {H:ay} {E:jC} (M J:ay) (i:af az) (d:az),dy k (ml P w K b a N x j f g A c s H E).A->R i d->
   bg (ml P w K b a N x j f g A c s H E) (iQ j) (cT M J (rn N i)<|.b d))
  (hb:(∀(D n t:aB) (I:aJ ax) (g C:aB) (l:af aB),l.length=ps.length->uy (nX x x (pw j) (iQ j) (bf j) .none D n t I g C) (l,[])=cA (ps.zip l))|>3)
  (len:∀i d,R i d->i.length=ps.length:=by intro i d h;obtain⟨_,e,_⟩:=h;rw[e];rfl):cI P w K b a (k+1) x R:=by
 obtain⟨f,B,F,y⟩:=T.a;refine(f,B,ps,F.ok S (λo H Q E h=>?_)<|λg A c s H o Q E u h=>?_,y,F.kp,F.a1 hb);obtain⟨G,i,d,_,r,m,_⟩:=h;rw[r.a1,len i d m];obtain⟨G,i,d,z,r,m,q⟩:=h;exact(_,body G H i d u m,G,zD z r,λv O L s U p=>q v O L U p)
end
def aK(i:ag):du:=PySem.Challenge.pw_waterloops_s01_answers.main.body.getD i<|.Pass (0,0,0,0)
structure bH where
 e:ax
 a:ax
 b:ax
 d:ax
 c:ax
abbrev BH:af aC:=["tops","below"]
abbrev gD:af aC:=["kind","first","second","conductance","head","opening","loss","room"]
abbrev iJ:af aC:=["names","edges","boilers"]
abbrev BG:af aC:=["head","openings"]
abbrev KP:af aC:=["number","start","end","amount","loss","room"]
structure WO(K:aZ)(mg:aC->aJ aB)(a:bH):Prop where
 d:jS K a.e BH
 b:jS K a.a gD
 c:jS K a.b iJ
 l:jS K a.d BG
 f:jS K a.c KP
 n:∃t,mg "PIPE"=ai (.int 0 t)
 g:∃t,mg "VALVE"=ai (.int 1 t)
 m:∃t,mg "PUMP"=ai (.int 2 t)
 D:∃t,mg "LINE_END"=ai (.int 10 t)
 B:∃t,mg "BLANK"=ai (.int 32 t)
 C:∃t,mg "SLASH"=ai (.int 47 t)
 z:∃t,mg "MOST_JUNCTIONS"=ai (.int 8 t)
 y:∃t,mg "MOST_EDGES"=ai (.int 14 t)
 F:∃t,mg "MOST_LETTERS"=ai (.int 8 t)
 A:∃t,mg "MOST_NUMBER"=ai (.int 1000000 t)
 i:∃t,mg "OUT_OF_RANGE"=ai (.int (-1) t)
 H:∃t,mg "NO_NETWORK"=ai (.int (-2) t)
 q:∃t,mg "WRONG_KIND"=ai (.int (-3) t)
 E:∃t,mg "NO_CIRCULATION"=ai (.int (-4) t)
 I:∃t,mg "NO_BOILER"=ai (.int (-4) t)
 u:∃t,mg "IMPOSSIBLE"=ai (.int (-6) t)
 s:∃t,mg "MOST_TOLD"=ai (.int 1000000 t)
 r:mg "abs"=aq
 v:mg "all"=aq
 p:mg "enumerate"=aq
 e:mg "len"=aq
 j:mg "list"=aq
 J:mg "max"=aq
 G:mg "min"=aq
 k:mg "ord"=aq
 o:mg "range"=aq
 L:mg "reversed"=aq
 w:mg "str"=aq
 x:mg "sum"=aq
 h:mg "zip"=aq
section
variable{X:bA}{l m:ay}{n u:af bL}{e o a b c:bI}{B:af bI}{g p C:dj}{d y z:az}{t:af az}{i j:ah}{x f:aC}
def O5:lG "abs"=ai (.builtin "abs"):=⋯
def P5:lG "all"=ai (.builtin "all"):=⋯
def Ma:lG "len"=ai (.builtin "len"):=⋯
def Wv:lG "list"=ai (.type "list"):=⋯
def R5:lG "max"=ai (.builtin "max"):=⋯
def S5:lG "min"=ai (.builtin "min"):=⋯
def T5:lG "ord"=ai (.builtin "ord"):=⋯
def U5:lG "str"=ai (.type "str"):=⋯
def V5:lG "sum"=ai (.builtin "sum"):=⋯
def Gn(hm:X.mg "abs"=aq)(h:aA X e (aP l m n<|.a i))(D:dn X "abs"|>1)(w:eI X e []|>1)(q:eG X g []|>1):
  aA X (.Call (.Name "abs" p) [e] [] g) (aP l m n<|.a (i.natAbs:ah)):=
 xC acY hm O5 (au h aD w) (λF H E Q s r k=>by obtain⟨v,rfl,A⟩:=kN r;cases A;refine(i,aa,?_);have e:(if i<0 then-i else i)=i.natAbs:=(by grind only);rw[e];exact k _<|.a1 _) D ⋯ ⋯ w q
def L8(hc:X.a9=ao)(G:X.mg "min"=aq)(h:aA X e (aP l m n<|.a i))(J:aA X o (aP l m n<|.a j))(I:dn X "min"|>1)(A:eI X e [o]|>1)
  (he2:eI X o []|>1)(q:eG X g [o]|>1):aA X (.Call (.Name "min" p) [e,o] [] g) (aP l m n<|.a<|pb i j):=
 xC (acV hc) G S5 (au h (au J aD he2) A) (λF H K Q s r k=>by obtain⟨v,w,rfl,E,D⟩:=r.b0;cases E;cases D;refine(i,j,aa,?_);have e:(if j<i then j else i)=pb i j:=(by grind);rw[e];exact k _<|.a1 _) I ⋯ ⋯ A q
def K8(hc:X.a9=ao)(G:X.mg "max"=aq)(h:aA X e (aP l m n<|.a i))(J:aA X o (aP l m n<|.a j))(I:dn X "max"|>1)(A:eI X e [o]|>1)
  (he2:eI X o []|>1)(q:eG X g [o]|>1):aA X (.Call (.Name "max" p) [e,o] [] g) (aP l m n<|.a<|mX i j):=
 xC (acW hc) G R5 (au h (au J aD he2) A) (λF H K Q s r k=>by obtain⟨v,w,rfl,E,D⟩:=r.b0;cases E;cases D;refine(i,j,aa,?_);have e:(if j>i then j else i)=mX i j:=!_;rw[e];exact k _<|.a1 _) I ⋯ ⋯ A q
def dO(hm:X.mg "len"=aq)(h:aA X e (aP l m n<|.d t))(E:dn X "len"|>1)(A:eI X e []|>1)(w:eG X g []|>1):
  aA X (.Call (.Name "len" p) [e] [] g) (aP l m n<|.a (t.length:ag)):=
 xC IW hm Ma (au h aD A) (λF H G Q s r k=>by
  obtain⟨v,rfl,D⟩:=kN r;cases D using W2 with|a0 q R=>exact(_,_,aa,.inl<|dX.of<|s _ _ q,by rw[R.a1];exact k _<|.a1 _)) E ⋯ ⋯ A w
def LJ{ns:af ah}(J:X.a9=ao)(G:X.mg "sum"=aq)(h:aA X e (aP l m n<|.d<|ns.map az.a))(I:dn X "sum"|>1)(A:eI X e []|>1)(w:eG X g []|>1):
  aA X (.Call (.Name "sum" p) [e] [] g) (aP l m n<|.a ns.sum):=
 xC (acP J) G V5 (au h aD A) (λF H K Q s r k=>by
  obtain⟨v,rfl,E⟩:=kN r;cases E using W2 with|a0 q R=>have:=R.a7;subst this;exact(_,ns,aa,dX.of<|s _ _ q,k _<|.a1 _)) I ⋯ ⋯ A w
def LP{bs:af da}(J:X.a9=ao)(G:X.mg "all"=aq)(h:aA X e (aP l m n<|.d<|bs.map az.g))(I:dn X "all"|>1)(A:eI X e []|>1)(w:eG X g []|>1):
  aA X (.Call (.Name "all" p) [e] [] g) (aP l m n<|.g<|bs.all id):=
 xC (acQ J) G P5 (au h aD A) (λF H K Q s r k=>by
  obtain⟨v,rfl,E⟩:=kN r;cases E using W2 with|a0 q R=>have:=R.b5;subst this;exact(_,bs,aa,dX.of<|s _ _ q,k _<|.bl _)) I ⋯ ⋯ A w
def Cb{c:ag}(D:X.mg "ord"=aq)(h:aA X e (aP l m n<|.j ⟨(List.toArray [c])⟩))(E:dn X "ord"|>1)(w:eI X e []|>1)(q:eG X g []|>1):
  aA X (.Call (.Name "ord" p) [e] [] g) (aP l m n<|.a (c:ag)):=
 xC acU D T5 (au h aD w) (λF H G Q s r k=>by obtain⟨v,rfl,A⟩:=kN r;cases A;exact(_,aa,aa,k _<|.a1 _)) E ⋯ ⋯ w q
def LK(hm:X.mg "str"=aq)(h:aA X e (aP l m n<|.a i))(D:i.natAbs.log2<1920)(E:dn X "str"|>1)(w:eI X e []|>1)(q:eG X g []|>1):
  aA X (.Call (.Name "str" p) [e] [] g) (aP l m n<|.j<|Aa i):=
 A8 acT hm U5 (au h aD w) (λF H G Q s r k=>by obtain⟨v,rfl,A⟩:=kN r;cases A;exact(_,aa,D,k _<|.a9 _)) E ⋯ ⋯ w q
def tR(hm:X.mg "list"=aq)(h:aA X e (aP l m n<|.f t))(J:dn X "list"|>1)(w:eI X e []|>1)(s:eG X g []|>1):
  aA X (.Call (.Name "list" p) [e] [] g) (lV l m n t):=
 eL (DY acX J hm Wv (au h aD w) ⋯ ⋯ w s) λK H Q (F,A,k)=>(F,A,λL N M E D I=>by
  obtain⟨v,rfl,G⟩:=kN I;cases G using W3 with|a3 q r=>exact(_,_,aa,.inr<|iS.of<|D.fh _ _ q,xg E D r k))
end
structure xK(K:aZ)(mg:aC->aJ aB)(x q:aC)(st:du)(C:ax):Prop where
 a:∃(f:ax) (fd:jY),wI K "__init__" q st f fd/\mg x=ai (.ref C)/\yL K C f
structure Cs(K:aZ)(mg:aC->aJ aB):Prop where
 ex:∃(a:ax) (o:cU) (its:kS aB) (n:ag),mg "KIND_WORDS"=ai (.ref a)/\K.lookup a=ai o/\o.cls=.type "tuple"/\o.data=.seq its n/\its.size<=dG/\dh [.g "pipe",.g "valve",.g "pump"] its.toList
structure cq(K:aZ)(mg:aC->aJ aB)(ad:bH):Prop where
 T:WO K mg ad
 W:Cs K mg
 c8:xK K mg "Row" "Row.__init__" (rZ (aK 9) 0) ad.e
 d0:cu K mg "common_factor" (aK 10)
 c4:cu K mg "lowest" (aK 11)
 A:cu K mg "times" (aK 12)
 b2:cu K mg "plus" (aK 13)
 e6:cu K mg "turned" (aK 14)
 Z:cu K mg "row_of" (aK 15)
 P:cu K mg "row_over_product" (aK 16)
 d2:cu K mg "shortened" (aK 17)
 d4:cu K mg "sum_of_products" (aK 18)
 b4:cu K mg "squares" (aK 19)
 S:cu K mg "told" (aK 20)
 d3:cu K mg "crossed" (aK 23)
 p:cu K mg "staircase" (aK 24)
 d5:cu K mg "solved" (aK 25)
 l:cu K mg "lets_through" (aK 27)
 a8:cu K mg "is_shut" (aK 28)
 b3:cu K mg "heads_of" (aK 35)
 j:cu K mg "chosen_from" (aK 31)
 k:cu K mg "balances" (aK 30)
 a5:cu K mg "least_of_groups" (aK 29)
 c3:cu K mg "pressures_not_shortened" (aK 32)
 e5:cu K mg "pressures_by" (aK 33)
 R:cu K mg "flows_by" (aK 34)
 g:cu K mg "pressures_now" (aK 36)
 H:cu K mg "flows_now" (aK 37)
 b8:cu K mg "flows_of_one_head" (aK 38)
 D:cu K mg "circulate" (aK 39)
 J:cu K mg "is_pressed" (aK 40)
 N:cu K mg "belong_together" (aK 41)
 d9:cu K mg "work_of" (aK 42)
 s:cu K mg "friction_of" (aK 43)
 z:cu K mg "energy_of" (aK 44)
 a2:cu K mg "only_pump" (aK 6)
 F:cu K mg "drops_of" (aK 71)
 h:cu K mg "steps_down" (aK 72)
 O:cu K mg "least_falls" (aK 73)
 a9:cu K mg "are_kept" (aK 74)
 e3:cu K mg "opening_by" (aK 75)
 d:xK K mg "Setting" "Setting.__init__" (rZ (aK 70) 0) ad.d
 d1:cu K mg "least_setting" (aK 76)
 a3:cu K mg "losses_of" (aK 79)
 q:cu K mg "row_from" (aK 21)
 a7:xK K mg "Stream" "Stream.__init__" (rZ (aK 78) 0) ad.c
 Q:cu K mg "streams_of" (aK 80)
 m:cu K mg "mixings" (aK 81)
 u:cu K mg "warmths_of" (aK 82)
 E:cu K mg "heats_of" (aK 83)
 b0:xK K mg "Edge" "Edge.__init__" (rZ (aK 4) 0) ad.a
 U:xK K mg "Network" "Network.__init__" (rZ (aK 5) 0) ad.b
 L:cu K mg "with_opening" (aK 7)
 C:cu K mg "in_bytes" (aK 54)
 c:cu K mg "pieces_between" (aK 55)
 d6:cu K mg "words_of" (aK 56)
 y:cu K mg "kind_of" (aK 57)
 t:cu K mg "is_name" (aK 58)
 e:cu K mg "number_of" (aK 59)
 a4:cu K mg "ratio_of" (aK 60)
 e0:cu K mg "ratios_of" (aK 62)
 b6:cu K mg "ratio_bytes" (aK 66)
 x:cu K mg "line_of" (aK 67)
 X:cu K mg "one_text" (aK 68)
 a6:cu K mg "junction_of" (aK 61)
 b7:cu K mg "take_line" (aK 63)
 e1:cu K mg "take_text" (aK 64)
 M:cu K mg "is_edge" (aK 92)
 Y:cu K mg "is_junction" (aK 93)
 c5:cu K mg "is_warmth" (aK 94)
 e7:cu K mg "is_ratio" (aK 95)
 r:cu K mg "is_part" (aK 96)
 e4:cu K mg "answer_print" (aK 99)
 o:cu K mg "answer_flows" (aK 102)
 V:cu K mg "answer_pressures" (aK 103)
 b1:cu K mg "answer_groups" (aK 115)
 c2:cu K mg "answer_work" (aK 104)
 b5:cu K mg "answer_check" (aK 105)
 G:cu K mg "answer_energy" (aK 106)
 b9:cu K mg "answer_across" (aK 107)
 c0:cu K mg "answer_warmth" (aK 113)
 d8:cu K mg "answer_heat" (aK 114)
 c9:cu K mg "answer_least" (aK 108)
 w:cu K mg "answer_edge" (aK 116)
 d7:cu K mg "answer_read" (aK 98)
 e2:cu K mg "answer_more" (aK 117)
 i:cu K mg "answer_opens" (aK 100)
 n:cu K mg "answer_head" (aK 101)
 c7:cu K mg "answer_loss" (aK 110)
 c1:cu K mg "answer_boiler" (aK 111)
 a1:cu K mg "answer_unboil" (aK 112)
 I:cu K mg "network_of" (aK 65)
 c6:cu K mg "answer_net" (aK 97)
 B:cu K mg "answer_throttle" (aK 109)
 v:cu K mg "answer_call" (aK 119)
 a0:cu K mg "rows_from" (aK 123)
 f:cu K mg "answers" (aK 124)
def aI(n:ag)(z:ah):Prop:=z.natAbs<2^n
def aI.a0(h:aI n z)(e:n<=m):aI m z:=gX h<|yp ⋯ e
def aI.a1(ha:aI n a)(c:aI m b):aI (n+m) (a*b):=by unfold aI at*;simp_all[QL,HR,yo,Nat.mul_lt_mul_of_lt_of_le,uF]
def aI.a5(ha:aI n a)(c:aI m b):aI (mX n m+1) (a+b):=by have e:aI (mX n m) a:=ha.a0<|ZI _ _;have d:aI (mX n m) b:=c.a0<|ZH _ _;show _<_;rw[Nat.pow_succ,Nat.mul_two];exact Ax (Int.natAbs_add_le ..) (Nat.add_lt_add e d)
def aI.a6(ha:aI n a):aI n (-a):=by unfold aI at*;nofun
def aI.a4(ha:aI n a)(c:aI m b):aI (mX n m+1) (a- b):=by have:=ha.a5 c.a6;symm
def aI.a3(ha:aI n a)(c:0<b):aI n (a/b):=by
 refine Ax ?_ ha;have j:=W0 a b;have i:=X0 a c;by_cases h:0<=a;have:=Bb h (show 0<=b by lia);have g:=U0 b h;grind;have f:a<=a/b:=by have d:a/b<0:=V0 ∅ c;have e:b*(a/b+1)<=1*(a/b+1):=Int.mul_le_mul_of_nonpos_right (_) (_);lia
 have d:a/b<0:=V0 (by ac_rfl) c;omega
def aI.a7(ha:0<=a)(c:aI n a)(d:0<b):aI n (a%b):=by unfold aI at*;have g:=W0 a b;have f:=Y0 a (show b≠0 by lia);have e:=Z0 (show 0<=b by lia)<|Bb ha (show 0<=b by grind);lia
def Ww(h:aI n z):Zl z<=n:=by unfold Zl;split;simp;rename_i a;have:z.natAbs≠0:=∅;have:=(ZG this).mpr h;symm
def eD(ha:aI n a)(c:aI m b)(h:n+m<=134217728):oZ a b:=D3 (Ww ha) (Ww c) h
def jg(h:a.natAbs<=b.natAbs)(c:aI n b):aI n a:=Ax h c
def aI.a2(h:z.natAbs<2^n|>2):aI n z:=h
def EL:∀{l:af ah},(∀z∈l,aI n z)->l.length<=16->aI (n+4) l.sum:=by
 have c:∀l:af ah,(∀z∈l,aI n z)->l≠[]->l.sum.natAbs<l.length*2^n:=by
  intro l;induction l with|nil=>intro _ h;exact bG aa h|cons a l f=>
   intro h _;rw[ij];have g:a.natAbs<2^n:=h a (_);cases l with|nil=>simpa using g|cons b r=>have f:=f (λz k=>h z<|cO _ k) ¬_;have:=Int.natAbs_add_le a (b::r).sum;rw[List.sum_cons,Nat.succ_mul];lia
 intro l h d;unfold aI;by_cases e:l=[];left;refine gX (c l h e) ?_;rw[HR,DB];exact Oi _ d
def nv(f:aC)(v:aH):jc f v []=[(f,v)]:=aa
def eh(h:f≠g)(v w:aH)(r:af (aC×aH)):jc f v ((g,w)::r)=(g,w)::jc f v r:=by
 first
  |(show(if g=f then _ else _)=_;rw[aE<|dZ h])
  |(show(if f=g then _ else _)=_;rw[if_neg h])
section
variable{K:aZ}
def Fp{l:du}(Df:xK K c x q l C)(S:bW N (("self":aC)::ps) (bf l))
  (hb:∀(D B J:aB) (an:aJ ax) (i ct:aB) (z:af aB),z.length=(("self":aC)::ps).length->uy (nX "__init__" q (pw l) (iQ l) (bf l) .none D B J an i ct) (z,[])=cA ((("self":aC)::ps).zip z))
  (len:∀j d,R j d->j.length=ps.length)
  (body:∀(f:ax) (i:aB) (A:fG) (e:af ig) (s:ba) (H:ay) (E:jC) (Q:dw) (p u:ax) (m:af aH) (F:ay) (j g:af az),dy k (A.deeper<|tp q (bf l) s.heap.objs.size f i)->R j g->H p=ai (.c C u [])->F p=aq->bD F H->cx F m j->
   (∀v n y,bD F v->(∀b o,H b=ai o->b≠p->n b=ai o)->bD v n->(∀b,H b≠aq->F b=aq->v b=aq)->n p=ai (.c C u<|ns.zip y)->ns.length=y.length->cx v y g->Q .f n)->
   ∃t,bg (uV kb P w K c a N q (bf l) f i A e s H E).b9 (iQ l) t/\t {a:=λ_ n=>Q .f n,b:=Q} (pj N (.c p::m)) H):vH P w K c a (k+1) x C ns R:=by
 obtain⟨f,fd,F,O,M⟩:=Df.a;refine(f,fd,_,F.ok S (λI H Q E h=>?_)<|λi A e s H I Q E L h=>?_,O,M,F.a1 hb);obtain⟨p,u,m,G,j,g,rfl,_,_,_,r,T,_⟩:=h;show m.length+1=ps.length+1;rw[r.a1,len j g T];obtain⟨p,u,m,G,j,g,rfl,W,V,Z,Y,X,U⟩:=h;exact body f i A e s H E Q p u m G j g L X W V Z Y U
def UV:bW ["self","tops","below"] ["self","tops","below"] (bf<|rZ (aK 9) 0):={}
def Mp(n:ag)(b a:af az):Prop:=b.length=n/\a=b
def vw(J:cq K c g):vH P w K c a 40 "Row" g.e BH (Mp 2):=by
 refine Fp (k:=39) (ps:=["tops","below"]) J.c8 UV (λ_ _ _ _ _ _=>Q3 λ_ _ _=>aa) (λC d h=>h.1) λf D A q s H E Q p t u F C fs G x B I z r y=>?_;obtain⟨i,rfl⟩:=x;obtain⟨m,l,rfl⟩:∃m l,u=[m,l]:=by
  have:=r.a1
  match u,this with
  |[m,l],_=>exact(m,l,aa)|[],e=>rw[i]at e;cases e
  |[_],e=>rw[i]at e;cases e
  |_::_::_::_,e=>rw[i]at e;simp at e
 refine(_,eN (ik (fI 0) (fI 1) aa)<|uM<|ik (fI 0) (fI 2) aa,?_);refine(_,aa,_,aa,p,g.e,t,[],aa,B,J.T.d.a,J.T.d.b _ ⋯,(by show 0<1000;decide),?_);refine(_,aa,_,aa,p,g.e,t,_,aa,bO,J.T.d.a,J.T.d.b _ ⋯,(by show 1<1000;decide),?_);refine y F _ [m,l] (bD.a2 _) (λb o e j=>by rw[aO j,aO j];exact e) (λb o e=>?_) (λ_ _ n=>n) ?_ aa r;have j:b≠p:=!_;rw[aO j,aO j];exact z _ _ e;rw[bO,nv,eh ⋯];rfl
end
section
variable{X:bA}{G J:ay}{B M:af bL}{L e K a b c:bI}{S:af bI}{m p o:dj}{d O P:az}{C:af az}{i j:ah}{x f:aC}
def di{x:α}{l:af α}:fZ (x::l) 0=ai x:=by have:=gQ (xs:=x::l) (j:=0) aa;symm
def eH{x y:α}{l:af α}:fZ (x::y::l) 1=ai y:=by have:=gQ (xs:=x::y::l) (j:=1) aa;symm
def mi{x y z:α}{l:af α}:fZ (x::y::z::l) 2=ai z:=by have:=gQ (xs:=x::y::z::l) (j:=2) aa;symm
def ji:tx X [] (eg G J B ao):=λg s h H Q I (F,A,k)=>Ph g s h H Q I<|k F H (bD.a2 _) A
open PySem.Builtin in
def Zs(l:ax)(q:kS aB)(n:ag)(b:ax)(k:kS aB)(v:ag)(H:aJ ax)(u:kS (aJ aB))(E:¬(!q.isEmpty&&As (q.size+k.size))=ao)(D:q.size<=dG)(z:q.size+k.size<=dG+1):
  Meets (Builtin.«list.extend» ([.ref l,.ref b],[])) (λ_ R s=>s.heap.get? l=ai {cls:=.type "list",dict:=aq,data:=.seq q n,slots:= #[]}/\s.heap.get? b=ai {cls:=.type "tuple",dict:=H,data:=.seq k v,slots:=u}/\R (.ok<|.ret HG) {s with heap:=s.heap.update l<|Ao λx=>x++k,toks:=s.toks}):=
 .of_wp λr w A R s h=>by
  obtain⟨Q,g,d,I,N⟩:=s;obtain⟨t,F,h⟩:=h;have T:=AutoSeq1.sub_list_tuple;have y:(q++k).size<=dG+1:=∅
  wp_walk using(wpAny_updateSeq t aa),Zm t,Zm F;exact(_,aa,h)
def S':aH->af aH->ay->dw->Prop:=λx k H Q=>∃l b h g,x=.c l/\k=[.c b]/\H l=ai (.a h)/\H b=ai (.b g)/\h.length+g.length<=dG/\Q .f (bu H l<|.a<|h++g)
def gl:Ek X "list.extend" S':=by
 intro N s σ H x vs v us Q I F U h;obtain⟨l,b,xs,zs,rfl,rfl,R,hB,hz,q⟩:=h;cases F;obtain⟨u,rfl,V⟩:=U.a3;cases V;obtain⟨z,k,n,r,hl,e⟩:=I.b9 R;obtain⟨g,E,⟨⟨c2,dc,dt,T⟩,K,D,W,A⟩,z2⟩:=I.a8<|iS.of hB;have Z:=E.a0;have y:=D;have w:=A;subst y w;have Y:k.toArray.size+g.toArray.size<=dG:=∅;have t:¬(!k.toArray.isEmpty&&As (k.toArray.size+g.toArray.size))=ao:=by grind?[IJ]
 refine yj Ds (_,e,aa) Zb (Ze _ _) (Zs l k.toArray n b g.toArray W dc T t ∅ (_)) (e,K,?_);refine(.f,_,I.d0 R e () (r.a2 E) ?_,aa,q);nofun
section
variable(n:ag)(h:B[n]?=ai (.c C)){g:dj}{l:af az}
include h
def Kk(he:aA X e (aP G J B<|.f l))(hl:C.length+l.length<=1000000)(hN:X.N[n]?=ai x|>1)
  (hv:eF X.a0.scope x|>3)(hd:dA x|>2)(D:fP x|>2)
  (hbase:ie (.Name x p) "extend" X.a0 (bN (.Name x p) X.a0)=bN (.Name x p) X.a0|>1)
  (hfew:wM X o e|>1)
  (hline:(g.endLine==o.line)=ao|>1)(T:eI X e []|>1)(t:eG X o []|>1)
  (hsw:fS (.Call (.Attribute (.Name x p) "extend" g) [e] [] o) aq m.line X.a0=cA aw|>1):
  cH X (.Expr (.Call (.Attribute (.Name x p) "extend" g) [e] [] o) m) (cT G J B<|.a<|B.set n<|.c<|C++l):=by
 have hm:rg X "list.extend" S':=λw s y H x V v Y Q=>gl w s y H x V v Y Q;refine eK (uN (uS uC Ds NX hm (ft hN hv hd D) (au he aD T) hbase hfew hline T t) hsw) λE y H (F,A,k)=>?_;obtain⟨a,W,I,h2,h3,h4,h5⟩:=A.a0 n C h;refine(_,I,.inl (aa,W,dX.of h2),F,A,λws F1 H1 Z R r1=>?_);obtain⟨v,rfl,N⟩:=kN r1;obtain⟨a',z,u,g2,g3,g4,U⟩:=R.a0 n C h;rw[I]at u;injection u with u;injection u with u;injection u with u;subst u;cases N using W3 with|a3 q r=>exact(a,_,z,_,aa,aa,g2,R.fh _ _ q,fx (by rwa[U.a1,r.a1]) ⋯,k y F1 _ Z<|R.b1 h I<|U.a5 r)
def Sy(he:aA X e (aP G J B<|.d l))(hl:C.length+l.length<=1000000)(hN:X.N[n]?=ai x|>1)
  (hv:eF X.a0.scope x|>3)(hd:dA x|>2)(D:fP x|>2)
  (hbase:ie (.Name x p) "extend" X.a0 (bN (.Name x p) X.a0)=bN (.Name x p) X.a0|>1)
  (hfew:wM X o e|>1)
  (hline:(g.endLine==o.line)=ao|>1)(T:eI X e []|>1)(t:eG X o []|>1)
  (hsw:fS (.Call (.Attribute (.Name x p) "extend" g) [e] [] o) aq m.line X.a0=cA aw|>1):
  cH X (.Expr (.Call (.Attribute (.Name x p) "extend" g) [e] [] o) m) (cT G J B<|.a<|B.set n<|.c<|C++l):=by
 have hm:rg X "list.extend" Iq:=λw s y H x V v Y Q=>PH w s y H x V v Y Q;refine eK (uN (uS uC Ds NX hm (ft hN hv hd D) (au he aD T) hbase hfew hline T t) hsw) λE y H (F,A,k)=>?_;obtain⟨a,W,I,h2,h3,h4,h5⟩:=A.a0 n C h;refine(_,I,.inl (aa,W,dX.of h2),F,A,λws F1 H1 Z R r1=>?_);obtain⟨v,rfl,N⟩:=kN r1;obtain⟨a',z,u,g2,g3,g4,U⟩:=R.a0 n C h;rw[I]at u;injection u with u;injection u with u;injection u with u;subst u;cases N using W2 with|a0 q r=>exact(a,_,z,_,aa,aa,g2,R.fh _ _ q,fx (by rwa[U.a1,r.a1]) ⋯,k y F1 _ Z<|R.b1 h I<|U.a5 r)
end
def RW(n:ag):Ar 0 n 2=(((n+1)/2:ag):ah):=by unfold Ar;lia
def X7(h1: -1000000000<=z)(g:z<=1000000000):Zk z=ao:=by unfold Zk;left
def aeL{n:ag}(h:n<=1000000):N_ 0 n 2=ao:=by unfold N_;grind[RW,X7]
def pv{n:ag}(Q:X.mg "range"=aq)(h:aA X e (aP G J B<|.a n))(N:n<=1000000)(U:dn X "range"|>1)
  (hs:dC [.Constant (.int 0) k1 q1,e,.Constant (.int 2) k2 q2] X.a0=(aw,bN (.Constant (.int 0) k1 q1) X.a0)::dC [e,.Constant (.int 2) k2 q2] X.a0|>1)
  (hs2:dC [e,.Constant (.int 2) k2 q2] X.a0=(aw,bN e X.a0)::dC [.Constant (.int 2) k2 q2] X.a0|>1)(u:dC [.Constant (.int 2) k2 q2] X.a0=(aw,bN (.Constant (.int 2) k2 q2) X.a0)::dC [] X.a0|>1)
  (hpl:(lH m<|dC [e,.Constant (.int 2) k2 q2] X.a0).any (·.1)=aw|>1):
  fz X L (.Call (.Name "range" p) [.Constant (.int 0) k1 q1,e,.Constant (.int 2) k2 q2] [] m) (kJ G J B<|(bP<|(n+1)/2).map λi=>az.a ((2*i:ag):ah)):=
 sI (abx U Q (au aF (au h (au aF aD u) hs2) hs) hs hpl) λZ H R (F,A,k)=>(F,A,λD W V v Y E=>by
  obtain⟨v0,v1,v2,rfl,z,y,w⟩:=SS E;cases z;cases y;cases w;refine(0,n,2,(n+1)/2,aa,(⋯,⋯,?_,?_),k _ W V v Y (λi F H s t r=>?_,λi F H x H' d s t g I=>?_,λi F H s t r=>?_));exact aeL N;exact RW n;simp at r;exact r;obtain⟨rfl,rfl⟩:=I;refine(F,cZ.a3 t,?_);rw[cV]at g;cases q:(bP<|(n+1)/2)[i]? with
  |none=>rw[q]at g;cases g
  |some k'=>rw[q]at g;obtain⟨T,l⟩:=eM.mp q;simp at l;simp at g;subst g l;have:(0:ah)+i*2=2*i:=!_;rw[this];exact .a1 _
  simp at r;exact r)
end
abbrev cE(q:ah×ah):az:=.f [.a q.1,.a q.2]
def bh(f:dq):ah×ah:=(f.num,(f.den:ah))
abbrev vF(f:dq):az:=cE<|bh f
abbrev aM(l:af ah):az:=.d<|l.map az.a
structure bF where
 a:af ah
 b:ah
abbrev bX(ad:bH)(r:bF):az:=.m ad.e BH [aM r.a,.a r.b]
def xp(h:0<b):bh (aQ a b)=(a/((fJ a b:ag):ah),b/((fJ a b:ag):ah)):=by unfold aQ;rw[aE !_];rw[aE (by simp;lia)];show (Prod.mk (a/_)<|(((b/_).toNat:ag):ah))=_;grind?[fJ,Bb,B1]
def P9(a b:ah):fJ (a.natAbs:ah) b=fJ a b:=aa
def Q9(ha:0<=a)(c:0<=b):fJ b (a%b)=fJ a b:=by obtain⟨m,rfl⟩:=En ha;obtain⟨n,rfl⟩:=En c;show ZJ n ((m%n:ag))=ZJ m n;grind[Nat.gcd_comm,Nat.gcd_rec]
section
variable{K:aZ}
def O3(ds:af az)(d:az):Prop:=∃a b:ah,ds=[.a a,.a b]/\0<=a/\0<=b/\d=.a (fJ a b)
def EZ:bW ["one","other","rest"] ["one","other"] (bf<|aK 10):={}
def Lf(J:cq K i j):cI P w K i g 40 "common_factor" O3:=by
 refine cW J.d0 EZ (len:=λn d (_,_,e,_)=>by rw[e];rfl) λq p n d o l=>?_;obtain⟨a,b,rfl,ha,k,rfl⟩:=l;refine aL (Sw (β:=ah×ah) (λt=>[.a<|.a t.1,.a<|.a t.2,.b]) (λt=> !aT (t.2=0)) (λ_=>aq) (λt=>(t.2,t.1%t.2)) (λt=>t.2.toNat) (λt=>0<=t.1/\0<=t.2) (λt=>.a [.a<|.a<|fJ t.1 t.2,.a<|.a 0,.b]) (λt=>[.a<|.a t.1,.a<|.a t.2,.b]) (λ_=>jQ.a4 _) ?_ ?_ ?_ ?_ (a,b) (ha,k) fT)<|Sx<|bb (0);·exactλt c=>iH (1) aF
 ·intro t c m;have f:0<t.2:=!_;refine fj (aL (cB 2 (LN (0) (1) f) EZ.a)<|aL (cB 0 (1) EZ.a)<|aL (cB 1 (2) EZ.a) bV)<|.a0<|.a0<|.no .a2
 ·intro t c m _;have f:0<t.2:=();have:=X0 t.1 f;have:=Y0 t.1 (show t.2≠0 by nofun);left
 ·intro t c;by_cases h:t.2=0;·simp[h];lia
  all_goals simp[*,Q9]
def w4(ds:af az)(d:az):Prop:=∃a b:ah,ds=[.a a,.a b]/\0<b/\d=vF (aQ a b)
def Sq:bW ["top","below","factor"] ["top","below"] (bf<|aK 11):={}
def nG(J:cq K i j):cI P w K i g 41 "lowest" w4:=by
 refine cW J.c4 Sq (len:=λf d (_,_,e,_)=>by rw[e];rfl) λn m f d h c=>?_;obtain⟨a,b,rfl,l,rfl⟩:=c;have k:0<((fJ a b:ag):ah):=by left
 refine fB (aL (cB 2 (aY (Lf J) #[Gn J.T.r (0),(1)] (_,_,aa,(_),(by left),aa)) Sq.a)<|Sx<|bb<|kv #[sC (0) (2) ?_,sC (1) (2) ?_]) ?_;assumption;assumption;simp_all[P9,cE,xp]
def E6(ds:af az)(d:az):Prop:=∃p:(ah×ah)×(ah×ah),ds=[cE p.1,cE p.2]/\0<p.1.2/\0<p.2.2/\oZ p.1.1 p.2.1/\oZ p.1.2 p.2.2/\d=vF (aQ (p.1.1*p.2.1)<|p.1.2*p.2.2)
def ae':bW ["one","other"] ["one","other"] (bf<|aK 12):={}
def FG(J:cq K i j):cI P w K i g 42 "times" E6:=by refine cW J.A ae' λp o n d m e=>?_;obtain⟨⟨⟨a,b⟩,⟨c,d⟩⟩,rfl,l,k,h,f,rfl⟩:=e;exact aX<|bb<|aY (nG J) #[fR (gb (0) aF di) (gb (1) aF di) h,fR (gb (0) aF eH) (gb (1) aF eH) f] (_,_,aa,fQ l k,aa)
def j7(ds:af az)(d:az):Prop:=∃p:(ah×ah)×(ah×ah),ds=[cE p.1,cE p.2]/\0<p.1.2/\0<p.2.2/\oZ p.1.1 p.2.2/\oZ p.2.1 p.1.2/\oZ p.1.2 p.2.2/\d=vF (aQ (p.1.1*p.2.2+p.2.1*p.1.2)<|p.1.2*p.2.2)
def ae9:bW ["one","other"] ["one","other"] (bf<|aK 13):={}
def Ve(J:cq K i j):cI P w K i g 42 "plus" j7:=by refine cW J.b2 ae9 λq p o d n e=>?_;obtain⟨⟨⟨a,b⟩,⟨c,d⟩⟩,rfl,m,l,k,h,f,rfl⟩:=e;exact aX<|bb<|aY (nG J) #[kx (fR (gb (0) aF di) (gb (1) aF eH) k)<|fR (gb (1) aF di) (gb (0) aF eH) h,fR (gb (0) aF eH) (gb (1) aF eH) f] (_,_,aa,fQ m l,aa)
def G6(ds:af az)(d:az):Prop:=∃p:ah×ah,ds=[cE p]/\d=cE (p.2,p.1)
def ae8:bW ["ratio"] ["ratio"] (bf<|aK 14):={}
def UY(J:cq K i j):cI P w K i g 40 "turned" G6:=by refine cW J.e6 ae8 λf e c d b a=>?_;obtain⟨p,rfl,rfl⟩:=a;exact aX<|bb<|kv #[gb (0) aF eH,gb (0) aF di]
def jK(b:ah)(q:ah×ah):ah:=b/((fJ b q.2:ag):ah)*q.2
def gG(l:af (ah×ah)):bF:=(l.map λq=>q.1*(l.foldl jK 1/q.2),l.foldl jK 1)
def rm(l:af (ah×ah)):bF:=(l.map λq=>q.1*(l.foldl (λb q=>b*q.2) 1/q.2),l.foldl (λb q=>b*q.2) 1)
structure oR(n:ag)(l:af (ah×ah)):Prop where
 a5:l.length<=20
 a7:n<=3000000
 a0:∀q∈l,0<q.2
 a4:∀q∈l,aI n q.1
 a3:∀q∈l,aI n q.2
def FO(h:0<b):0<((fJ a b:ag):ah):=by left
def Fz(hb:0<b)(g:0<q.2):0<jK b q:=by refine fQ ?_ g;have e:=wO b q.2;obtain⟨c,d⟩:=e;have f:=FO (a:=b) g;rw[show b/((fJ b q.2:ag):ah)=c by have:=wN c (show((fJ b q.2:ag):ah)≠0 by lia);rw[<-d]at this;exact this];exact Int.pos_of_mul_pos_right (by rwa[<-d]) ()
def UB:∀{l:af (ah×ah)} {b:ah} {m:ag},(∀q∈l,0<q.2)->(∀q∈l,aI n q.2)->0<b->aI m b->0<l.foldl jK b/\aI (m+l.length*n) (l.foldl jK b)
 |[],b,m,_,_,d,c=>(d,by simpa using c)|q::l,b,m,f,e,d,c=>by have g:=f q (_);have:=UB (λx a=>f x<|cO _ a) (λx a=>e x<|cO _ a) (Fz d g)<|(c.a3<|FO g).a1<|e q (_);refine(this.1,this.2.a0 ?_);rw[ij,Dy];lia
def BI:∀{l:af (ah×ah)} {b:ah} {m:ag},(∀q∈l,0<q.2)->(∀q∈l,aI n q.2)->0<b->aI m b->0<l.foldl (λb q=>b*q.2) b/\aI (m+l.length*n) (l.foldl (λb q=>b*q.2) b)
 |[],b,m,_,_,d,c=>(d,by simpa using c)|q::l,b,m,f,e,d,c=>by have g:=f q (_);have:=BI (λx a=>f x<|cO _ a) (λx a=>e x<|cO _ a) (fQ d g)<|c.a1<|e q (_);refine(this.1,this.2.a0 ?_);rw[ij,Dy];left
def oR.a2{l b a:af (ah×ah)}(h:oR n l)(e:l=b++z::a):oR n b/\0<z.2/\aI n z.1/\aI n z.2:=by subst e;refine((?_,h.a7,λq c=>h.a0 q ∅,λq c=>h.a4 q (),λq c=>h.a3 q ()),h.a0 z (),h.a4 z (),h.a3 z ());have:=h.a5;grind
def oR.a1(h:oR n l)(e:z∈l):0<z.2/\aI n z.1/\aI n z.2:=(h.a0 z e,h.a4 z e,h.a3 z e)
def oR.a6(h:oR n l):0<l.foldl jK 1/\aI (1+20*n) (l.foldl jK 1):=by have:=UB (b:=1) (m:=1) h.a0 h.a3 ⋯ aI.a2;exact(this.1,this.2.a0 (by have:=p_ n h.a5;nofun))
def oR.a8(h:oR n l):0<l.foldl (λb q=>b*q.2) 1/\aI (1+20*n) (l.foldl (λb q=>b*q.2) 1):=by have:=BI (b:=1) (m:=1) h.a0 h.a3 ⋯ aI.a2;exact(this.1,this.2.a0 (by have:=p_ n h.a5;ac_rfl))
def l6(j:bH)(a:af az)(d:az):Prop:=∃l:af (ah×ah),a=[.d<|l.map cE]/\(∃n,oR n l)/\d=bX j (gG l)
def yX:bW ["ratios","below","ratio"] ["ratios"] (bf<|aK 15):={}
def vv(l:af α)(f:α->ah):l.map (λz=>az.a<|f z)=(l.map f).map az.a:=by rw[eS];rfl
def jM(l:af α):l.filter (λ_=>ao)=l:=()
def FH(J:cq K i j):cI P w K i g 42 "row_of" (l6 j):=by refine cW J.Z yX λp o m d h e=>?_;obtain⟨l,rfl,⟨n,b⟩,rfl⟩:=e;have f:=b.a6;have k:=b.a7;refine fB (aL (cB 1 aF yX.a)<|aL (jh l cE (λr=>[.a<|.d<|l.map cE,.a<|.a<|r.foldl jK 1,.b]) (λr z=>[.a<|.d<|l.map cE,.a<|.a<|r.foldl jK 1,.a<|cE z]) (gm (0)) (λr z c a=>(e_ 2 yX.a)) (λr z c a=>fj (aL (cB 1 (fR (sC (1) (aY (Lf J) #[(1),gb (2) aF eH] (_,_,aa,?_,?_,aa)) ?_) (gb (2) aF eH) ?_) yX.a) bV) ?_) aa fT)<|aX<|bb<|rC (vw J) #[bJ<|km l cE (λ_=>ao) (λq=>.a<|q.1*(l.foldl jK 1/q.2)) (λz=>[.a<|.d<|l.map cE,.a<|.a<|l.foldl jK 1,.a<|cE z]) (own:=[("ratio",2)]) (gm (0)) (gP (N:=["ratios","below","ratio"]) (sc:=bf<|aK 15) ⋯) ⋯ (λ_ _ _ _ _ _ _ z a=>(e_ 2 yX.a)) (λ_ _ _ _ _ _ _ z a=>ji) (λ_ _ _ _ _ _ _ z a _=>(fR (gb (2) aF di) (sC (1) (gb (2) aF eH) ?_) ?_)) ?_ aa yX.a,(1)] (aa,aa)) ?_;have:=(b.a2 a).1.a6;lia;have:=(b.a2 a).2.1;lia;exact FO (b.a2 a).2.1;exact eD ((b.a2 a).1.a6.2.a3<|FO (b.a2 a).2.1) (b.a2 a).2.2.2 !_;rw[rV];exact .a0<|.a0<|.no .a2;exact(b.a1 a).1;exact eD (b.a1 a).2.1 (f.2.a3 (b.a1 a).1) !_;have:=b.a5;lia;rw[jM,vv];rfl
end
def jm(h:fz X tg e (kJ F0 H0 ρ ds))(q:ds=ds'):fz X tg e (kJ F0 H0 ρ ds'):=q▸h
def qj(g:α->az)(h:β->az):∀(A:af α) (B:af β),Oo (λa b=>az.f [a,b]) (A.map g) (B.map h)=(A.zip B).map λp=>az.f [g p.1,h p.2]
 |[],_=>aa|_::_,[]=>aa|a::A,b::B=>by show az.f [g a,h b]::Oo _ (A.map g) (B.map h)=_;rw[qj g h A B];rfl
section
variable{K:aZ}
def m6(c:bH)(a:af az)(d:az):Prop:=∃l:af (ah×ah),a=[.d<|l.map cE]/\(∃n,oR n l)/\d=bX c (rm l)
def yW:bW ["ratios","below","ratio"] ["ratios"] (bf<|aK 16):={}
def Vb(J:cq K i c):cI P w K i f 42 "row_over_product" (m6 c):=by refine cW J.P yW λr p o d k h=>?_;obtain⟨l,rfl,⟨n,e⟩,rfl⟩:=h;have j:=e.a8;have m:=e.a7;refine fB (aL (cB 1 aF yW.a)<|aL (jh l cE (λs=>[.a<|.d<|l.map cE,.a<|.a<|s.foldl (λb q=>b*q.2) 1,.b]) (λs z=>[.a<|.d<|l.map cE,.a<|.a<|s.foldl (λb q=>b*q.2) 1,.a<|cE z]) (gm (0)) (λs z g a=>(e_ 2 yW.a)) (λs z g a=>fj (aL (cB 1 (fR (1) (gb (2) aF eH) ?_) yW.a) bV) ?_) aa fT)<|aX<|bb<|rC (vw J) #[bJ<|km l cE (λ_=>ao) (λq=>.a<|q.1*(l.foldl (λb q=>b*q.2) 1/q.2)) (λz=>[.a<|.d<|l.map cE,.a<|.a<|l.foldl (λb q=>b*q.2) 1,.a<|cE z]) (own:=[("ratio",2)]) (gm (0)) (gP (N:=["ratios","below","ratio"]) (sc:=bf<|aK 16) ⋯) ⋯ (λ_ _ _ _ _ _ _ z a=>(e_ 2 yW.a)) (λ_ _ _ _ _ _ _ z a=>ji) (λ_ _ _ _ _ _ _ z a _=>(fR (gb (2) aF di) (sC (1) (gb (2) aF eH) ?_) ?_)) ?_ aa yW.a,(1)] (aa,aa)) ?_;exact eD (e.a2 a).1.a8.2 (e.a2 a).2.2.2 (by left);rw[rV];exact .a0<|.a0<|.no .a2;exact(e.a1 a).1;exact eD (e.a1 a).2.1 (j.2.a3 (e.a1 a).1) (by left);have:=e.a5;grind;rw[jM,vv];rfl
def ll(tops:af ah)(a:ah):ah:=tops.foldl (λg t=>((fJ g t:ag):ah)) a
def qo(tops:af ah)(a:ah):bF:=(tops.map (· /ll tops a),a/ll tops a)
def BW:∀{tops:af ah} {b:ah},0<b->0<ll tops b
 |[],_,h=>h|t::l,b,h=>BW (tops:=l) (by have:0<fJ b t:=QO t (by left);show 0<((fJ b t:ag):ah);nofun)
def o6(c:bH)(a:af az)(d:az):Prop:=∃p:af ah×ah,a=[aM p.1,.a p.2]/\0<p.2/\p.1.length<=1000/\d=bX c (qo p.1 p.2)
def yV:bW ["tops","below","factor","top"] ["tops","below"] (bf<|aK 17):={}
def Va(J:cq K i c):cI P w K i f 42 "shortened" (o6 c):=by
 refine cW J.d2 yV λp o n d k j=>?_;obtain⟨⟨l,b⟩,rfl,g,m,rfl⟩:=j;have g:0<b:=g;refine fB (aL (cB 2 (1) yV.a)<|aL (jh l az.a (λq=>[.a<|aM l,.a<|.a b,.a<|.a<|ll q b,.b]) (λq z=>[.a<|aM l,.a<|.a b,.a<|.a<|ll q b,.a<|.a z]) (gm (0)) (λq z a h=>(e_ 3 yV.a)) (λq z a h=>fj (aL (cB 2 (aY (Lf J) #[(2),Gn J.T.r (3)] (_,_,aa,?_,?_,aa)) yV.a) bV) ?_) aa fT)<|aX<|bb<|rC (vw J) #[bJ<|km l az.a (λ_=>ao) (λt=>.a<|t/ll l b) (λz=>[.a<|aM l,.a<|.a b,.a<|.a<|ll l b,.a<|.a z]) (own:=[("top",3)]) (gm (0)) (gP (N:=["tops","below","factor","top"]) (sc:=bf<|aK 17) ⋯) ⋯ (λ_ _ _ _ _ _ _ z h=>(e_ 3 yV.a)) (λ_ _ _ _ _ _ _ z h=>ji) (λ_ _ _ _ _ _ _ z h _=>(sC (3) (2) ?_)) ?_ aa yV.a,sC (1) (2) ?_] (aa,aa)) ?_;have:=BW (tops:=q) g;lia;symm;have e:ll (q++[z]) b=((fJ (ll q b) z:ag):ah):=by simp[ll]
 rw[e];exact .a0<|.a0<|.a0<|.no .a2;exact BW g;lia;exact BW g;rw[jM,vv];rfl
def w6(c:bH)(a:af az)(d:az):Prop:=∃p:bF×bF,a=[bX c p.1,bX c p.2]/\0<p.1.b/\0<p.2.b/\p.1.a.length<=1000/\(∀q∈p.1.a.zip p.2.a,oZ q.1 q.2)/\oZ p.1.b p.2.b/\ d=vF (aQ ((p.1.a.zip p.2.a).map λq=>q.1*q.2).sum<|p.1.b*p.2.b)
def EV:bW ["one","other","total","left","right"] ["one","other"] (bf<|aK 18):={}
def UZ(J:cq K i c):cI P w K i f 43 "sum_of_products" (w6 c):=by refine cW J.d4 EV λr p o d m g=>?_;obtain⟨⟨a,b⟩,rfl,l,k,n,j,h,rfl⟩:=g;refine fB (aL (cB 2 (LJ aa J.T.x<|dY (bJ<|km (a.a.zip b.a) cE (λ_=>ao) (λq=>.a<|q.1*q.2) (λz=>[.a<|bX c a,.a<|bX c b,.b,.a<|.a z.1,.a<|.a z.2]) (own:=[("left",3),("right",4)]) (jm (rr J.T.h (cC 0 J.T.d (0))<|cC 0 J.T.d (1))<|qj az.a az.a _ _) (gP (N:=["one","other","total","left","right"]) (sc:=bf<|aK 18) ⋯) ⋯ (λ_ _ _ _ _ _ _ z e=>(mf 3 4 aa EV.a)) (λ_ _ _ _ _ _ _ z e=>ji) (λ_ _ _ _ _ _ _ z e _=>(fR (3) (4)<|j z e)) ?_ aa EV.a) ?_) EV.a)<|aX<|bb<|aY (nG J) #[(2),fR (cC 1 J.T.d (0)) (cC 1 J.T.d (1)) h] (_,_,aa,fQ l k,aa)) aa;grind;rw[jM,vv]
def ow(r:bF):bF:=(r.a.map λt=>t*t,r.b*r.b)
def x6(c:bH)(a:af az)(d:az):Prop:=∃r:bF,a=[bX c r]/\r.a.length<=1000/\(∀t∈r.a,oZ t t)/\oZ r.b r.b/\d=bX c (ow r)
def Kg:bW ["row","top"] ["row"] (bf<|aK 19):={}
def L9(J:cq K i c):cI P w K i f 42 "squares" (x6 c):=by refine cW J.b4 Kg λm l k d h b=>?_;obtain⟨r,rfl,j,g,e,rfl⟩:=b;refine fB (aX<|bb<|rC (vw J) #[bJ<|km r.a az.a (λ_=>ao) (λt=>.a<|t*t) (λz=>[.a<|bX c r,.a<|.a z]) (own:=[("top",1)]) (gm<|cC 0 J.T.d (0)) (gP (N:=["row","top"]) (sc:=bf<|aK 19) ⋯) ⋯ (λ_ _ _ _ _ _ _ z a=>(e_ 1 Kg.a)) (λ_ _ _ _ _ _ _ z a=>ji) (λ_ _ _ _ _ _ _ z a _=>(fR (1) (1)<|g z a)) ?_ aa Kg.a,fR (cC 1 J.T.d (0)) (cC 1 J.T.d (0)) e] (aa,aa)) ?_;lia;rw[jM,vv];rfl
def iG(tops:af ah)(a:ah):af ah:=tops.flatMap λt=>[(aQ t a).num,((aQ t a).den:ah)]
def F6(c:bH)(a:af az)(d:az):Prop:=∃r:bF,a=[bX c r]/\0<r.b/\r.a.length<=1000/\d=aM (iG r.a r.b)
def Kf:bW ["row","numbers","top"] ["row"] (bf<|aK 20):={}
def wU:∀(l:af ah) (b:ah),(iG l b).length=2*l.length
 |[],_=>aa|t::l,b=>by show(_++iG l b).length=_;rw[hU,wU l b];simp;lia
def FF(J:cq K i c):cI P w K i f 43 "told" (F6 c):=by
 refine cW J.S Kf λn m l d j g=>?_;obtain⟨r,rfl,h,k,rfl⟩:=g;refine fB (aL (ia 1 (cQ aD) Kf.a)<|aL (jh r.a az.a (λo=>[.a<|bX c r,.c<|(iG o r.b).map az.a,.b]) (λo z=>[.a<|bX c r,.c<|(iG o r.b).map az.a,.a<|.a z]) (gm<|cC 0 J.T.d (0)) (λo z a b=>(e_ 2 Kf.a)) (λo z a b=>fj (aL (Kk 1 aa (aY (nG J) #[(2),cC 1 J.T.d (0)] (_,_,aa,h,aa)) ?_) bV) ?_) aa fT)<|iI 1 aa<|aX<|bb (1)) aa;(simp_all[wU];lia);have e:iG (o++[z]) r.b=iG o r.b++[(aQ z r.b).num,((aQ z r.b).den:ah)]:=by simp[iG]
 rw[e,eV];exact .a0<|.a0<|.no .a2
end
def E'{n d k:ag}:il n d (ai (k:ah))=pb k n:=by unfold il;rfl
def Sz:il n d aq=d:=by unfold il;simp
def Ci(xs:af α)(k:ag):jO xs (ai (k:ah)) aq=xs.drop k:=by simp[jO,E',Sz,Oq,List.drop_of_length_le]
def LV(xs:af α)(k:ag):jO xs aq (ai (k:ah))=xs.take k:=by simp_all[jO,E',Sz]
def Wq(xs:af α)(h:m<=xs.length)(a:k<=m):jO xs (ai (k:ah)) (ai (m:ah))=(xs.drop k).take (m- k):=by grind[jO,E']
def k8(xs:af α)(h:1<=xs.length):jO xs (ai 1) (ai (-1))=(xs.drop 1).take (xs.length- 2):=by
 unfold jO;have b:il xs.length 0 (ai 1)=1:=by have:=E' (n:=xs.length) (d:=0) (k:=1);nofun
 have a:il xs.length xs.length (ai (-1))=xs.length- 1:=by show(if(-1:ah)<0 then((-1:ah)+xs.length).toNat else pb (-1:ah).toNat xs.length)=_;lia
 left
def Md{a:af α}{x:α}(h:a.getLast?=ai x):fZ a (-1)=ai x:=by grind[List.getLast?_eq_some_iff,ac3]
def Z8(xs:af ah)(k:ag):jO (xs.map az.a) (ai (k:ah)) aq=(xs.drop k).map az.a:=by rw[Ci,yq]
def Ws(xs:af ah):jO (xs.map az.a) (ai 1) aq=xs.tail.map az.a:=by have:=Z8 xs 1;nofun
def UE(h:xs≠[]):(xs.map az.a).getLast?=ai (.a<|xs.getLastD 0):=by
 rw[T1];cases xs with|nil=>exact bG aa h|cons a l=>rw[List.getLast?_cons,List.getLastD_cons];simp
def rE(before:ah)(a b:af ah):af ah:=(b.tail.zip a.tail).map λq=>(a.headD 0*q.1- b.headD 0*q.2)/before
def mj(n:ag)(a:af ah):Prop:=a≠[]/\a.length<=20/\∀z∈a,aI n z
def mj.a1{n:ag}{b:af ah}(h:mj n b):aI n (b.headD 0):=by
 cases b with|nil=>exact bG aa h.1|cons a l=>exact h.2.2 a (_)
def mj.a0(h:mj n row):fZ (row.map az.a) 0=ai (.a<|row.headD 0):=by
 cases row with|nil=>exact bG aa h.1|cons a l=>exact di
def mj.a2(h:mj n row)(a:z∈row.tail):aI n z:=h.2.2 z<|List.mem_of_mem_tail a
section
variable{K:aZ}{ad:bH}
def G3(ds:af az)(d:az):Prop:=∃p:af ah×af ah×ah,ds=[aM p.1,aM p.2.1,.a p.2.2]/\0<p.2.2/\(∃n,n<=60000000/\mj n p.1/\mj n p.2.1)/\d=aM (rE p.2.2 p.2.1 p.1)
def Bq:bW ["row","pivot","before","own","other","number","over"] ["row","pivot","before"] (bf<|aK 23):={}
def r9(J:cq K c ad):cI P w K c a 40 "crossed" G3:=by refine cW J.d3 Bq λo m l d j i=>?_;obtain⟨⟨r,p,b⟩,rfl,h,⟨n,k,f,g⟩,rfl⟩:=i;refine fB (aL (cB 3 (bt (0) aF f.a0) Bq.a)<|aL (cB 4 (bt (1) aF g.a0) Bq.a)<|aX<|bb<|bJ<|km (r.tail.zip p.tail) cE (λ_=>ao) (λq=>.a<|(p.headD 0*q.1- r.headD 0*q.2)/b) (λz=>[.a<|aM r,.a<|aM p,.a<|.a b,.a<|.a<|r.headD 0,.a<|.a<|p.headD 0,.a<|.a z.1,.a<|.a z.2]) (own:=[("number",5),("over",6)]) (jm (rr J.T.h (bJ<|xh (0) (qt aF) zl)<|bJ<|xh (1) (qt aF) zl) (by rw[Ws,Ws];exact qj az.a az.a _ _)) (gP (N:=["row","pivot","before","own","other","number","over"]) (sc:=bf<|aK 23) ⋯) ⋯ (λ_ _ _ _ _ _ _ z e=>(mf 5 6 aa Bq.a)) (λ_ _ _ _ _ _ _ z e=>ji) (λ_ _ _ _ _ _ _ z e _=>(sC (sy (fR (4) (5) ?_)<|fR (3) (6) ?_) (2) h)) ?_ aa Bq.a) ?_;exact eD g.a1 (f.a2 (gd e).1) !_;exact eD f.a1 (g.a2 (gd e).2) (by left);have:r.length<=20:=f.2.1;rw[kG];exact fx (Nat.min_le_left ..) (fx (List.tail_sublist r).length_le (fx this ⋯));rw[jM,vv];rfl
def kL:ag->af (af ah)->ah->aJ (af<|af ah)
 |0,_,_=>ai []|_+1,[],_=>ai []|k+1,p::d,b=>if p.headD 0=0 then aq else(kL k (d.map<|rE b p)<|p.headD 0).map (p:: ·)
inductive mK:ag->af (af ah)->ah->Prop
 |a3 {n:ag} {b:ah}:mK n [] b
 |a0 {n:ag} {b:ah} {p:af ah} {rs:af (af ah)}:mj n p->p.headD 0=0->mK n (p::rs) b
 |a1 {n:ag} {b:ah} {p:af ah} {rs:af (af ah)}:0<b->n<=60000000->(∀r∈p::rs,mj n r)->0<p.headD 0->mK (2*n+1) (rs.map (rE b p)) (p.headD 0)->mK n (p::rs) b
def Y4{motive:mK n (p::r) b->Prop}(a0:∀x y,motive (.a0 x y))(a1:∀x y z w v,motive (.a1 x y z w v))(h:mK n (p::r) b):motive h:=by cases h with|a0 x y=>exact a0 x y|a1 x y z w v=>exact a1 x y z w v
def mK.a4(h:mK n (p::rs) b):mj n p:=by
 cases h using Y4 with|a0 h _=>exact h|a1 _ _ h _ _=>exact h p (_)
def y6(ds:af az)(d:az):Prop:=∃p:af (af ah)×ah,ds=[.d<|p.1.map aM,.a p.2]/\p.1.length<=100/\(∃n,mK n p.1 p.2)/\d=match kL p.1.length p.1 p.2 with|none=>.e|some l=>.d<|l.map aM
def vj:bW ["equations","scale","steps","rows","before","pivot","row"] ["equations","scale"] (bf<|aK 24):={}
def T7(rs:af (af ah))(f:af ah->af ah):(rs.filter λ_=>ao).map (λr=>aM<|f r)=(rs.map f).map aM:=by rw[jM,eS];rfl
def Y8(xs:af (af ah)):jO (xs.map aM) (ai 1) aq=xs.tail.map aM:=by have:=Ci (xs.map aM) 1;nofun
structure WQ where
 b:af (af ah)
 a:af (af ah)
 c:ah
def VU(eqs:af (af ah))(b:ah)(t:WQ):af bL:=[.a<|.d<|eqs.map aM,.a<|.a b,.c<|t.b.map aM,.a<|.d<|t.a.map aM,.a<|.a t.c,.b,.b]
def M9(J:cq K c ad):cI P w K c a 41 "staircase" y6:=by
 refine cW J.p vj λF E L d I H=>?_;obtain⟨⟨f,j⟩,rfl,s,⟨n,G⟩,rfl⟩:=H;refine aL (ia 2 (cQ aD) vj.a)<|aL (cB 3 (0) vj.a)<|aL (cB 4 (1) vj.a)<|yZ (Sw (β:=WQ) (VU f j) (λt=>aT<|0<t.a.length) (λt=>match t.a with|[]=>aq|p::g=>if p.headD 0=0 then ai .e else aq) (λt=>match t.a with|[]=>t|p::g=>(t.b++[p],g.map<|rE t.c p,p.headD 0)) (λt=>t.a.length) (λt=>t.a.length+t.b.length<=100/\∃n,mK n t.a t.c) (λt=>match kL t.a.length t.a t.c with|none=>.b .e|some l=>.a [.a<|.d<|f.map aM,.a<|.a j,.c<|(t.b++l).map aM,.b,.b,.b,.b]) (λt=>[.a<|.d<|f.map aM,.a<|.a j,.c<|t.b.map aM,.b,.b,.b,.b]) (λt=>.a0<|.a0<|.a0<|.no<|.no<|.no<|.no .a2) ?_ ?_ ?_ ?_ ([],f,j) (by simpa using s,n,G) fT) ?_;exactλt v=>cX (jE (dO J.T.e (3)) aF) ();rintro ⟨D,e,b⟩ ⟨C,n,u⟩ v;cases e with|nil=>simp at v|cons p g=>
  have A:=u.a4;refine aL (cB 5 (bt (3) aF di) vj.a) ?_;by_cases i:p.headD 0=0;show bg _ _<|cT F E _ (match(if p.headD 0=0 then ai az.e else aq)with|none=>_|some d=>.b d);rw[aG i];exact aX<|bK (ec (bt (5) aF A.a0) aF) (λ_=>aX<|bb eO)<|λh=>bG i<|mQ h;show bg _ _<|cT F E _ (match(if p.headD 0=0 then ai az.e else aq)with|none=>.a (VU f j (D++[p],g.map<|rE b p,p.headD 0))|some d=>.b d);rw[aE i];cases u using Y4 with|a0 _ h=>exact bG h i|a1 B q k o m=>refine fj (aL (bK (ec (bt (5) aF A.a0) aF) (λh=>bG (iM h) i)<|λ_=>bV)<|aL (kf 2 aa (5) ?_)<|aL (Bt g aM (λ_=>ao) (λr=>aM<|rE b p r) (λr=>[.a<|.d<|f.map aM,.a<|.a j,.b,.a<|.d<|(p::g).map aM,.a<|.a b,.a<|aM p,.a<|aM r]) (own:=[("row",6)]) (jm (gm<|bJ<|xh (3) (qt aF) zl)<|Y8 (p::g)) (gP (N:=["equations","scale","steps","rows","before","pivot","row"]) (sc:=bf<|aK 24) ⋯) ⋯ (λ_ _ _ _ _ _ _ z i=>(e_ 6 vj.a)) (λ_ _ _ _ _ _ _ z i=>ji) (λ_ _ _ _ _ _ _ z x _=>aY (r9 J) #[(6),(5),(4)] ((z,p,b),aa,B,(_,q,k z<|cO _ x,k p (_)),aa)) ?_ aa vj.a 3)<|aL (cB 4 (bt (5) aF A.a0) vj.a) bV) ?_;left;left;show jQ _ [_,_,.c<|(D++[p]).map aM,.a<|.d<|(g.map<|rE b p).map aM,_,.b,.b];rw[T7,eV];exact .a0<|.a0<|.a0<|.a0<|.a0<|.no<|.no .a2
 rintro ⟨D,e,b⟩ ⟨C,n,u⟩ v y;cases e with|nil=>simp at v|cons p g=>
  by_cases i:p.headD 0=0;lia;cases u using Y4 with|a0 _ h=>exact bG h i|a1 B q k o m=>left
 rintro ⟨D,e,b⟩ ⟨C,n,u⟩;cases e with|nil=>simp[kL]|cons p g=>(simp[kL];grind?)
 cases y:kL f.length f j with|none=>rfl|some l=>exact iI 2 aa<|aX<|bb (2)
end
def qw(step:af ah):af ah:=(step.drop 1).take<|step.length- 2
def vp(a b:af ah):af ah:=(a.zip b).map λq=>q.1*q.2
def lA(below:ah)(a b:af ah):af ah:=((b.getLastD 0*below-(vp (qw b) a).sum)/b.headD 0)::a
def gH(steps:af (af ah))(a:ah):ah:=match steps.getLast? with|none=>a|some s=>s.headD 0
def zC(steps:af (af ah))(a:ah):af ah:=steps.reverse.foldl (lA a) []
def pE(eqs:af (af ah))(a:ah):aJ bF:=(kL eqs.length eqs a).map λb=>(zC b<|gH b a,gH b a)
def mK.a2:∀{k:ag} {n:ag} {a:af (af ah)} {b:ah} {l:af (af ah)},mK n a b->a.length=k->kL k a b=ai l->l.length=k/\∀s∈l,mj (2^k*(n+1)) s/\0<s.headD 0
 |0,n,a,b,l,h,o,c=>by simp[kL]at c;subst c;exact(aa,λs c=>by simp at c)|k+1,n,[],b,l,h,o,c=>by simp at o|k+1,n,p::t,b,l,h,o,c=>by
  cases h using Y4 with
  |a0 f r=>simp only[kL,aG r]at c;cases c
  |a1 w v j e d=>
   have i:¬p.headD 0=0:=!_;simp only[kL,aE i]at c;obtain⟨u,m,rfl⟩:=p'.mp c;obtain⟨g,q⟩:=mK.a2 d ∅ m;refine(by nofun,λs c=>?_);rcases fq.mp c with rfl|c;have f:=j s (_);refine((f.1,f.2.1,λz i=>(f.2.2 z i).a0 ?_),e);have:1<=2^(k+1):=Dz
   calc n<=1*(n+1):=¬_
    _<=2^(k+1)*(n+1):=p_ _ this
   left
def Te(ha:∀z∈a,aI m z)(d:∀z∈b,aI t z):∀z∈vp a b,aI (m+t) z:=λz c=>by obtain⟨q,e,rfl⟩:=cJ.mp c;exact(ha _ (gd e).1).a1<|d _ (gd e).2
def UO{a:af ah}(h:z∈qw a):z∈a:=ZR<|List.mem_of_mem_take h
def UD{a:af ah}(h:a≠[]):a.getLastD 0∈a:=by simp[*,List.getLast?_eq_some_getLast]
def Mb(hb:aI m below):∀(l:af (af ah)) (a:af ah) (t:ag),(∀s∈l,mj m s/\0<s.headD 0)->m<=t->l.length+a.length<=8->(∀z∈a,aI t z)->∀z∈l.foldl (lA below) a,aI (t+l.length*(m+6)) z
 |[],a,t,_,_,_,b=>by simpa using b|s::l,a,t,h,o,i,b=>by
  intro z e;have c:=h s (_);have d:∀z∈lA below a s,aI (t+(m+6)) z:=by intro y f;rcases fq.mp f with rfl|f;refine aI.a3 ?_ c.2;have n:=(c.1.2.2 _<|UD c.1.1).a1 hb;have k:=EL (Te (λz e=>c.1.2.2 z<|UO e) b) (by unfold vp;rw[cb,kG];simp at i;lia);exact(n.a4 k).a0 !_;exact(b y f).a0 ¬_
  have:=Mb hb l (lA below a s) (t+(m+6)) (λj g=>h j<|cO _ g) (by lia) (by simp[lA]at i ⊢;lia) d z e;refine this.a0 ?_;rw[ij,Dy];lia
section
variable{K:aZ}
def v6(f:bH)(a:af az)(d:az):Prop:=∃p:af (af ah)×ah,a=[.d<|p.1.map aM,.a p.2]/\p.1.length<=8/\(∃n,2^p.1.length*(n+1)<=10000000/\mK n p.1 p.2/\aI n p.2)/\d=match pE p.1 p.2 with|none=>.e|some r=>bX f r
def tH:bW ["equations","scale","steps","below","tops","step","known","number","top"] ["equations","scale"] (bf<|aK 25):={}
def i9(xs:af ah)(h:xs≠[]):jO (xs.map az.a) (ai 1) (ai (-1))=(qw xs).map az.a:=by rw[k8 _ ()];simp[qw,AB,yq]
def UG(h:∀s∈steps,mj m s/\0<s.headD 0)(a:aI m sc):aI m (gH steps sc):=by
 unfold gH;cases e:steps.getLast? with|none=>exact a|some s=>exact(h s<|ZS e).1.a1
def U_(J:cq K g f):cI P w K g c 42 "solved" (v6 f):=by
 refine cW J.d5 tH λF0 H0 ds d hr Y=>?_;obtain⟨⟨j,i⟩,rfl,S,⟨n,X,A,M⟩,rfl⟩:=Y;have S:j.length<=8:=S;refine aL (cB 2 (aY (M9 J) #[(0),(1)] ((j,i),aa,!_,(n,A),aa)) tH.a) ?_;unfold pE;cases L:kL j.length j i with|none=>exact aX (bK (eX (2)) (λ_=>(aX<|bb eO)) (λh=>by simp[md]at h))|some l=>
  obtain⟨h1,F⟩:=A.a2 aa L;have Z:2^j.length*(n+1)<=10000000:=X;have Q:n<=10000000:=by have:1<=2^j.length:=Dz;have:=p_ (n+1) this;lia
  have E:∀s∈l,mj 10000000 s/\0<s.headD 0:=λs v=>(((F s v).1.1,(F s v).1.2.1,λz m=>((F s v).1.2.2 z m).a0 Z),(F s v).2);have U:=UG E<|M.a0 Q;refine aL (bK (eX (2)) (λh=>by simp[md]at h)<|λ_=>bV)<|aL (cB 3 (sA (jE (dO J.T.e (2)) aF) (λh=>?_)<|λh=>?_) tH.a)<|aL (cB 4 (bJ<|cQ aD) tH.a)<|aL (jh l.reverse aM (λD=>[.a<|.d<|j.map aM,.a<|.a i,.a<|.d<|l.map aM,.a<|.a<|gH l i,.a<|aM<|D.foldl (lA<|gH l i) [],.b,.b,.b,.b]) (λD z=>[.a<|.d<|j.map aM,.a<|.a i,.a<|.d<|l.map aM,.a<|.a<|gH l i,.a<|aM<|D.foldl (lA<|gH l i) [],.a<|aM z,.b,.b,.b]) (jm (On J.T.L (2)) List.map_reverse.symm) (λD z o m=>(e_ 5 tH.a)) (λD z o m=>?_) aa fT)<|aX<|bb<|rC (vw J) #[(4),(3)] (aa,aa);cases q:l.getLast? with|none=>(exfalso;nofun)|some G=>
   have u:=(E G<|ZS q).1;have e:gH l i=G.headD 0:=by unfold gH;rw[q]
   rw[e];exact bt (bt (2) (tW aF)<|Md (by rw[T1,q];rfl)) aF u.a0
  cases q:l.getLast? with
  |none=>
   have e:gH l i=i:=by unfold gH;rw[q]
   rw[e];exact (1)
  |some G=>(simp at*;nofun)
  have B:z∈l:=by nofun
  have k:=E z B;have x:∀s∈D,mj 10000000 s/\0<s.headD 0:=λs v=>E s (by have:s∈l.reverse:=();simpa using this);have O:D.length+1<=8:=by have:=fk uI m;grind
  have W:(D.foldl (lA<|gH l i) []).length=D.length:=by
   have g0:∀(C:af (af ah)) t b,(C.foldl (lA b) t).length=C.length+t.length:=by
    intro C;induction C with|nil=>intro t b;simp|cons a r V=>intro t b;rw[fO,V];simp[lA];lia
   symm
  have I:=Mb U D [] 10000000 x (b_ _) (by constructor<;>nofun) ();have p:∀y∈D.foldl (lA<|gH l i) [],aI 100000000 y:=λy H=>(I y H).a0 (by lia);have R:∀y∈qw z,aI 10000000 y:=λy H=>k.1.2.2 y<|UO H;refine fj (aL (cB 6 (LJ (ns:=vp (qw z)<|D.foldl (lA<|gH l i) []) aa J.T.x<|dY (bJ<|km ((qw z).zip<|D.foldl (lA<|gH l i) []) cE (λ_=>ao) (λq=>.a<|q.1*q.2) (λq=>[.a<|.d<|j.map aM,.a<|.a i,.a<|.d<|l.map aM,.a<|.a<|gH l i,.a<|aM<|D.foldl (lA<|gH l i) [],.a<|aM z,.b,.a<|.a q.1,.a<|.a q.2]) (own:=[("number",7),("top",8)]) (jm (rr J.T.h (bJ<|xh (5) (qt aF)<|qt<|tW aF) (4)) (by rw[i9 z k.1.1];exact qj az.a az.a _ _)) (gP (N:=["equations","scale","steps","below","tops","step","known","number","top"]) (sc:=bf<|aK 25) ⋯) ⋯ (λ_ _ _ _ _ _ _ z m=>(mf 7 8 aa tH.a)) (λ_ _ _ _ _ _ _ z m=>ji) (λ_ _ _ _ _ _ _ q T _=>(fR (7) (8) ?_)) ?_ aa tH.a) ?_) tH.a)<|aL (cB 4 (bJ<|jl (bJ<|cQ #[sC (sy (fR (bt (5) (tW aF)<|Md<|UE k.1.1) (3) ?_) (6)) (bt (5) aF k.1.a0) k.2]) (4) ?_) tH.a) bV) ?_;exact eD (R _ (gd T).1) (p _ (gd T).2) ⋯;grind;rw[jM,vv];rfl;exact eD (k.1.2.2 _<|UD k.1.1) U ⋯;(simp[*];lia);rw[rV];exact .a0<|.a0<|.a0<|.a0<|.a0<|.no<|.no<|.no<|.no .a2
end
def oP(Z:ay->ay->Prop):Prop:=∀F H b a,Z F H->cZ F H b a->Z b a
def Mm(Z':ay->ay->Prop)(o:lB)(E:wJ)(F:ay):Prop:=match o with|.a e=>∀c a b,bD F a->bE a b a b c e->Z' a b->E.a c b|.b d=>∀v a b,bD F a->bD a b->Z' a b->bY a v d->E.b v b|.c c=>∀v d a b,c d->bD F a->bD a b->Z' a b->bY a v d->E.b v b
def cN(Z:ay->ay->Prop)(b:af bL)(c:ay->ay->Prop)(o:lB):hX:=λE a H=>∃F,bE F H F H a b/\Z F H/\Mm c o E F
section
variable{X:bA}{K H0 F H:ay}{B:cw}{l S ρ1:af bL}{W e e2 a b c P elt:bI}{Y:af bI}{T p p2 U:dj}{d d1 d2:az}{M:af az}{i j:ah}{x f:aC}{C:ax}{ns:af aC}{Z O Z1:ay->ay->Prop}{st:du}{rest L:af du}{o:lB}
def tO:bL->da
 |.c _=>aw|_=>ao
def xf(h:l.all tO=ao){i:ag}:l[i]?≠ai (.c M):=λe=>by have:=mw.mp h _<|eC e;cases this
def bE.a2(A:bE F H F H B l){i:ag}:l[i]?≠ai (.c M):=λe=>by obtain⟨a,k,_,h,_,g,_⟩:=A.a0 i M e;rw[h]at g;cases g
def bE.a4(A:bE K H0 F H B l)(g:∀(i:ag) (M:af az),l[i]?≠ai (.c M)):bE F H F H B l:=(cZ.a3 A.fh,A.a5,A.a3,λi M e=>bG e<|g i M,A.a1,λi j M Y a e=>bG e<|g i M)
def bE.b0(A:bE F H F H B l){p:ax}{o:lQ}(n:F p=aq):bE F (bu H p o) F (bu H p o) B l:=(cZ.a3 λb u e=>by rw[aO<|lN e n];exact A.fh _ _ e,A.a5,A.a3,λi M e=>bG e A.a2,A.a1,λi j M Y a e=>bG e A.a2)
def bE.c1(A:bE F H F H B l){p:ax}{o:lQ}(n:H p=aq):bE F (bu H p o) F (bu H p o) B l:=A.b0<|A.fh.a1 n
def bE.b2(A:bE F H F H B l)(n:ag)(v:aH):bE F H F H (B.set n<|ai v) (l.set n<|.e v):=by
 have g:∀{j:ag} {s:bL},(l.set n<|.e v)[j]?=ai s->(n=j/\s=.e v/\j<l.length)\/(n≠j/\l[j]?=ai s):=λ{j s} e=>by by_cases q:n=j;left;nofun
 refine(cZ.a3 A.fh,by rw[j',j'];exact A.a5,λj t e=>?_,λj h e=>?_,λj m e=>?_,λj k h r y e=>?_);rcases g e with⟨_,q,_⟩|⟨q,e⟩;nofun;rw[hW q];exact A.a3 j t e;rcases g e with⟨_,q,_⟩|⟨q,e⟩;nofun;exact bG e A.a2;rcases g e with⟨rfl,q,u⟩|⟨q,e⟩;cases q;exact mY (by rwa[A.a5]);rw[hW q];exact A.a1 j m e;rcases g e with⟨_,q,_⟩|⟨q,e⟩;nofun;exact bG e A.a2
def mB(s:bD F F')(k:Mm O o E F):Mm O o E F':=by
 cases o with|a S=>exactλm G h g=>k m G h (s.a0 g)|b d=>exactλv G h g=>k v G h (s.a0 g)|c q=>exactλv d G h n g=>k v d G h n<|s.a0 g
def fu(h1:cH X st (cN Z l Z1<|.a ρ1))(n:bg X rest (cN Z1 ρ1 O o)):bg X (st::rest) (cN Z l O o):=fg (eN h1 n) λE B H (F,A,z,k)=>(F,A,z,λg q s m r h=>(q,r,h,mB m k))
def ni(h1:cH X st (cN Z l O<|.b d)):bg X (st::rest) (cN Z l O<|.b d):=fg (eN h1 lM) λE B H (F,A,z,k)=>(F,A,z,k)
def ou:bg X [] (cN Z l Z<|.a l):=fg DU λE B H (F,A,z,k)=>k B F H (bD.a2 _) A z
def Ex(h:bg X L (cN Z l O<|.a ρ1))(w:jQ ρ1 S):bg X L (cN Z l O<|.a S):=fg h λE B H (F,A,z,k)=>(F,A,z,λg r q n s m=>k g r q n (s.b5 w) m)
def Bd(h:bg X L (cN Z l Z1<|.a ρ1))(q:∀F H,Z1 F H->O F H):bg X L (cN Z l O<|.a ρ1):=fg h λE B H (F,A,z,k)=>(F,A,z,λg s r n t m=>k g s r n t<|q _ _ m)
def Rb(h:bg X L (cN Z1 l O o))(g:∀F H,Z F H->Z1 F H):bg X L (cN Z l O o):=fg h λE B H (F,A,z,k)=>(F,A,g _ _ z,k)
def Jq(h:bg X L (cN Z l O<|.b d1))(q:d1=d2):bg X L (cN Z l O<|.b d2):=q▸h
def yN(hz:oP Z)(h:∀K H0,cH X st<|cT K H0 l<|.a S)(u:S.all tO=ao|>1):cH X st (cN Z l Z<|.a S):=λg s B H E I (F,A,z,k)=>h F H g s B H E I (F,A,λm t r q n=>k m t r q (n.a4 λi M=>xf u)<|hz _ _ _ _ z n.tocZ)
def pB(hz:oP Z)(h:∀K H0,cH X st<|cT K H0 l<|.b d):cH X st (cN Z l Z<|.b d):=λg s B H E I (F,A,z,k)=>h F H g s B H E I (F,A,λv t q n m r=>k v t q n m.fh (hz _ _ _ _ z m) r)
def vc(hz:oP Z)(w:∀K H0,cP X c<|eg K H0 l k)(D:k=ao->bg X as (cN Z l O o))(y:k=aw->bg X bs (cN Z l O o)):cH X (.If c as bs T) (cN Z l O o):=by
 have m:cP X c λB H Q=>∃F,bE F H F H B l/\∀n g,cZ F H n g->bE n g n g B l->Q k g:=λh s B H Q I (F,A,q)=>w F H h s B H Q I (F,A,λn g J v=>q n g v.tocZ<|v.a4 λi M=>A.a2);cases k with|true=>exact eK (rX m (D aa) lM) λE B H (F,A,z,k)=>(F,A,λt G r u=>om (t,u,hz _ _ _ _ z r,mB r.ff k))|false=>exact eK (rX m lM<|y aa) λE B H (F,A,z,k)=>(F,A,λt G r u=>m_ (t,u,hz _ _ _ _ z r,mB r.ff k))
def Ju(hz:∀F H,cZ K H0 F H->Z F H)(h:bg X L (cN Z l (λF H=>cZ K H0 F H)<|.b d))(q:l.all tO=ao|>1):bg X L (cT K H0 l<|.b d):=fg h λE B H (F,A,k)=> (F,A.a4 λi M=>xf q,hz _ _ A.tocZ,λv n m s _ g r=>k v n m s g r)
def Rh(hz:∀F H,cZ K H0 F H->Z F H)(h:bg X L (cN Z l (λF H=>cZ K H0 F H)<|.c Pd))(t:l.all tO=ao|>1):bg X L (cT K H0 l<|.c Pd):=fg h λE B H (F,A,k)=> (F,A.a4 λi M=>xf t,hz _ _ A.tocZ,λv d q n m s _ g r=>k v d q n m s g r)
def Jp(h:bg X L (cN Z l O<|.b d))(q:Pd d):bg X L (cN Z l O<|.c Pd):=fg h λE B H (F,A,z,k)=>(F,A,z,λv n m s t g r=>k v d n m q s t g r)
def jv(h:∀K H0,aA X e<|aP K H0 l d):aA X e λB H Q=>∃F,bE F H F H B l/\∀v k g,cZ F H k g->bE k g k g B l->bY k v d->Q v g:=λm s B H Q I (F,A,q)=>h F H m s B H Q I (F,A,λv k g t n r=>q v k g n.tocZ (n.a4 λi M=>A.a2) r)
def Js{u:Type}(g:af u)(G:u->az)(n:af u->af bL)(D:af u->ay->ay->Prop)(V:∀w,oP<|D w)(ρ1:af u->u->af bL){g4:af ag}{N:af du}
  (hi:∀K H0,fz X W P<|kJ K H0 (n [])<|g.map G)
  (hg:∀K H0 w z v,g=w++z::v->jd X W (sh K H0 (n w) (G z) (ρ1 w z) g4))
  (hb:∀w z v,g=w++z::v->bg X N (cN (D w) (ρ1 w z) (D<|w++[z])<|.a<|n<|w++[z]))
  (hc:X.a9=ao)(hp:uB (bQ X.a2 X.w) X.A X.a0 X.xe)(no:(∀w z,(ρ1 w z).all tO=ao)|>4)(hs:(∀x,pW P X.a0 x=cA x)|>4):
  cH X (.For W P N [] T) (cN (D []) (n []) (D g)<|.a<|n g):=by
 have g6:fz X W P λB H R=>∃F,bE F H F H B (n [])/\∀J F' r,cZ F H F' r->bE F' r F' r B (n [])->GD J F' (g.map G)->R J r:=λg1 s B H Q I (F,A,q)=>hi F H g1 s B H Q I (F,A,λJ F' r s' A' it=>q J F' r A'.tocZ (A'.a4 λi M=>A.a2) it);refine eK (DV hp hc g6 (xJ (ι:=(af u×u×af u)×ay×ay) λt ht=>hg t.2.1 t.2.2 t.1.1 t.1.2.1 t.1.2.2 ht) (oS (ι:=af u×u×af u) λt ht=>hb t.1 t.2.1 t.2.2 ht) hs) λE B H (F,A,z,k)=>?_;refine(F,A,λJ F1 H1 g0 A1 it=>?_);refine(λi m B H=>m=g.length- i/\i<=g.length/\∃F,bD F1 F/\bE F H F H B (n<|g.take i)/\D (g.take i) F H,(g.length,aa,mW _,F1,bD.a2 _,A1,V _ _ _ _ _ z g0),?_);rintro i m σ2 H2 ⟨rfl,hle,F2,s2,A2,z2⟩;by_cases g3:i<g.length;have hz:=cK g3;obtain⟨g2,g5⟩:=EN hz;refine .inr (it.b i F2 H2 s2 A2.fh (by simp at*;nofun),λσ' r=>∃F,bD F1 F/\bE F r F r σ' (n<|g.take<|i+1)/\D (g.take<|i+1) F r,λσ' r h=>(g.length-(i+1),(),aa,g3,h),?_);intro y r hy;obtain⟨F3,rl,ry⟩:=it.c i F2 H2 y r (G g[i]) s2 A2.fh (by rw[cV,hz];rfl) hy;refine(((g.take i,g[i],g.drop<|i+1),F3,r),g2,F3,(A2.up rl).a4 λi M=>A2.a2,ry,λσ3 F4 H4 _ s4 A4=>?_);refine((g.take i,g[i],g.drop<|i+1),g2,F4,A4.a4 λi M=>xf<|no _ _,V _ _ _ _ _ (V _ _ _ _ _ z2 rl) A4.tocZ,?_);intro σ5 F5 H5 s5 A5 z5;rw[<-g5]at A5 z5;exact(F5,(s2.a0 rl.ff).a0<|s4.a0 s5,A5,z5);have e:i=g.length:=(by grind);subst e;refine .inl (it.a _ F2 H2 s2 A2.fh (),?_);rw[DD]at A2 z2;exact k σ2 F2 H2 (g0.ff.a0 s2) A2 z2
structure xI(H0:ay)(a:ax)(bs:af ax)(rows:af (af ah))(F H:ay):Prop where
 a2:H a=ai (.a (bs.map aH.c))
 fa:F a=aq
 ha:H0 a=aq
 nd:bs.Nodup
 nm:a∉bs
 a1:bs.length=rows.length
 a0:∀(j:ag) (b:ax) (r:af ah),bs[j]?=ai b->rows[j]?=ai r->H b=ai (.a (r.map aH.d))/\F b=aq/\H0 b=aq
def xI.a7{a:ax}:oP (xI H0 a bs rows):=λF H s q z r=> (r.hh _ _ z.a2,r.nf _ (by rw[z.a2];simp) z.fa,z.ha,z.nd,z.nm,z.a1,λj b w n m=>let(k,h,g):=z.a0 j b w n m;(r.hh _ _ k,r.nf _ () h,g))
def ju(K H0:ay)(a:ax)(h:af ax)(g:af (af ah)):ay->ay->Prop:=λF H=>cZ K H0 F H/\xI H0 a h g F H
def ju.a0{a:ax}:oP (ju K H0 a bs rows):=λF H h g z r=>(z.1.a4 r,xI.a7 _ _ _ _ z.2 r)
def xI.wr{a:ax}(z:xI H0 a bs rows F H){b:ax}(g:bs[k]?=ai b)(t:rows[k]?=ai r)(h:af ah):xI H0 a bs (rows.set k h) F (bu H b<|.a<|h.map aH.d):=by obtain⟨G,E,D⟩:=z.a0 k b r g t;have s:a≠b:=λq=>z.nm (by rw[q];exact eC g);refine(by rw[aO s];exact z.a2,z.fa,z.ha,z.nd,z.nm,by rw[j'];exact z.a1,λj n w u m=>?_);by_cases q:k=j;(nofun;grind?[mY,bO]);rw[hW q]at m;obtain⟨J,A,y⟩:=z.a0 j n w u m;have I:n≠b:=λv=>q<|ab2 z.nd g ∅;simp[*,aO]
def adE(n:ag)(w:l[n]?=ai (.e<|.c ar))(ho:tD X op (wG g))(G:∀K H0,aA X ei<|aP K H0 l<|.a (ki:ag))(D:∀K H0,aA X ej<|aP K H0 l<|.a (kj:ag))(he:∀K H0,aA X e<|aP K H0 l<|.a j)
  (hr:rows[ki]?=ai r)(hv:r[kj]?=ai v)(hN:X.N[n]?=ai x|>1)(y:eF X.a0.scope x|>3)(hd:dA x|>2)(I:fP x|>2)
  (hs:qe ei|>4)(ha:(∀ov s new,Ai ej ov s new=(do jW [new,ov,s] (qT ov s new);s_ [new,ov,s] [];cA .next))|>4):
  cH X (.AugAssign (.Subscript (.Subscript (.Name x p) ei p2) ej U) op e T) (cN (ju K H0 ar bs rows) l (ju K H0 ar bs<|rows.set ki<|r.set kj<|g v j)<|.a l):=
 eK (Iy (rY uT (ft hN y hd I) (jv G) hs) (jv D) Li (jv he) ho yy ha) λE B H (F,A,z,k)=>by
  refine(_,A.a1 n _ w,F,A,λv1 F1 H1 q A1 r1=>?_);cases r1;have Q:=ju.a0 _ _ _ _ z q;obtain⟨b,t⟩:∃b,bs[ki]?=ai b:=(_,cK (by rw[z.2.a1];exact(eM.mp hr).1));refine(ar,_,ki,aH.c b,aa,aa,dX.of Q.2.a2,gQ (by rw[cV,t];rfl),F1,A1,λv2 F2 H2 m A2 r2=>?_);cases r2;have J:=ju.a0 _ _ _ _ Q m;obtain⟨q1,q2,q3⟩:=J.2.a0 ki b r t hr;refine(b,_,kj,aH.d v,aa,aa,dX.of q1,by rw[cV,hv];rfl,F2,A2,λv3 F3 H3 h A3 r3=>?_);cases r3;have u:=ju.a0 _ _ _ _ J h;obtain⟨w1,R,w3⟩:=u.2.a0 ki b r t hr;have hkj:=(eM.mp hv).1;refine(v,j,aa,aa,b,_,kj,kj,aa,aa,w1,?_,?_);·unfold lP;rw[cb,aG (_),aG ∅];rfl
  ·have e3:(r.map aH.d).set kj (aH.d<|g v j)=(r.set kj<|g v j).map aH.d:=by nofun
   rw[e3];exact k B F3 _ (q.ff.a0<|m.ff.a0 h.ff) (A3.b0 R) (u.1.wr R w3,u.2.wr t hr _)
end
section
variable{X:bA}{u g F H:ay}{B:cw}{v U L:af bL}{M e e2 a b c l G:bI}{es:af bI}{K p p2 S:dj}{d Y d2:az}{O:af az}{i j:ah}{x f:aC}{C:ax}{ns:af aC}{Z P W:ay->ay->Prop}{st:du}{rest T:af du}{o:lB}
def xI.a9{q:ax}{V:af ax}{m:af (af ah)}(r:cZ u g F H)(z:xI g q V m F H):∃y,bD F y/\cZ u g y H/\bY y (.c q) (.d<|m.map aM):=by
 classical
 have g0:∀b∈V,F b=aq/\g b=aq:=λb E=>by obtain⟨j,hj,rfl⟩:=iC E;have hr:m[j]?=ai (m[j]'(by rwa[<-z.a1])):=cK _;exact(z.a0 j _ _ (cK hj) hr).2
 let y:ay:=λb=>if b=q\/b∈V then H b else F b
 have s:bD F y:=λb o e=>by
  have n:¬(b=q\/b∈V):=by rintro (rfl|E);rw[z.fa]at e;cases e;nofun
  show(if b=q\/b∈V then H b else F b)=ai o;rwa[aE n]
 refine(y,s,(r.ff.a0 s,r.hh,λb o e=>?_,λb h n=>?_),?_);have e:(if b=q\/b∈V then H b else F b)=ai o:=e;split at e;symm;exact r.fh _ _ e;have Q:¬(b=q\/b∈V):=by rintro (rfl|E);exact h z.ha;nofun
 show(if b=q\/b∈V then H b else F b)=aq;rw[aE Q];exact r.nf b h n;refine .a0 (by show(if q=q\/q∈V then H q else F q)=_;rw[aG<|.inl aa];exact z.a2) ?_;have A:∀(t:af ax) (k:af (af ah)),t.length=k.length->(∀(j:ag) (b:ax) r,t[j]?=ai b->k[j]?=ai r->y b=ai (.a<|r.map aH.d))->cx y (t.map aH.c) (k.map aM):=by
  intro t;induction t with
  |nil=>
   intro k D _;cases k with|nil=>exact .a2|cons _ _=>simp at D
  |cons b t R=>
   intro k D h;cases k with|nil=>simp at D|cons r k=>refine .a0 (.a0 (h 0 b r aa aa)<|Fb r)<|R k ∅ λj b' N I J=>h (j+1) b' N (_) (_)
 refine A V m z.a1 λj b w I J=>?_;show(if b=q\/b∈V then H b else F b)=_;rw[aG<|.inr<|eC I];exact(z.a0 j b w I J).1
def Ra(n:ag)(h:v[n]?=ai (.e<|.c ar))(w:X.N[n]?=ai x|>1)(m:eF X.a0.scope x|>3)(t:dA x|>2)
  (hcd:fP x|>2):cH X (.Return (ai<|.Name x p) K) (cN (ju u g ar bs rows) v (λF H=>cZ u g F H)<|.b<|.d<|rows.map aM):=
 eK (yA<|ft w m t hcd) λE B H (F,A,z,k)=>by obtain⟨y,s,r,q⟩:=z.2.a9 z.1;exact(_,A.a1 n _ h,k _ y H s r.fh r q)
def Rc(n:ag){α:Type}(N:af α)(g0:α->az)(D:af ah)(L:α->af bL){h4:af ag}{w:nY}{own:af (aC×ag)}{g6 py:dj}
  (hi:∀u g,fz X M l<|kJ u g v<|N.map g0)(ok:wL X.N X.a0.scope w own)(h5:∀k∈h4,k∈own.map (·.2))
  (hg:∀(s:ba) (H:ay) (C:ax) (cl:af (aC×ax)) (fp:af ax) (u g:ay),∀z∈N,jd (X.b0 s H w (lF w cl C X.a0) fp) M<|sh u g (lS v<|own.map (·.2)) (g0 z) (L z) h4)
  (he:∀(s:ba) (H:ay) (C:ax) (cl:af (aC×ax)) (fp:af ax) (u g:ay),∀z∈N,aA (X.b0 s H w (lF w cl C X.a0) fp) G<|lV u g (L z)<|D.map az.a)
  (hl:N.length<=1000000)(hc:X.a9=ao)(hN:X.N.Nodup)
  (h2:∀ar bs,bg X rest<|cN (ju u g ar bs<|cg N.length D) (v.set n<|.e<|.c ar) P o)
  (hy:X.N[n]?=ai x|>1)(h6:X.a0.scope.names.lookup x=ai .local|>1)
  (hsw:fS (.ListComp G [(M,l,[],0)] w K) (ai<|.Name x py) g6.line X.a0=cA ao:=by exact E0 rfl rfl rfl rfl)(hs:(∀x,pW l X.a0 x=cA x)|>4):
  bg X (.Assign [.Name x py] (.ListComp G [(M,l,[],0)] w K) g6::rest) (cN (λF H=>cZ u g F H) v P o):=by
 have h8:fz X M l λB H R=>∃F,bE F H F H B v/\∀J F' V,cZ F H F' V->bE F' V F' V B v->GD J F' (N.map g0)->R J V:=λh3 s B H Q I (F,A,q)=>hi F H h3 s B H Q I (F,A,λJ F' V s' A' it=>q J F' V A'.tocZ (A'.a4 λi O=>A.a2) it);refine fg (eN (Iw hc hN hy h6 hsw h8 ok (λs H C cl fp=>xJ (ι:=α×ay×ay) λt g8=>hg s H C cl fp t.2.1 t.2.2 t.1 g8) (λs H C cl fp=>Ph) (λs H C cl fp=>GA (ι:=α×ay×ay) λt g8=>he s H C cl fp t.2.1 t.2.2 t.1 g8) hs)<|oS (ι:=ax×af ax) (Pp:=λ_=>eA) λt _=>h2 t.1 t.2) λE B H (F,A,z0,k)=>?_;refine(F,A,λJ F1 H1 h0 A1 it=>λDd hD=>?_);have z1:=z0.a4 h0;have n0:=z1.hh.a1 hD;refine(λi m H=>m=N.length- i/\i<=N.length/\∃F bs,bD F1 F/\bE F H F H B v/\cZ u g F H/\xI g Dd bs (cg i D) F H,(N.length,aa,mW _,F1,[],bD.a2 _,A1.c1 hD,z1.a9 hD,(bO,A1.fh.a1 hD,n0,DH,¬_,aa,λj b r h=>by simp at h)),?_);rintro i m H2 ⟨rfl,hle,F2,bs,s2,A2,r2,z2⟩;by_cases g9:i<N.length
 ·have hz:=cK g9;have g7:=ph g9;refine .inr (it.b i F2 H2 s2 A2.fh (by (repeat' split)<;>nofun),λH=>∃F bs,bD F1 F/\bE F H F H B v/\cZ u g F H/\xI g Dd bs (cg (i+1) D) F H,λV h=>(N.length-(i+1),(),aa,g9,h),?_);intro y V hy;obtain⟨F3,rl,ry⟩:=it.c i F2 H2 y V (g0 N[i]) s2 A2.fh (by rw[cV,hz];rfl) hy;have A3:=(A2.up rl).a4 λi O=>A2.a2;have z3:=xI.a7 _ _ _ _ z2 rl;refine((N[i],F3,V),g7,F3,A3.c2 _,ry,λσ4 F4 H4 hw s4 A4=>((hw _ h5).trans<|Jz B _ _ λ_ h=>h,?_));unfold OP;dsimp only;rw[aG aa];refine((N[i],F3,V),g7,F4,A4,λa' vs F5 H5 s5 A5 g1 g2 g3 g4 g5=>?_);have hv:=g5.a7;subst hv;have g3:V a'=aq:=g3;have z5:=xI.a7 _ _ _ _ z3 A5.tocZ;have A6:=(A3.up A5.tocZ).a4 λi O=>A3.a2;have r6:=(r2.a4 rl).a4 A5.tocZ;have nD:a'≠Dd:=λq=>by subst q;rw[z3.a2]at g3;cases g3
  have i0:=(r2.a4 rl).hh.a1 g3;have nb:a'∉bs:=λhb=>by
   obtain⟨j,hj,e⟩:=iC hb;have hr:(cg i D)[j]?=ai D:=by rw[DJ,aG];have:=z3.a1;simp at this;lia
   have:=(z3.a0 j a' D (by rw[<-e];exact cK hj) hr).1;rw[this]at g3;cases g3
  refine(bs.map aH.c,z5.a2,?_,F5,bs++[a'],(s2.a0 rl.ff).a0<|s4.a0 s5,A6.b0 z5.fa,r6.wr z5.fa n0,?_);·rw[cb,z5.a1,ZY];exact gX (show i<1000001 by lia) ⋯
  ·refine(by rw[bO,eV];rfl,z5.fa,n0,PF z5.nd nb,by simp[z5.nm,dZ nD],by rw[hU,z5.a1];rfl,λj b r h1 h2=>?_);have hr:r=D:=(by grind -order -lia -linarith -ring);subst hr;by_cases hj:j<bs.length
   ·rw[yr hj]at h1;have h7:(cg i r)[j]?=ai r:=by rw[DJ,aG];have:=z5.a1;simp at this;grind
    obtain⟨w1,w2,w3⟩:=z5.a0 j b r h1 h7;have h9:b≠Dd:=λq=>z5.nm (by rw[<-q];exact eC h1);simp[*,aO]
   all_goals grind -lia -order[aO]
 ·have e:i=N.length:=(by simp only[rR,Rat.inv_mul_rev]at*;grind?);subst e;exact .inl (it.a _ F2 H2 s2 A2.fh (),(Dd,bs),dU,F2,A2.b2 n _,(r2,z2),mB (h0.ff.a0 s2) k)
end
structure bB where
 x:ax
 c:ag
 b:ag
 a:ag
 g:ah×ah
 h:ah×ah
 o:ah×ah
 l:ah×ah
 k:ah
structure aR where
 x:ax
 b:af (af ah)
 a:af bB
 d:af ah
 e:af ah
abbrev cv(ad:bH)(e:bB):az:=.k e.x ad.a gD [.a (e.c:ag),.a (e.b:ag),.a (e.a:ag),cE e.g,cE e.h,cE e.o,cE e.l,.a e.k]
abbrev bp(ad:bH)(n:aR):az:=.k n.x ad.b iJ [.d<|n.b.map aM,.d<|n.a.map<|cv ad,.h n.d<|n.e.map az.a]
structure gT(N:ag)(e:bB):Prop where
 n:e.c<3
 b:e.b<N
 a:e.a<N
 c:e.b≠e.a
 f:0<e.g.1
 d:0<e.g.2
 i:aI 20 e.g.1/\aI 20 e.g.2
 j:0<e.h.2
 k:aI 1300 e.h.1/\aI 1300 e.h.2
 q:0<=e.o.1
 m:0<e.o.2
 p:aI 1300 e.o.1/\aI 1300 e.o.2
 v:0<=e.l.1
 r:0<e.l.2
 u:e.l.1<=e.l.2
 t:aI 20 e.l.1/\aI 20 e.l.2
 s:aI 20 e.k
structure bw(n:aR):Prop where
 d:n.b.length<=8
 c:n.a.length<=14
 a:∀e∈n.a,gT n.b.length e
 l:n.d.length=n.e.length
 i:n.d.Nodup
 g:∀k∈n.d,0<=k/\k<n.b.length
 f:∀v∈n.e,aI 20 v
 j:aI 1300 ((n.a.map (·.h)).foldl (λb q=>b*q.2) 1)
def Fy(e:bB):dq:=aQ (e.g.1*e.o.1)<|e.g.2*e.o.2
def en(e:bB):ah×ah:=bh<|Fy e
def bj{b:Type}:ag->af b->af (ag×b)
 |_,[]=>[]|n,a::l=>(n,a)::bj (n+1) l
def nI:∀(n:ag) (l:af α),(bj n l).length=l.length
 |_,[]=>aa|n,a::l=>by show(bj (n+1) l).length+1=_;rw[nI];rfl
def lu:∀{n:ag} {l:af α} {i:ag} {p:ag×α},(bj n l)[i]?=ai p->p.1=n+i/\l[i]?=ai p.2
 |_,[],i,p,h=>by simp[bj]at h|n,a::l,0,p,h=>by simp[bj]at h;subst h;exact(aa,aa)|n,a::l,i+1,p,h=>by obtain⟨c,b⟩:=lu (by simpa[bj]using h);exact((by nofun;lia),by simpa using b)
def LD{l:af α}{b a:af (ag×α)}{z:ag×α}(h:bj 0 l=b++z::a):z.1=b.length/\l[b.length]?=ai z.2:=by grind[lu]
def xy(f:α->az):∀(n:ag) (l:af α),qy n (l.map f)=(bj n l).map λp=>az.f [.a (p.1:Nat),f p.2]
 |_,[]=>aa|n,a::l=>by show az.f [.a n,f a]::qy (n+1) (l.map f)=_;rw[xy f (n+1) l];rfl
def pJ(h:aA X e (lV F0 H0 ρ ds))(q:ds=ds'):aA X e (lV F0 H0 ρ ds'):=q▸h
section
variable{K:aZ}
def n4(a:bH)(f:af az)(d:az):Prop:=∃e:bB,f=[cv a e]/\(∃N,gT N e)/\d=cE (en e)
def ae7:bW ["edge"] ["edge"] (bf<|aK 27):={}
def FI(J:cq K c a):cI P w K c b 43 "lets_through" (n4 a):=by refine cW J.l ae7 λl k j d i f=>?_;obtain⟨e,rfl,⟨N,h⟩,rfl⟩:=f;exact aX<|bb<|aY (FG J) #[bc 3 J.T.b (0),bc 5 J.T.b (0)] ((e.g,e.o),aa,h.d,h.m,eD h.i.1 h.p.1 ⋯,eD h.i.2 h.p.2 ⋯,aa)
def p6(a:bH)(f:af az)(d:az):Prop:=∃e:bB,f=[cv a e]/\d=.g (aT<|e.o.1=0)
def ae6:bW ["edge"] ["edge"] (bf<|aK 28):={}
def FK(J:cq K c a):cI P w K c b 40 "is_shut" (p6 a):=by refine cW J.a8 ae6 λj i h d g f=>?_;obtain⟨e,rfl,rfl⟩:=f;exact aX<|bb<|We (gb (bc 5 J.T.b (0)) aF di) aF
def R3(a:bH)(e:af az)(d:az):Prop:=∃n:aR,e=[bp a n]/\bw n/\d=bX a (gG<|n.a.map (·.h))
def Kb:bW ["network","edge"] ["network"] (bf<|aK 35):={}
def Kq(h:bw n):oR 1300 (n.a.map (·.h)):=by refine(by rw[cb];have:=h.c;lia,⋯,λq a=>?_,λq a=>?_,λq a=>?_);obtain⟨e,d,rfl⟩:=cJ.mp a;exact(h.a e d).j;obtain⟨e,d,rfl⟩:=cJ.mp a;exact(h.a e d).k.1;obtain⟨e,d,rfl⟩:=cJ.mp a;exact(h.a e d).k.2
def Le(J:cq K c a):cI P w K c b 43 "heads_of" (R3 a):=by refine cW J.b3 Kb λm l k d j i=>?_;obtain⟨n,rfl,g,rfl⟩:=i;refine aX<|bb<|aY (FH J) #[dY (bJ<|km n.a (cv a) (λ_=>ao) (λe=>cE e.h) (λe=>[.a<|bp a n,.a<|cv a e]) (own:=[("edge",1)]) (gm<|bc 1 J.T.c (0)) (gP (N:=["network","edge"]) (sc:=bf<|aK 35) ⋯) ⋯ (λ_ _ _ _ _ _ _ z f=>(e_ 1 Kb.a)) (λ_ _ _ _ _ _ _ z f=>ji) (λ_ _ _ _ _ _ _ z f _=>(bc 4 J.T.b (1))) ?_ aa Kb.a) ?_] (n.a.map (·.h),aa,(1300,Kq g),aa);have:=g.c;lia;rw[jM,eS];rfl
def T4(ds:af az)(d:az):Prop:=∃p:af ah×af ag,ds=[aM p.1,.d<|p.2.map λk=>az.a (k:ag)]/\p.1≠[]/\p.2.length<=100/\(∀k∈p.2,k<p.1.length)/\d=aM (p.2.map (p.1.getD · 0)++[p.1.getLastD 0])
def Kc:bW ["row","places","place"] ["row","places"] (bf<|aK 31):={}
def js{a:af ah}(h:k<a.length):fZ (a.map az.a) ((k:ag):ah)=ai (.a<|a.getD k 0):=by simp[*,gQ]
def p9(J:cq K c a):cI P w K c b 40 "chosen_from" T4:=by refine cW J.j Kc λo n m d l h=>?_;obtain⟨⟨p,e⟩,rfl,j,g,i,rfl⟩:=h;have g:e.length<=100:=g;refine fB (aX<|bb<|bJ<|jl (bJ<|km e (λk=>az.a k) (λ_=>ao) (λk=>.a<|p.getD k 0) (λk=>[.a<|aM p,.a<|.d<|e.map λk=>az.a (k:ag),.a<|.a k]) (own:=[("place",2)]) (gm (1)) (gP (N:=["row","places","place"]) (sc:=bf<|aK 31) ⋯) ⋯ (λ_ _ _ _ _ _ _ z f=>(e_ 2 Kc.a)) (λ_ _ _ _ _ _ _ z f=>ji) (λ_ _ _ _ _ _ _ z f _=>(bt (0) (2)<|js<|i z f)) ?_ aa Kc.a) (bJ<|cQ #[bt (0) (tW aF)<|Md<|UE j]) ?_) ?_;lia;left;(simp[jM])
def nB(rows:af (af ah))(i j:ag)(g:ah->ah):af (af ah):=rows.set i<|(rows.getD i []).set j<|g<|(rows.getD i []).getD j 0
structure gI(n m:ag)(rows:af (af ah)):Prop where
 a1:rows.length=n
 a2:∀r∈rows,r.length=m
def gI.at(h:gI n m rows)(g:i<n)(f:j<m):rows[i]?=ai (rows.getD i [])/\(rows.getD i [])[j]?=ai ((rows.getD i []).getD j 0):=by
 have d:i<rows.length:=by rwa[h.a1]
 have e:=h.a2 _<|ph d;nofun
def gI.a0(h:gI n m rows)(k:i<n)(g:ah->ah):gI n m (nB rows i j g):=by
 refine(by unfold nB;rw[j'];exact h.a1,λr d=>?_);rcases Az d with d|d;exact h.a2 r d;subst d;rw[j'];have f:i<rows.length:=by rwa[h.a1]
 have e:rows.getD i []=rows[i]:=∅;rw[e];exact h.a2 _<|ph f
def yO(n:ag)(s:gI N M rows)(i:ki<N)(h:kj<M)(l:ρ[n]?=ai (.e<|.c ar))(t:tD X op (wG g))(q:∀f d,aA X ei<|aP f d ρ<|.a (ki:ag))(o:∀f d,aA X ej<|aP f d ρ<|.a (kj:ag))(u:∀f d,aA X e<|aP f d ρ<|.a j)
  (hN:X.N[n]?=ai x|>1)(m:eF X.a0.scope x|>3)(y:dA x|>2)(r:fP x|>2)
  (hs:qe ei|>4)(ha:(∀ov k new,Ai ej ov k new=(do jW [new,ov,k] (qT ov k new);s_ [new,ov,k] [];cA .next))|>4):
  cH X (.AugAssign (.Subscript (.Subscript (.Name x p) ei p2) ej tpos) op e pos) (cN (ju f d ar bs rows) ρ (ju f d ar bs<|nB rows ki kj λv=>g v j)<|.a ρ):=
 adE n l t q o u (s.at i h).1 (s.at i h).2 hN m y r hs ha
def xF(size:ag)(d:af (af ah))(e:bB)(w p:ah):af (af ah):=nB (nB (nB (nB (nB (nB d e.b e.b (· +w)) e.b e.a (· - w)) e.b size (· - p)) e.a e.a (· +w)) e.a e.b (· - w)) e.a size (· +p)
def t_(n:aR)(e f:af ah)(l:af (ag×bB)):af (af ah):=l.foldl (λd q=>xF n.b.length d q.2 (e.getD q.1 0)<|e.getD q.1 0*f.getD q.1 0)<|cg n.b.length<|cg (n.b.length+1) 0
def O4(a:bH)(e:af az)(d:az):Prop:=∃p:aR×bF×bF,e=[bp a p.1,bX a p.2.1,bX a p.2.2]/\bw p.1/\p.2.1.a.length=p.1.a.length/\p.2.2.a.length=p.1.a.length/\(∀k,k<p.1.a.length->oZ (p.2.1.a.getD k 0) (p.2.2.a.getD k 0))/\ d=.d ((t_ p.1 p.2.1.a p.2.2.a<|bj 0 p.1.a).map aM)
def w_:bW ["network","through","heads","size","rows","junction","number","edge","weight","push"] ["network","through","heads"] (bf<|aK 30):={}
def Wx(n:aR)(m:bw n)(f i:af ah):∀(l:af (ag×bB)),(∀q∈l,q.2∈n.a)->gI n.b.length (n.b.length+1) (t_ n f i l):=by
 have g:∀(l:af (ag×bB)) (d:af (af ah)),(∀q∈l,q.2∈n.a)->gI n.b.length (n.b.length+1) d->gI n.b.length (n.b.length+1) (l.foldl (λd q=>xF n.b.length d q.2 (f.getD q.1 0)<|f.getD q.1 0*i.getD q.1 0) d):=by
  intro l;induction l with|nil=>intro d _ h;exact h|cons q l k=>intro d a h;have e:=m.a q.2<|a q (_);exact k _ (λj p=>a j<|cO _ p)<|(((((h.a0 e.b _).a0 e.b _).a0 e.b _).a0 e.a _).a0 e.a _).a0 e.a _
 intro l o;refine g l _ o ((),λr s=>?_);nofun
def vu(n:ag)(z:ah):cg n (az.a z)=(cg n z).map az.a:=()
def n9(J:cq K c a):cI P w K c b 40 "balances" (O4 a):=by
 refine cW J.k w_ λm l Y d X W=>?_;obtain⟨⟨n,wr,f⟩,rfl,s,u,U,S,rfl⟩:=W;have s:bw n:=s;have u:wr.a.length=n.a.length:=u;have R:=s.d;refine aL (cB 3 (dO J.T.e<|bc 0 J.T.c (0)) w_.a)<|Ju (λ_ _ h=>h) ?_;rw[cb];refine Rc 4 (bP n.b.length) (λk=>az.a k) (cg (n.b.length+1) 0) (λk=>[.a<|bp a n,.a<|bX a wr,.a<|bX a f,.a<|.a n.b.length,.b,.a<|.a k,.b,.b,.b,.b]) (own:=[("junction",5)]) (λm l=>zo J.T.o (3) !_) (gP (N:=["network","through","heads","size","rows","junction","number","edge","weight","push"]) (sc:=bf<|aK 30) ⋯) ⋯ (λ_ _ _ _ _ _ _ z p=>(e_ 5 w_.a)) (λ_ _ _ _ _ _ _ z p=>?_) (by left) aa w_.a<|λA bs=>?_;exact pJ (tQ (bJ<|cQ #[aF]) (dY (kx (3) aF) aa) !_)<|vu _ _;rw[uH];refine fu (Js (bj 0 n.a) (λq=>az.f [.a q.1,cv a q.2]) (λ_=>[.a<|bp a n,.a<|bX a wr,.a<|bX a f,.a<|.a n.b.length,.e<|.c A,.b,.b,.b,.b,.b]) (λD=>ju m l A bs<|t_ n wr.a f.a D) (λD=>ju.a0) (λD q=>[.a<|bp a n,.a<|bX a wr,.a<|bX a f,.a<|.a n.b.length,.e<|.c A,.b,.a<|.a q.1,.a<|cv a q.2,.b,.b]) (λm l=>jm (FD J.T.p<|bc 1 J.T.c (0))<|xy _ 0 _) (λm l D z o p=>mf 6 7 aa w_.a) (λD q o p=>?_) aa fT)<|ni<|Ra 4 aa;obtain⟨Q,v⟩:=LD p;have V:q.1<n.a.length:=(by left);have t:=eC v;have i:=s.a q.2 t;have r:∀L∈D,L.2∈n.a:=λL x=>by obtain⟨j,M,rfl⟩:=iC x;have:=lu (by rw[p,yr M];exact cK M);exact eC this.2
 have I:=Wx n s wr.a f.a D r;have G:=I.a0 (j:=q.2.b) i.b (· +wr.a.getD q.1 0);have E:=G.a0 (j:=q.2.a) i.b (· - wr.a.getD q.1 0);have C:=E.a0 (j:=n.b.length) i.b (· - wr.a.getD q.1 0*f.a.getD q.1 0);have B:=C.a0 (j:=q.2.a) i.a (· +wr.a.getD q.1 0);have O:=B.a0 (j:=q.2.b) i.a (· - wr.a.getD q.1 0);have y:=i.b;have g:=i.a;refine Ex (Bd (fu (yN ju.a0 λm l=>cB 8 (bt (cC 0 J.T.d (1)) (6)<|js ∅) w_.a)<|fu (yN ju.a0 λm l=>cB 9 (fR (8) (bt (cC 0 J.T.d (2)) (6)<|js ∅)<|S q.1 V) w_.a)<|fu (yO 4 I y (_) aa uU (λ_ _=>bc 1 J.T.b (7)) (λ_ _=>bc 1 J.T.b (7))<|λ_ _=>(8))<|fu (yO 4 G y (_) aa AR (λ_ _=>bc 1 J.T.b (7)) (λ_ _=>bc 2 J.T.b (7))<|λ_ _=>(8))<|fu (yO 4 E y (_) aa AR (λ_ _=>bc 1 J.T.b (7)) (λ_ _=>(3))<|λ_ _=>(9))<|fu (yO 4 C g (_) aa uU (λ_ _=>bc 2 J.T.b (7)) (λ_ _=>bc 2 J.T.b (7))<|λ_ _=>(8))<|fu (yO 4 B g (_) aa AR (λ_ _=>bc 2 J.T.b (7)) (λ_ _=>bc 1 J.T.b (7))<|λ_ _=>(8))<|fu (yO (kj:=n.b.length) 4 O g (_) aa uU (λ_ _=>bc 2 J.T.b (7)) (λ_ _=>(3))<|λ_ _=>(9)) ou)<|λF H z=>?_)<|.a0<|.a0<|.a0<|.a0<|.a0<|.no<|.no<|.no<|.no<|.no .a2;have e:t_ n wr.a f.a (D++[q])=xF n.b.length (t_ n wr.a f.a D) q.2 (wr.a.getD q.1 0) (wr.a.getD q.1 0*f.a.getD q.1 0):=by simp[t_]
 rwa[e]
end
section
variable{X:bA}{g m:ay}{w:af bL}{e:bI}{c p f d:dj}
def j8:nh X (.type "range") (λa H Q=>∃j,a=[.d j]/\∀p,H p=aq->Q (.c p) (bu H p<|.k 0 j)):=by intro i s k H a l Q I r h;obtain⟨j,rfl,q⟩:=h;obtain⟨u,rfl,n⟩:=wC r;obtain⟨t,rfl⟩:=n;refine YC (.c s.heap.objs.size,_,I.b5 (λb o e=>gN _ e) (b_ _) ?_,aa,q _<|I.a1.a0<|b_ _);exact(_,_,_,jb _ aa)
def mo:∀{n:ag} {l:af aB},l.length=n->(∀(j:ag) v,l[j]?=ai v->∃t,v=wu ((0:ah)+(j:ag)*1) t)->dh ((bP n).map λi=>aH.d (i:ag)) l:=by
 intro n;induction n with|zero=>intro l o _;have:l=[]:=ZZ.mp o;subst this;exact .nil|succ n q=>
  intro l o h;obtain⟨k,x,rfl⟩:∃k x,l=k++[x]:=by have a:l≠[]:=();exact(l.dropLast,l.getLast a,(List.dropLast_concat_getLast a).symm)
  have b:k.length=n:=∅;rw[uG,eV];refine dh.a2 (q b λj v s=>h j v ?_)<|.cons ?_ .nil;left;obtain⟨t,r⟩:=h n x (by rw[OB ∅];nofun);exact(t,by rw[r];congr 1;simp)
def j6(hc:X.a9=ao):nh X (.type "list") (λo H Q=>∃p,∃n:ag,o=[.c p]/\H p=ai (.k 0 n)/\n<=1000000/\∀l,H l=aq->Q (.c l) (bu H l<|.a<|(bP n).map λi=>aH.d (i:ag))):=by
 intro x s D H o E Q I r h;obtain⟨p,n,rfl,A,y,q⟩:=h;obtain⟨u,rfl,K⟩:=wC r;cases K;obtain⟨t,u,v,e⟩:∃t u v,s.heap.get? p=ai {cls:=.type "range",data:=.fields<|List.toArray [.int 0 t,.int n u,.int 1 v]}:=I.a1 p _ A;have k:Ar 0 n 1=n:=by rw[Yu];split<;>nofun
 refine call_list_range (I.ok.hd hc) e (small_one (_) ∅ (_) !_) k (fx y ⋯) λJ F b C z B a=>?_;refine(.c s.heap.objs.size,_,I.b5 z (b_ _) ?_,aa,q _<|I.a1.a0<|b_ _);refine(by simp;exact fx y ⋯,b.toList,C,mo (by simpa using a.1)<|λj v G=>a.2 j v ∅,by simpa using B)
def Cl{n:ag}(G:X.a9=ao)(C:X.mg "list"=aq)(o:X.mg "range"=aq)(h:aA X e (aP g m w<|.a n))(B:n<=1000000)(E:dn X "list"|>1)(r:dn X "range"|>1)(t:eI X e []|>1)(j:eG X d []|>1)
  (he2:dC [.Call (.Name "range" f) [e] [] d] X.a0=(aw,bN (.Call (.Name "range" f) [e] [] d) X.a0)::dC [] X.a0|>1)(b:eG X c []|>1):
  aA X (.Call (.Name "list" p) [.Call (.Name "range" f) [e] [] d] [] c) (lV g m w<|(bP n).map λi=>az.a (i:ag)):=
 eL (DY (j6 G) E C Wv (kZ (DY j8 r o Ob (au h aD t) ⋯ ⋯ t j) pq he2) ⋯ ⋯ he2 b) λK H Q (F,A,k)=>(F,A,λL I M u J y=>by
  obtain⟨v,rfl,x⟩:=kN y;cases x;refine(n,aa,λq D=>(q,n,aa,bO,B,?_));refine xg u (J.b8 D) ?_ k;have s:∀l:af ag,cx I (l.map λi=>aH.d (i:ag))<|l.map λi=>az.a (i:ag):=by
   intro l;induction l with|nil=>exact .a2|cons a l z=>exact .a0 (.a1 _) z
  exact s _)
end
def kq(l:af ag)(e:bB):af ag:=(l.set e.b<|pb (l.getD e.b 0)<|l.getD e.a 0).set e.a<|pb (l.getD e.b 0)<|l.getD e.a 0
def xm(n:aR):af bB:=n.a.filter λe=> !aT (e.o.1=0)
def kP(n:aR):ag->af ag
 |0=>bP n.b.length|k+1=>(xm n).foldl kq<|kP n k
def iV(n:aR):af ag:=kP n n.b.length
abbrev cR(l:af ag):az:=.d<|l.map λk=>az.a (k:ag)
def Os(l:af ag)(e:bB):(kq l e).length=l.length:=by unfold kq;grind
def Lo:∀(a:af bB) (l:af ag),(a.foldl kq l).length=l.length
 |[],_=>aa|e::a,l=>by rw[fO,Lo a,Os]
def vx(n:aR):∀k,(kP n k).length=n.b.length
 |0=>by simp[kP]|k+1=>by rw[kP,Lo,vx n k]
section
variable{K:aZ}
def P3(a:bH)(e:af az)(d:az):Prop:=∃n:aR,e=[bp a n]/\bw n/\d=cR (iV n)
def xa:bW ["network","least","links","edge","start","lower"] ["network"] (bf<|aK 29):={}
def WC{l:af ag}(h:k<l.length):fZ (l.map λk=>az.a (k:ag)) ((k:ag):ah)=ai (.a (l.getD k 0:ag)):=by simp[*,gQ]
def vy(h:k<n):lP n ((k:ag):ah)=ai k:=by simp[*,lP]
def Vi(J:cq K c a):cI P w K c b 41 "least_of_groups" (P3 a):=by
 refine cW J.a5 xa λE C B d v t=>?_;obtain⟨n,rfl,m,rfl⟩:=t;have r:=m.d;have s:=m.c;have g:∀e∈xm n,gT n.b.length e:=λe j=>m.a e (tr.mp j).1;refine aL (ia 1 (Cl aa J.T.j J.T.o (dY (dO J.T.e<|bc 0 J.T.c (0)) ()) !_) xa.a)
  (aL (Bt n.a (cv a) (λe=> !aT (e.o.1=0)) (cv a) (λe=>[.a<|bp a n,.b,.b,.a<|cv a e,.b,.b]) (own:=[("edge",3)]) (gm<|bc 1 J.T.c (0)) (gP (N:=["network","least","links","edge","start","lower"]) (sc:=bf<|aK 29) ⋯) ⋯ (λ_ _ _ _ _ _ _ z i=>(e_ 3 xa.a)) (λ_ _ _ _ _ _ _ z i=>(DT<|ef<|d_<|aY (FK J) #[(3)] (z,aa,aa))) (λ_ _ _ _ _ _ _ z i _=>(3)) (by lia) aa xa.a 2)
  (aL (jh (bP n.b.length) (λk=>az.a k) (λo=>[.a<|bp a n,.c<|(kP n o.length).map λk=>az.a (k:ag),.a<|.d<|(xm n).map<|cv a,.b,.b,.b]) (λo z=>[.a<|bp a n,.c<|(kP n o.length).map λk=>az.a (k:ag),.a<|.d<|(xm n).map<|cv a,.b,.a<|.a z,.b]) (zo J.T.o (dY (dO J.T.e<|bc 0 J.T.c (0)) ()) (by left)) (λo z h i=>(e_ 4 xa.a)) (λo z h i=>fj (aL (jh (xm n) (cv a) (λf=>[.a<|bp a n,.c<|(f.foldl kq<|kP n o.length).map λk=>az.a (k:ag),.a<|.d<|(xm n).map<|cv a,.b,.a<|.a z,.b]) (λf e=>[.a<|bp a n,.c<|(f.foldl kq<|kP n o.length).map λk=>az.a (k:ag),.a<|.d<|(xm n).map<|cv a,.a<|cv a e,.a<|.a z,.b]) (gm (2)) (λo z h i=>(e_ 3 xa.a)) (λf e l q=>?_) aa fT) bV) ?_) aa fT)
  (iI 1 aa<|aX<|bb<|dY (1) ?_)))
 have j:=g e ∅;have x:(f.foldl kq<|kP n o.length).length=n.b.length:=by rw[Lo,vx]
 have A:=j.b;have y:=j.a;refine fj (aL (cB 5 (L8 aa J.T.G (nJ 1 aa (bc 1 J.T.b (3))<|WC ∅)<|nJ 1 aa (bc 2 J.T.b (3))<|WC ∅) xa.a)<|aL (vk 1 aa (5) (bc 1 J.T.b (3))<|vy ∅)<|aL (vk 1 aa (5) (bc 2 J.T.b (3))<|vy ∅) bV) ?_;have p:(f++[e]).foldl kq (kP n o.length)=kq (f.foldl kq<|kP n o.length) e:=();rw[p];have u:((kq (f.foldl kq<|kP n o.length) e).map λk=>az.a (k:ag))=((((f.foldl kq<|kP n o.length).map λk=>az.a (k:ag)).set e.b<|.a<|pb ((f.foldl kq<|kP n o.length).getD e.b 0:ah) ((f.foldl kq<|kP n o.length).getD e.a 0:ah)).set e.a<|.a<|pb ((f.foldl kq<|kP n o.length).getD e.b 0:ah) ((f.foldl kq<|kP n o.length).getD e.a 0:ah)):=by grind[kq,n_]
 rw[u];exact .a0<|.a0<|.a0<|.no<|.a0<|.no .a2;have p:(o++[z]).length=o.length+1:=();rw[p];exact .a0<|.a0<|.a0<|.a0<|.no<|.a0 .a2;rw[uH];rfl
end
def gk(n:aR):bF:=rm<|n.a.map en
def lh(n:aR)(a:bF):af (af ah):=t_ n (gk n).a a.a<|bj 0 n.a
def cz(n:aR):af ag:=((bj 0<|iV n).filter λq=> !aT ((q.1:Int)=(q.2:Int))).map (·.1)
def zy(ks:af ag)(a:af ah):af ah:=ks.map (a.getD · 0)++[a.getLastD 0]
def rA(n:aR)(a:bF):af (af ah):=(cz n).map λj=>zy (cz n)<|(lh n a).getD j []
def tK(N:ag)(b:af ag)(a:af ah):af ah:=(b.zip a).foldl (λt q=>t.set q.1 q.2)<|cg N 0
def lX(n:aR)(a:bF):bF:=(pE (rA n a) (gk n).b).getD ([],1)
def dJ(n:aR)(a:bF):bF:=(tK n.b.length (cz n) (lX n a).a,(lX n a).b)
structure vI(n:aR)(hs:bF):Prop where
 b:hs.a.length=n.a.length
 a:0<hs.b
 d:aI 1300 hs.b
 c:∀t∈hs.a,aI 2600 t
structure WR(n:aR)(hs:bF):Prop where
 a:∃m,2^(rA n hs).length*(m+1)<=10000000/\mK m (rA n hs) (gk n).b/\aI m (gk n).b
 b:pE (rA n hs) (gk n).b=ai (lX n hs)
def oJ(h:0<b):(bh<|aQ a b).1.natAbs<=a.natAbs/\(bh<|aQ a b).2.natAbs<=b.natAbs/\0<(bh<|aQ a b).2:=by rw[xp h];have d:=wO a b;have c:=QP a b;simp_all[Int.natAbs_ediv_of_dvd,Nat.div_le_self,Jj]
def za(h:bw n):oR 1320 (n.a.map en):=by
 refine(by rw[cb];have:=h.c;grind,⋯,λq f=>?_,λq f=>?_,λq f=>?_);all_goals
  obtain⟨e,d,rfl⟩:=cJ.mp f;have b:=h.a e d;have c:=oJ (a:=e.g.1*e.o.1)<|fQ b.d b.m
 ·exact c.2.2
 ·exact jg c.1<|(b.i.1.a1 b.p.1).a0 ⋯
 ·exact jg c.2.1<|(b.i.2.a1 b.p.2).a0 ⋯
def JD(n:aR):(gk n).a.length=n.a.length:=by unfold gk rm;simp
def EE(h:bw n):0<(gk n).b/\aI 18481 (gk n).b/\∀t∈(gk n).a,aI 19801 t:=by have a:=za h;have c:=BI (b:=1) (m:=1) a.a0 a.a3 ⋯ aI.a2;have d:aI 18481 (gk n).b:=c.2.a0 (by rw[cb];have:=p_ 1320 h.c;lia);refine(c.1,d,λt e=>?_);obtain⟨q,f,rfl⟩:=cJ.mp e;exact((a.a4 q f).a1<|d.a3<|a.a0 q f).a0 ⋯
def jo{l:af α}{d:α}(h:k<l.length):l.getD k d∈l:=∅
def vC(h:k∈cz n):k<n.b.length:=by obtain⟨q,b,rfl⟩:=cJ.mp h;obtain⟨j,a,e⟩:=iC (tr.mp b).1;have:=lu (p:=q) (by rw[<-e];exact cK a);grind?[iV,vx]
def Vw(n:aR):(cz n).length<=n.b.length:=by unfold cz;rw[cb];refine fx (Oy _ _) ?_;rw[nI,iV,vx];exact b_ _
def SJ(h:bw n)(a:bF):gI n.b.length (n.b.length+1) (lh n a):=Wx n h _ _ _ λq c=>by obtain⟨j,b,e⟩:=iC c;have:=lu (p:=q) (by rw[<-e];exact cK b);exact eC this.2
def Sd:∀(l:af (ag×ah)) (t:af ah),(l.foldl (λt q=>t.set q.1 q.2) t).length=t.length
 |[],_=>aa|q::l,t=>by rw[fO,Sd l,j']
def zf(N:ag)(b:af ag)(a:af ah):(tK N b a).length=N:=by
 unfold tK;have d:∀(l:af (ag×ah)) (t:af ah),(l.foldl (λt q=>t.set q.1 q.2) t).length=t.length:=by
  intro l;induction l with|nil=>intro t;rfl|cons q l c=>intro t;rw[fO,c,j']
 nofun
section
variable{K:aZ}
def k7(a:bH)(e:af az)(d:az):Prop:=∃p:aR×bF,e=[bp a p.1,bX a p.2]/\bw p.1/\vI p.1 p.2/\WR p.1 p.2/\d=bX a (dJ p.1 p.2)
def pG:bW ["network","heads","through","edge","rows","free","junction","least","found","tops","top"] ["network","heads"] (bf<|aK 32):={}
def Vd(J:cq K c a):cI P w K c b 44 "pressures_not_shortened" (k7 a):=by
 refine cW (k:=43) J.c3 pG λI H G d F E=>?_;obtain⟨⟨n,f⟩,rfl,i,x,m,rfl⟩:=E;have i:bw n:=i;have y:=i.d;have A:=i.c;have s:=EE i;have o:=SJ i f;have p:∀j∈cz n,((lh n f).getD j []).length=n.b.length+1:=λj B=>o.a2 _<|jo (by rw[o.a1];exact vC B);have C:=Vw n;refine aL (cB 2 (aY (Vb J) #[dY (bJ<|km n.a (cv a) (λ_=>ao) (λe=>cE<|en e) (λe=>[.a<|bp a n,.a<|bX a f,.b,.a<|cv a e,.b,.b,.b,.b,.b,.b,.b]) (own:=[("edge",3)]) (gm<|bc 1 J.T.c (0)) (gP (N:=["network","heads","through","edge","rows","free","junction","least","found","tops","top"]) (sc:=bf<|aK 32) ⋯) ⋯ (λ_ _ _ _ _ _ _ z h=>(e_ 3 pG.a)) (λ_ _ _ _ _ _ _ z h=>ji) (λ_ _ _ _ _ _ _ z h _=>(aY (FI J) #[(3)] (z,aa,(_,i.a z h),aa))) (by left) aa pG.a) (by rw[jM];exact fk az.d (eS (g:=cE)).symm)] (n.a.map en,aa,(1320,za i),aa)) pG.a)
  (aL (cB 4 (aY (n9 J) #[(0),(2),(1)] ((n,gk n,f),aa,i,JD n,x.b,λk r=>?_,aa)) pG.a)
  (aL (cB 5 (dY (bJ<|km (bj 0<|iV n) (λq=>az.f [.a (q.1:ag),.a (q.2:ag)]) (λq=> !aT ((q.1:ah)=(q.2:ah))) (λq=>.a (q.1:ag)) (λq=>[.a<|bp a n,.a<|bX a f,.a<|bX a<|gk n,.b,.a<|.d<|(lh n f).map aM,.b,.a<|.a (q.1:ag),.a<|.a (q.2:ag),.b,.b,.b]) (own:=[("junction",6),("least",7)]) (jm (FD J.T.p<|aY (Vi J) #[(0)] (n,aa,i,aa))<|xy _ 0 _) (gP (N:=["network","heads","through","edge","rows","free","junction","least","found","tops","top"]) (sc:=bf<|aK 32) ⋯) ⋯ (λ_ _ _ _ _ _ _ z h=>(mf 6 7 aa pG.a)) (λ_ _ _ _ _ _ _ z h=>(DT<|iH (6) (7))) (λ_ _ _ _ _ _ _ z h _=>(6)) (by rw[nI,iV,vx];lia) aa pG.a) (by unfold cz cR;rw[eS];rfl)) pG.a)
  (aL (cB 8 (dY (aY (U_ J) #[dY (bJ<|km (cz n) (λk=>az.a (k:ag)) (λ_=>ao) (λj=>aM<|zy (cz n)<|(lh n f).getD j []) (λj=>[.a<|bp a n,.a<|bX a f,.a<|bX a<|gk n,.b,.a<|.d<|(lh n f).map aM,.a<|cR<|cz n,.a<|.a (j:ag),.b,.b,.b,.b]) (own:=[("junction",6)]) (gm (5)) (gP (N:=["network","heads","through","edge","rows","free","junction","least","found","tops","top"]) (sc:=bf<|aK 32) ⋯) ⋯ (λ_ _ _ _ _ _ _ z h=>(e_ 6 pG.a)) (λ_ _ _ _ _ _ _ z h=>ji) (λ_ _ _ _ _ _ _ z h _=>(aY (p9 J) #[bt (4) (6) ?_,(5)] (((lh n f).getD z [],cz n),aa,?_,by show(cz n).length<=100;lia,?_,aa))) (by lia) aa pG.a) (by rw[jM];exact fk az.d (eS (g:=aM)).symm),cC 1 J.T.d (2)] ((rA n f,(gk n).b),aa,by unfold rA;rw[cb];lia,m.a,aa)) (by rw[m.b])) pG.a)
  (aL (ia 9 (pJ (tQ (bJ<|cQ #[aF]) (dY (dO J.T.e<|bc 0 J.T.c (0)) ()) ())<|vu _ _) pG.a)
  (aL (jh ((cz n).zip (lX n f).a) (λq=>az.f [.a (q.1:ag),.a q.2]) (λD=>[.a<|bp a n,.a<|bX a f,.a<|bX a<|gk n,.b,.a<|.d<|(lh n f).map aM,.a<|cR<|cz n,.b,.b,.a<|bX a<|lX n f,.c<|(D.foldl (λt q=>t.set q.1 q.2)<|cg n.b.length 0).map az.a,.b]) (λD q=>[.a<|bp a n,.a<|bX a f,.a<|bX a<|gk n,.b,.a<|.d<|(lh n f).map aM,.a<|cR<|cz n,.a<|.a (q.1:ag),.b,.a<|bX a<|lX n f,.c<|(D.foldl (λt q=>t.set q.1 q.2)<|cg n.b.length 0).map az.a,.a<|.a q.2]) (jm (rr J.T.h (5)<|cC 0 J.T.d (8))<|qj _ _ _ _) (λD z l h=>(mf 6 10 aa pG.a)) (λD z l h=>fj (aL (vk 9 aa (10) (6)<|vy ?_) bV) ?_) aa fT)
  (iI 9 aa<|aX<|bb<|rC (vw J) #[(9),cC 1 J.T.d (8)] (aa,aa)))))))
 have v:k<(gk n).a.length:=by rw[JD];exact r
 have u:k<f.a.length:=by rw[x.b];exact r
 exact eD (s.2.2 _<|jo v) (x.c _<|jo u) ⋯;grind?[lh,gQ];grind;intro k r;rw[p z h];have:=vC r;symm;rw[cb];rw[Sd,ZY];exact vC (gd (show (Prod.mk z.1 z.2)∈(cz n).zip (lX n f).a by rw[h];simp)).1;rw[rV];show jQ _ [_,_,_,_,_,_,_,_,_,.c<|((D.foldl (λt q=>t.set q.1 q.2)<|cg n.b.length 0).set z.1 z.2).map az.a,_];rw[n_];exact .a0<|.a0<|.a0<|.a0<|.a0<|.a0<|.no<|.a0<|.a0<|.a0<|.no .a2
end
section
variable{X:bA}{c d:ay}{f:af bL}{e h a b:bI}{g p i j:dj}{K:aZ}{F H:ay}
def LQ:∀(l:af ah),tE K H (l.map aH.d)<|l.map kF
 |[]=>.b|z::l=>.a (.a4 z)<|LQ l
def F_:∀(l m:af ah),Dn (l.map kF) (m.map kF)=aT (l=m)
 |[],[]=>aa|[],_::_=>aa|_::_,[]=>aa|a::l,b::m=>by show(YS (.int a) (.int b)&&Dn (l.map kF) (m.map kF))=_;rw[F_ l m];show((a==b)&&aT (l=m))=_;rw[xM];simp
def Gr:∀(l:af ah),rS (l.map kF)=ao
 |[]=>aa|_::l=>Gr l
def Gq:∀(l:af ah),lJ (l.map kF)=0
 |[]=>aa|_::l=>by show mX 0 (lJ<|l.map kF)=0;rw[Gq l];rfl
def Sa(l:af ah):Am (.list<|l.map kF)=ao:=by unfold Am;rw[qH,CB];exact(Gr l,by show lJ (l.map kF)+1<=64;rw[Gq];decide)
def R_(l:af ah):Am (.tuple<|l.map kF)=ao:=by unfold Am;rw[qH,CB];exact(Gr l,by show lJ (l.map kF)+1<=64;rw[Gq];decide)
def SR(s:bD F H)(r:bY F v (aM l)):mz K H v (.list<|l.map kF):=by
 cases r using W2 with|a0 e r=>have:=r.a7;subst this;exact .a1 (dX.of<|s _ _ e)<|LQ l
def SQ{l:af ah}(s:bD F H)(r:bY F v (.f<|l.map az.a)):mz K H v (.tuple<|l.map kF):=by
 cases r using W3 with|a3 e r=>have:=r.a7;subst this;exact .a3 (iS.of<|s _ _ e)<|LQ l
def PI:∀(F H:ay) (n k:aH) (Q:dw),bD F H->bY F n (aM l)->bY F k (aM m)->Q (.e<|aT<|l=m) H->Ir K n k H Q:=λF H n k Q s r o q=> (_,_,SR s r,SR s o,Sa l,Sa m,by show Q (.e<|Dn (l.map kF)<|m.map kF) H;rw[F_];exact q)
def OJ{l m:af ah}:∀(F H:ay) (n k:aH) (Q:dw),bD F H->bY F n (.f<|l.map az.a)->bY F k (.f<|m.map az.a)->Q (.e<|aT<|l=m) H->Ir K n k H Q:=λF H n k Q s r o q=> (_,_,SQ s r,SQ s o,R_ l,R_ m,by show Q (.e<|Dn (l.map kF)<|m.map kF) H;rw[F_];exact q)
def ad3(ha:aA X a (aP c d f<|aM l))(n:aA X b (aP c d f<|aM m))(k:dy 1 X.A|>3):cP X (.Compare a [.Eq] [b] g) (eg c d f<|aT<|l=m):=rk (Pz k.a0) ha n PI
def E8(ha:aA X a (aP c d f<|cE q))(n:aA X b (aP c d f<|cE r))(k:dy 1 X.A|>3):aA X (.Compare a [.Eq] [b] g) (aP c d f<|.g<|aT<|q=r):=by have e:aT (q=r)=aT ([q.1,q.2]=[r.1,r.2]):=();rw[e];exact Gm (Pz k.a0) ha n<|OJ (l:=[q.1,q.2]) (m:=[r.1,r.2])
end
structure WS(n:aR)(hs:bF):Prop where
 b:0<(lX n hs).b
 a:aI 20000 (lX n hs).b
 c:∀t∈(lX n hs).a,aI 24000 t
def ro(n:aR)(a:bF):bF:=qo (dJ n a).a<|(dJ n a).b*a.b
def tJ(p:bF)(e:bB)(h:ah):ah:=p.a.getD e.b 0- p.a.getD e.a 0+h*p.b
def xr(p:bF)(q:ah×bB):ah:=(en q.2).1*tJ p q.2 q.1/(en q.2).2
def oK(n:aR)(a:bF):af ah:=(a.a.zip n.a).map<|xr<|dJ n a
def hG(n:aR)(a:bF):bF:=qo (oK n a)<|(dJ n a).b*a.b
structure rH(n:aR)(hs:bF):Prop where
 c:bw n
 b:vI n hs
 d:WR n hs
 a:WS n hs
def KF(h:t∈tK N ks ts):t=0\/t∈ts:=by
 have a:∀(l:af (ag×ah)) (u:af ah),t∈l.foldl (λt q=>t.set q.1 q.2) u->t∈u\/∃q∈l,t=q.2:=by
  intro l;induction l with|nil=>intro u h;exact .inl h|cons q l b=>left
 rcases a _ _ h with h|⟨q,c,e⟩;nofun;exact .inr (by rw[e];exact(gd c).2)
def Kw(h:WS n hs):∀t∈(dJ n hs).a,aI 24000 t:=λt a=>by rcases KF a with rfl|a;exact yo _;exact h.c t a
section
variable{K:aZ}
def WW(a:bH)(g:aR->bF->bF)(e:af az)(d:az):Prop:=∃p:aR×bF,e=[bp a p.1,bX a p.2]/\rH p.1 p.2/\d=bX a (g p.1 p.2)
def Sl:bW ["network","heads","pressures"] ["network","heads"] (bf<|aK 33):={}
def E9(J:cq K c a):cI P w K c b 45 "pressures_by" (WW a ro):=by refine cW J.e5 Sl λk j i d h g=>?_;obtain⟨⟨n,f⟩,rfl,e,rfl⟩:=g;have e:rH n f:=e;refine aL (cB 2 (aY (Vd J) #[(0),(1)] ((n,f),aa,e.c,e.b,e.d,aa)) Sl.a)<|aX<|bb<|aY (Va J) #[cC 0 J.T.d (2),fR (cC 1 J.T.d (2)) (cC 1 J.T.d (1)) ?_] (((dJ n f).a,(dJ n f).b*f.b),aa,?_,?_,aa);exact eD e.a.a e.b.d ⋯;exact fQ e.a.b e.b.a;unfold dJ;rw[zf];have:=e.c.d;lia
def yU:bW ["network","heads","pressures","tops","head","edge","through","press"] ["network","heads"] (bf<|aK 34):={}
def Vl(J:cq K c a):cI P w K c b 45 "flows_by" (WW a hG):=by
 refine cW J.R yU λE C B d x v=>?_;obtain⟨⟨n,e⟩,rfl,f,rfl⟩:=v;have f:rH n e:=f;have t:(dJ n e).a.length=n.b.length:=zf _ _ _;have i:=Kw f.a;have u:=f.c.c;have r:(e.a.zip n.a).length<=14:=();refine fB (aL (cB 2 (aY (Vd J) #[(0),(1)] ((n,e),aa,f.c,f.b,f.d,aa)) yU.a)<|aL (ia 3 (cQ aD) yU.a)<|aL (jh (e.a.zip n.a) (λq=>az.f [.a q.1,cv a q.2]) (λD=>[.a<|bp a n,.a<|bX a e,.a<|bX a<|dJ n e,.c<|(D.map<|xr<|dJ n e).map az.a,.b,.b,.b,.b]) (λD q=>[.a<|bp a n,.a<|bX a e,.a<|bX a<|dJ n e,.c<|(D.map<|xr<|dJ n e).map az.a,.a<|.a q.1,.a<|cv a q.2,.b,.b]) (jm (rr J.T.h (cC 0 J.T.d (1))<|bc 1 J.T.c (0))<|qj _ _ _ _) (λD z g s=>(mf 4 5 aa yU.a)) (λD q g s=>?_) aa fT)<|iI 3 aa<|aX<|bb<|aY (Va J) #[(3),fR (cC 1 J.T.d (2)) (cC 1 J.T.d (1))<|eD f.a.a f.b.d ⋯] ((oK n e,(dJ n e).b*e.b),aa,fQ f.a.b f.b.a,?_,aa)) aa
 ·have F:q∈e.a.zip n.a:=∅;have m:=gd F;have o:=f.c.a q.2 m.2;have A:=o.b;have y:=o.a;have p:=(za f.c).a1<|AA m.2;have h:=f.b.c q.1 m.1;have l:aI 24000 ((dJ n e).a.getD q.2.b 0):=i _<|jo ∅;have k:aI 24000 ((dJ n e).a.getD q.2.a 0):=i _<|jo ∅;have j:aI 24002 (tJ (dJ n e) q.2 q.1):=((l.a4 k).a5<|h.a1 f.a.a).a0 ⋯;refine fj (aL (cB 6 (aY (FI J) #[(5)] (q.2,aa,(_,o),aa)) yU.a)<|aL (cB 7 (kx (sy (bt (cC 0 J.T.d (2)) (bc 1 J.T.b (5))<|js (by ac_rfl))<|bt (cC 0 J.T.d (2)) (bc 2 J.T.b (5))<|js (by ac_rfl))<|fR (4) (cC 1 J.T.d (2))<|eD h f.a.a ⋯) yU.a)<|aL (kf 3 aa (sC (fR (gb (6) aF di) (7) ?_) (gb (6) aF eH) p.1) ?_) bV) ?_;·exact eD p.2.1 j ⋯
  ·left
  ·rw[eV,eV];exact .a0<|.a0<|.a0<|.a0<|.no<|.no<|.no<|.no .a2
 all_goals grind?[oK]
def c_(n:aR):bF:=gG<|n.a.map (·.h)
def WU(a:bH)(g:aR->bF->bF)(e:af az)(d:az):Prop:=∃n:aR,e=[bp a n]/\rH n (c_ n)/\d=bX a (g n<|c_ n)
def ae5:bW ["network"] ["network"] (bf<|aK 36):={}
def F9(J:cq K c a):cI P w K c b 46 "pressures_now" (WU a ro):=by refine cW J.g ae5 λj i h d g f=>?_;obtain⟨n,rfl,e,rfl⟩:=f;exact aX<|bb<|aY (E9 J) #[(0),aY (Le J) #[(0)] (n,aa,e.c,aa)] ((n,c_ n),aa,e,aa)
def ae4:bW ["network"] ["network"] (bf<|aK 37):={}
def xo(J:cq K c a):cI P w K c b 46 "flows_now" (WU a hG):=by refine cW J.H ae4 λj i h d g f=>?_;obtain⟨n,rfl,e,rfl⟩:=f;exact aX<|bb<|aY (Vl J) #[(0),aY (Le J) #[(0)] (n,aa,e.c,aa)] ((n,c_ n),aa,e,aa)
def f_(n:aR)(k:ag):bF:=((cg n.a.length 0).set k 1,1)
def q7(a:bH)(e:af az)(d:az):Prop:=∃p:aR×ag,e=[bp a p.1,.a (p.2:ag)]/\p.2<p.1.a.length/\rH p.1 (f_ p.1 p.2)/\d=bX a (hG p.1<|f_ p.1 p.2)
def Sk:bW ["network","chosen","tops"] ["network","chosen"] (bf<|aK 38):={}
def u9(J:cq K c a):cI P w K c b 46 "flows_of_one_head" (q7 a):=by refine cW J.b8 Sk λm l j d h g=>?_;obtain⟨⟨n,k⟩,rfl,i,e,rfl⟩:=g;have e:rH n (f_ n k):=e;have f:=e.c.c;refine aL (ia 2 (pJ (tQ (n:=n.a.length) (bJ<|cQ #[aF]) (dY (dO J.T.e<|bc 1 J.T.c (0)) ()) !_)<|vu _ _) Sk.a)<|aL (vk 2 aa aF (1)<|vy ∅)<|iI 2 aa<|aX<|bb<|aY (Vl J) #[(0),rC (vw J) #[(2),aF] (aa,aa)] ((n,f_ n k),?_,e,aa);simp_all[bp,BH,bX,f_]
end
def SF(ρ0:af bL)(b:α->da)(d:az):∀(a c:af α),kg (λ_=>ρ0) (λ_ z=>if b z=ao then aq else ai d) c a=if a.all b=ao then .a ρ0 else .b d
 |[],_=>aa|z::a,c=>by unfold kg;by_cases h:b z=ao;rw[SF ρ0 b d a];nofun;nofun
def E_(env:af α->af bL)(b:α->da)(d:az):∀(a c:af α),kg env (λ_ z=>if b z=ao then aq else ai d) c a=if a.all b=ao then .a (env<|c++a)else .b d
 |[],c=>by unfold kg;simp|z::a,c=>by unfold kg;by_cases h:b z=ao;rw[E_ env b d a];nofun;nofun
def lp(g:af ah)(q:ah×bB):af ah:=(g.set q.2.b<|g.getD q.2.b 0- q.1).set q.2.a<|(g.set q.2.b<|g.getD q.2.b 0- q.1).getD q.2.a 0+q.1
def qx(n:aR)(a:af ah):af ah:=(a.zip n.a).foldl lp<|cg n.b.length 0
def jP(n:aR)(a:af ah):da:=aT (a.length=n.a.length)&&(qx n a).all λz=>aT<|z=0
def Lj:∀(l:af (ah×bB)) (g:af ah),(l.foldl lp g).length=g.length
 |[],_=>aa|q::l,g=>by rw[fO,Lj l];unfold lp;simp
def Vq{l:af ah}(h:k<l.length):(l.map az.a)[k]?=ai (.a<|l.getD k 0):=∅
section
variable{K:aZ}
def E3(c:bH)(a:af az)(d:az):Prop:=∃p:aR×bF,a=[bp c p.1,bX c p.2]/\bw p.1/\d=.g (jP p.1 p.2.a)
def Bp:bW ["network","flows","gained","top","edge"] ["network","flows"] (bf<|aK 39):={}
def zr(J:cq K j c):cI P w K j f 40 "circulate" (E3 c):=by
 refine cW J.D Bp λx v u d p o=>?_;obtain⟨⟨n,r⟩,rfl,e,rfl⟩:=o;have e:bw n:=e;have l:=e.d;by_cases g:r.a.length=n.a.length;refine fB (aL (bK (iH (dO J.T.e<|cC 0 J.T.d (1))<|dO J.T.e<|bc 1 J.T.c (0)) (λh=>by simp[g]at h)<|λ_=>bV)<|aL (ia 2 (pJ (tQ (bJ<|cQ #[aF]) (dY (dO J.T.e<|bc 0 J.T.c (0)) ()) !_)<|vu _ _) Bp.a)<|aL (jh (r.a.zip n.a) (λq=>az.f [.a q.1,cv c q.2]) (λy=>[.a<|bp c n,.a<|bX c r,.c<|(y.foldl lp<|cg n.b.length 0).map az.a,.b,.b]) (λy q=>[.a<|bp c n,.a<|bX c r,.c<|(y.foldl lp<|cg n.b.length 0).map az.a,.a<|.a q.1,.a<|cv c q.2]) (jm (rr J.T.h (cC 0 J.T.d (1))<|bc 1 J.T.c (0))<|qj _ _ _ _) (λy z a b=>(mf 3 4 aa Bp.a)) (λy q a b=>?_) aa fT)<|iI 2 aa<|aX<|bb<|LP (bs:=(qx n r.a).map λz=>aT<|z=0) aa J.T.v<|dY (bJ<|km (qx n r.a) az.a (λ_=>ao) (λz=>.g<|aT<|z=0) (λz=>[.a<|bp c n,.a<|bX c r,.a<|aM<|qx n r.a,.a<|.a z,.b]) (own:=[("top",3)]) (gm (2)) (gP (N:=["network","flows","gained","top","edge"]) (sc:=bf<|aK 39) ⋯) ⋯ (λ_ _ _ _ _ _ _ z b=>(e_ 3 Bp.a)) (λ_ _ _ _ _ _ _ z b=>ji) (λ_ _ _ _ _ _ _ z b _=>(We (3) aF)) ?_ aa Bp.a) ?_) ?_;have A:q∈r.a.zip n.a:=(by nofun);have k:=e.a q.2 (gd A).2;have m:(y.foldl lp<|cg n.b.length 0).length=n.b.length:=by rw[Lj];simp
 have t:=k.b;have s:=k.a;refine fj (aL (Kl 2 aa AR (bc 1 J.T.b (4)) (3)<|Vq ∅)<|aL (Kl 2 aa uU (bc 2 J.T.b (4)) (3) (i:=((y.foldl lp<|cg n.b.length 0).set q.2.b<|(y.foldl lp<|cg n.b.length 0).getD q.2.b 0- q.1).getD q.2.a 0) ?_) bV) ?_;left;rw[rV];show jQ _ [_,_,.c<|(lp (y.foldl lp<|cg n.b.length 0) q).map az.a,_,_];unfold lp;rw[n_,n_];exact .a0<|.a0<|.a0<|.no<|.no .a2;(simp[qx,Lj];lia);rw[jM,eS];rfl;simp_all[jP];refine fB (aX<|bK (iH (dO J.T.e<|cC 0 J.T.d (1))<|dO J.T.e<|bc 1 J.T.c (0)) (λ_=>(aX<|bb tX))<|λh=>bG () g) ?_;simp_all[jP]
def pC(a b:ah×ah):ah×ah:=bh<|aQ (a.1*b.2+b.1*a.2)<|a.2*b.2
def nA(a b:ah×ah):ah×ah:=bh<|aQ (a.1*b.1)<|a.2*b.2
def ze(e:bB)(a b:ah×ah):da:=aT<|bh (aQ a.1 a.2)=nA (en e) (pC b e.h)
def l7(c:bH)(a:af az)(d:az):Prop:=∃p:bB×(ah×ah)×(ah×ah),a=[cv c p.1,cE p.2.1,cE p.2.2]/\(∃N,gT N p.1)/\0<p.2.1.2/\0<p.2.2.2/\aI 1000000 p.2.2.1/\aI 1000000 p.2.2.2/\d=.g (ze p.1 p.2.1 p.2.2)
def Sj:bW ["edge","flow","fall","pressed"] ["edge","flow","fall"] (bf<|aK 40):={}
def Uy(h:gT N e):0<(en e).2/\aI 1320 (en e).1/\aI 1320 (en e).2:=by have b:=oJ (a:=e.g.1*e.o.1)<|fQ h.d h.m;exact(b.2.2,jg b.1<|(h.i.1.a1 h.p.1).a0 ⋯,jg b.2.1<|(h.i.2.a1 h.p.2).a0 ⋯)
def Vj(J:cq K j c):cI P w K j f 44 "is_pressed" (l7 c):=by refine cW J.J Sj λx v u d s q=>?_;obtain⟨⟨e,t,g⟩,rfl,⟨N,b⟩,r,p,o,i,rfl⟩:=q;have n:=Uy b;have m:=oJ (a:=g.1*e.h.2+e.h.1*g.2)<|fQ p b.j;have l:aI 1001301 (pC g e.h).1:=jg m.1<|((o.a1 b.k.2).a5<|b.k.1.a1 i).a0 ⋯;have k:aI 1001300 (pC g e.h).2:=jg m.2.1<|(i.a1 b.k.2).a0 ⋯;exact aL (cB 3 (aY (FG J) #[aY (FI J) #[(0)] (e,aa,(N,b),aa),aY (Ve J) #[(2),bc 4 J.T.b (0)] ((g,e.h),aa,p,b.j,eD o b.k.2 ⋯,eD b.k.1 i ⋯,eD i b.k.2 ⋯,aa)] ((en e,pC g e.h),aa,n.1,m.2.2,eD n.2.1 l ⋯,eD n.2.2 k ⋯,aa)) Sj.a)<|aX<|bb<|E8 (aY (nG J) #[gb (1) aF di,gb (1) aF eH] (_,_,aa,r,aa)) (3)
def pK(p:bF)(e:bB):ah×ah:=(p.a.getD e.b 0- p.a.getD e.a 0,p.b)
def sD(n:aR)(r p:bF):da:=aT (p.a.length=n.b.length)&&jP n r.a&&(r.a.zip n.a).all λq=>ze q.2 (q.1,r.b)<|pK p q.2
structure iu(r:bF):Prop where
 d:r.a.length<=20
 b:0<r.b
 c:aI 30000 r.b
 a:∀t∈r.a,aI 30000 t
def P4(c:bH)(a:af az)(d:az):Prop:=∃p:aR×bF×bF,a=[bp c p.1,bX c p.2.1,bX c p.2.2]/\bw p.1/\iu p.2.1/\iu p.2.2/\d=.g (sD p.1 p.2.1 p.2.2)
def Ka:bW ["network","flows","pressures","top","edge","fall"] ["network","flows","pressures"] (bf<|aK 41):={}
def o9(J:cq K j c):cI P w K j f 45 "belong_together" (P4 c):=by
 refine cW J.N Ka λF E C d y x=>?_;obtain⟨⟨n,r,p⟩,rfl,i,g,a,rfl⟩:=x;have i:bw n:=i;have a:iu p:=a;by_cases m:(aT (p.a.length=n.b.length)&&jP n r.a)=ao;obtain⟨o,t⟩:=Xg.mp m;have o:p.a.length=n.b.length:=∅;refine aL (bK (er (iH (dO J.T.e<|cC 0 J.T.d (2))<|dO J.T.e<|bc 0 J.T.c (0)) λ_=>(dQ<|ef<|d_<|aY (zr J) #[(0),(1)] ((n,r),aa,i,aa))).pt (λh=>by simp[o,t]at h)<|λ_=>bV) ?_;refine yZ (yY (r.a.zip n.a) (λq=>az.f [.a q.1,cv c q.2]) (λ_=>[.a<|bp c n,.a<|bX c r,.a<|bX c p,.b,.b,.b]) (λ_ q=>if ze q.2 (q.1,r.b) (pK p q.2)=ao then aq else ai<|.g aw) (λD q=>[.a<|bp c n,.a<|bX c r,.a<|bX c p,.a<|.a q.1,.a<|cv c q.2,.b]) (jm (rr J.T.h (cC 0 J.T.d (1))<|bc 1 J.T.c (0))<|qj _ _ _ _) (λD z b v=>(mf 3 4 aa Ka.a)) (λD q b v=>?_) aa fT) ?_;have G:q∈r.a.zip n.a:=();have l:=i.a q.2 (gd G).2;have B:=l.b;have A:=l.a;have k:aI 1000000 (pK p q.2).1:=((a.a _<|jo ∅).a4<|a.a _<|jo ∅).a0 ⋯;refine aL (cB 5 (sy (bt (cC 0 J.T.d (2)) (bc 1 J.T.b (4))<|js (by ac_rfl))<|bt (cC 0 J.T.d (2)) (bc 2 J.T.b (4))<|js (by ac_rfl)) Ka.a) ?_;cases s:ze q.2 (q.1,r.b) (pK p q.2)with
 |true=>refine fj (aL (bK (ef<|d_<|aY (Vj J) #[(4),kv #[(3),cC 1 J.T.d (1)],kv #[(5),cC 1 J.T.d (2)]] ((q.2,(q.1,r.b),pK p q.2),aa,(_,l),g.b,a.b,k,a.c.a0 ⋯,aa)) (λh=>by simp[s]at h)<|λ_=>bV) bV) (.a0<|.a0<|.a0<|.no<|.no<|.no .a2)|false=>exact aX<|bK (ef<|d_<|aY (Vj J) #[(4),kv #[(3),cC 1 J.T.d (1)],kv #[(5),cC 1 J.T.d (2)]] ((q.2,(q.1,r.b),pK p q.2),aa,(_,l),g.b,a.b,k,a.c.a0 ⋯,aa)) (λ_=>(aX<|bb tX)) (λh=>by simp[s]at h)
 rw[SF];unfold sD;rw[vL o,t];cases u:(r.a.zip n.a).all λq=>ze q.2 (q.1,r.b) (pK p q.2)with
 |true=>exact aX (bb tX)|false=>exact aa
 have e:sD n r p=aw:=by unfold sD;simp[*]
 rw[e];refine aX<|bK (er (iH (dO J.T.e<|cC 0 J.T.d (2))<|dO J.T.e<|bc 0 J.T.c (0)) λ_=>(dQ<|ef<|d_<|aY (zr J) #[(0),(1)] ((n,r),aa,i,aa))).pt (λ_=>(aX<|bb tX))<|λh=>?_;grind
end
def sj(a b:bF):dq:=aQ ((a.a.zip b.a).map λq=>q.1*q.2).sum<|a.b*b.b
def nj(n:aR)(r:bF):dq:=sj (c_ n) r
def kh(q:ah×bB):ah×ah:=if q.2.o.1=0 then(0,1)else((en q.2).2,(en q.2).1)
def vD(n:aR)(r:bF):da:=(r.a.zip n.a).all λq=> !aT (q.2.o.1=0)||aT (q.1=0)
def nu(n:aR)(r:bF):bF:=gG<|(r.a.zip n.a).map kh
def mh(n:aR)(r:bF):aJ dq:=if vD n r=ao then ai (sj (ow r)<|nu n r)else aq
def kR(n:aR)(r:bF):aJ (ah×ah):=(mh n r).map λx=>pC (bh x)<|nA (-2,1)<|bh<|nj n r
def y_(h:oR n l):0<(gG l).b/\aI (1+20*n) (gG l).b/\∀t∈(gG l).a,aI (1+21*n) t:=by have a:=h.a6;refine(a.1,a.2,λt b=>?_);obtain⟨q,c,rfl⟩:=cJ.mp b;exact((h.a4 q c).a1<|a.2.a3<|h.a0 q c).a0 !_
def Bv(l:af (ah×ah)):(gG l).a.length=l.length:=by unfold gG;simp
def cr(h:gT N e)(b:¬e.o.1=0):0<(en e).1:=by unfold en Fy;have a:=fQ h.d h.m;rw[xp a];have c:0<e.g.1*e.o.1:=fQ h.f (by have:=h.q;lia);(solve_by_elim[Jj,wO])
def SV{r:bF}(h:bw n):oR 1320 ((r.a.zip n.a).map kh):=by
 have c:∀q∈r.a.zip n.a,0<(kh q).2/\aI 1320 (kh q).1/\aI 1320 (kh q).2:=λq f=>by
  have b:=h.a q.2 (gd f).2;have a:=Uy b;unfold kh;split;·exact(⋯,aI.a0 (n:=1) aI.a2 ⋯,aI.a0 (n:=1) aI.a2 ⋯)
  ·exact(cr b ‹_›,a.2.2,a.2.1)
 refine(?_,⋯,λq f=>?_,λq f=>?_,λq f=>?_);·rw[cb,kG];have:=h.c;lia
 all_goals obtain⟨e,d,rfl⟩:=cJ.mp f
 ·simp[*]
 ·simp[*]
 ·simp[*]
section
variable{K:aZ}
def L6(a:bH)(e:af az)(d:az):Prop:=∃p:aR×bF,e=[bp a p.1,bX a p.2]/\bw p.1/\iu p.2/\d=vF (nj p.1 p.2)
def ae2:bW ["network","flows"] ["network","flows"] (bf<|aK 42):={}
def UW(J:cq K c a):cI P w K c b 44 "work_of" (L6 a):=by refine cW J.d9 ae2 λm l k d j i=>?_;obtain⟨⟨n,r⟩,rfl,f,e,rfl⟩:=i;have f:bw n:=f;have g:=y_<|Kq f;refine aX<|bb<|aY (UZ J) #[aY (Le J) #[(0)] (n,aa,f,aa),(1)] ((c_ n,r),aa,g.1,e.b,?_,λq o=>?_,?_,aa);unfold c_;rw[Bv,cb];have:=f.c;lia;have h:=gd o;exact eD (g.2.2 _ h.1) (e.a _ h.2) ⋯;exact eD g.2.1 e.c ⋯
def M3(a:bH)(e:af az)(d:az):Prop:=∃p:aR×bF,e=[bp a p.1,bX a p.2]/\bw p.1/\iu p.2/\d=match mh p.1 p.2 with|none=>.e|some x=>vF x
def J_:bW ["network","flows","resistances","top","edge"] ["network","flows"] (bf<|aK 43):={}
def Vk(J:cq K c a):cI P w K c b 44 "friction_of" (M3 a):=by
 refine cW J.s J_ λH G F d E B=>?_;obtain⟨⟨n,r⟩,rfl,p,f,rfl⟩:=B;have p:bw n:=p;have f:iu r:=f;have i:=SV (r:=r) p;have k:=y_ i;have v:(r.a.zip n.a).length<=14:=by rw[kG];have:=p.c;lia
 refine aL (ia 2 (cQ aD) J_.a)<|yZ (yY (r.a.zip n.a) (λq=>az.f [.a q.1,cv a q.2]) (λo=>[.a<|bp a n,.a<|bX a r,.c<|(o.map kh).map cE,.b,.b]) (λ_ q=>if(!aT (q.2.o.1=0)||aT (q.1=0))=ao then aq else ai .e) (λo q=>[.a<|bp a n,.a<|bX a r,.c<|(o.map kh).map cE,.a<|.a q.1,.a<|cv a q.2]) (jm (rr J.T.h (cC 0 J.T.d (1))<|bc 1 J.T.c (0))<|qj _ _ _ _) (λo z l x=>(mf 3 4 aa J_.a)) (λo q l x=>?_) aa fT) ?_;have D:q∈r.a.zip n.a:=∅;have A:=p.a q.2 (gd D).2;have j:((o.map kh).map cE).length<1000000:=(by nofun;lia);by_cases m:q.2.o.1=0;by_cases g:q.1=0;have s:(!aT (q.2.o.1=0)||aT (q.1=0))=ao:=!_;simp only[aG s];refine fj (aL (bK (ef<|d_<|aY (FK J) #[(4)] (q.2,aa,aa)) (λh=>by simp[m]at h)<|λ_=>(aL (bK (ec (3) aF) (λ_=>(aL (kf 2 aa (kv #[aF,aF]) j) bV))<|λh=>bG g<|mQ h) bV)) bV) ?_;rw[eV,eV];show jQ _ [_,_,.c<|_++[cE<|kh q],_,_];rw[show kh q=(0,1)from aG m];exact .a0<|.a0<|.a0<|.no<|.no .a2;have s:¬(!aT (q.2.o.1=0)||aT (q.1=0))=ao:=∅;simp only[aE s];exact aX<|bK (ef<|d_<|aY (FK J) #[(4)] (q.2,aa,aa)) (λh=>by simp[m]at h)<|λ_=>aX<|bK (ec (3) aF) (λh=>bG (iM h) g)<|λ_=>(aX<|bb eO);have s:(!aT (q.2.o.1=0)||aT (q.1=0))=ao:=∅;simp only[aG s];refine fj (aL (bK (ef<|d_<|aY (FK J) #[(4)] (q.2,aa,aa)) (λ_=>(aL (kf 2 aa (aY (UY J) #[aY (FI J) #[(4)] (q.2,aa,(_,A),aa)] (en q.2,aa,aa)) j) bV)) (λh=>by simp[m]at h)) bV) ?_;rw[eV,eV];show jQ _ [_,_,.c<|_++[cE<|kh q],_,_];rw[show kh q=((en q.2).2,(en q.2).1)from aE m];exact .a0<|.a0<|.a0<|.no<|.no .a2;rw[E_];show Mn (if vD n r=ao then _ else _) _ _;unfold mh;cases y:vD n r with|false=>rfl|true=>
  refine iI 2 aa<|aX<|bb<|aY (UZ J) #[aY (L9 J) #[(1)] (r,aa,?_,?_,?_,aa),aY (FH J) #[(2)] ((r.a.zip n.a).map kh,aa,(1320,i),aa)] ((ow r,nu n r),aa,?_,k.1,?_,λq D=>?_,?_,aa);have:=f.d;lia;exactλt g=>eD (f.a t g) (f.a t g) ⋯;exact eD f.c f.c ⋯;exact fQ f.b f.b;show(r.a.map _).length<=1000;rw[cb];have:=f.d;grind;have u:=gd D;obtain⟨t,g,e⟩:=cJ.mp u.1;have C:aI 60000 q.1:=by rw[<-e];exact((f.a t g).a1<|f.a t g).a0 ⋯
  exact eD C (k.2.2 _ u.2) ⋯;exact eD (((f.c.a1 f.c).a0 ⋯:aI 60000 (r.b*r.b))) k.2.1 ⋯
def RU(ha:∀t∈a.a,aI m t)(l:∀t∈b.a,aI k t)(j:0<a.b)(i:0<b.b)(n:b.a.length<=16\/a.a.length<=16)(h:aI m a.b)(g:aI k b.b):0<(bh<|sj a b).2/\aI (m+k+4) (bh<|sj a b).1/\aI (m+k) (bh<|sj a b).2:=by have d:=oJ (a:=((a.a.zip b.a).map λq=>q.1*q.2).sum)<|fQ j i;refine(d.2.2,jg d.1 ?_,jg d.2.1<|h.a1 g);exact EL (Te ha l) ()
def K3(c:bH)(a:af az)(d:az):Prop:=∃p:aR×bF,a=[bp c p.1,bX c p.2]/\bw p.1/\iu p.2/\d=match kR p.1 p.2 with|none=>.e|some x=>cE x
def Si:bW ["network","flows","friction"] ["network","flows"] (bf<|aK 44):={}
def adM(hn:bw n)(b:iu r):0<(bh<|nj n r).2/\aI 60000 (bh<|nj n r).1/\aI 60000 (bh<|nj n r).2:=by have d:=y_<|Kq hn;have:=RU (a:=c_ n) (m:=27301) (λt g=>(d.2.2 t g).a0 ⋯) b.a d.1 b.b (.inr (by unfold c_;rw[Bv,cb];have:=hn.c;symm)) (d.2.1.a0 ⋯) b.c;exact(this.1,this.2.1.a0 ⋯,this.2.2.a0 ⋯)
def Re(hn:bw n)(d:iu r)(h:mh n r=ai x):0<(bh x).2/\aI 90000 (bh x).1/\aI 90000 (bh x).2:=by unfold mh at h;split at h;cases h;have g:=y_<|SV (r:=r) hn;have:=RU (a:=ow r) (b:=nu n r) (m:=60000) (k:=27721) (λt i=>by obtain⟨u,j,rfl⟩:=cJ.mp i;exact((d.a u j).a1<|d.a u j).a0 ⋯) (λt i=>(g.2.2 t i).a0 ⋯) (fQ d.b d.b) g.1 (.inl (by unfold nu;rw[Bv,cb,kG];have:=hn.c;lia)) ((d.c.a1 d.c).a0 ⋯)<|g.2.1.a0 ⋯;exact(this.1,this.2.1.a0 ⋯,this.2.2.a0 ⋯);nofun
def Vm(J:cq K f c):cI P w K f e 45 "energy_of" (K3 c):=by
 refine cW J.z Si λu t s d q p=>?_;obtain⟨⟨n,r⟩,rfl,i,g,rfl⟩:=p;have i:bw n:=i;have g:iu r:=g;refine aL (cB 2 (aY (Vk J) #[(0),(1)] ((n,r),aa,i,g,aa)) Si.a) ?_;unfold kR;cases o:mh n r with|none=>exact aX (bK (eX (2)) (λ_=>(aX<|bb eO)) (λh=>by simp[md]at h))|some x=>have k:=Re i g o;have v:=adM i g;have m:=oJ (a:= -2*(bh<|nj n r).1) (b:=1*(bh<|nj n r).2) ∅;have l:aI 60002 (nA (-2,1)<|bh<|nj n r).1:=jg m.1<|((aI.a2:aI 2 (-2)).a1 v.2.1).a0 ⋯;have j:aI 60002 (nA (-2,1)<|bh<|nj n r).2:=jg m.2.1<|((aI.a2:aI 1 1).a1 v.2.2).a0 ⋯;exact aL (bK (eX (2)) (λh=>by simp[md]at h)<|λ_=>bV)<|aX<|bb<|aY (Ve J) #[(2),aY (FG J) #[kv #[tW aF,aF],aY (UW J) #[(0),(1)] ((n,r),aa,i,g,aa)] (((-2,1),bh<|nj n r),aa,(by show 0<1;decide),v.1,eD (aI.a2:aI 2 (-2)) v.2.1 ⋯,eD (aI.a2:aI 1 1) v.2.2 ⋯,aa)] ((bh x,nA (-2,1)<|bh<|nj n r),aa,k.1,m.2.2,eD k.2.1 j ⋯,eD l k.2.2 ⋯,eD k.2.2 j ⋯,aa)
def lZ(n:aR):af ag:=((bj 0 n.a).filter λq=>aT<|(q.2.c:Int)=2).map (·.1)
def fC(n:aR):aJ ag:=if(lZ n).length=1 then ai ((lZ n).headD 0)else aq
def U6(c:bH)(a:af az)(d:az):Prop:=∃n:aR,a=[bp c n]/\n.a.length<=14/\d=match fC n with|none=>.e|some k=>.a (k:ag)
def JX:bW ["network","pumps","number","edge"] ["network"] (bf<|aK 6):={}
def BS(J:cq K f c):cI P w K f e 40 "only_pump" (U6 c):=by
 refine cW J.a2 JX λt s r d o m=>?_;obtain⟨n,rfl,p,rfl⟩:=m;have b:((bj 0 n.a).filter λq=>aT<|(q.2.c:Int)=2).map (λq=>az.a q.1)=(lZ n).map λk=>az.a (k:ag):=by (simp[lZ])
 refine aL (Bt (bj 0 n.a) (λq=>az.f [.a q.1,cv c q.2]) (λq=>aT<|(q.2.c:ah)=2) (λq=>.a q.1) (λq=>[.a<|bp c n,.b,.a<|.a q.1,.a<|cv c q.2]) (own:=[("number",2),("edge",3)]) (jm (FD J.T.p<|bc 1 J.T.c (0))<|xy _ 0 _) (gP (N:=["network","pumps","number","edge"]) (sc:=bf<|aK 6) ⋯) ⋯ (λ_ _ _ _ _ _ _ z i=>(mf 2 3 aa JX.a)) (λ_ _ _ _ _ _ _ z i=>(DT<|ec (bc 0 J.T.b (3))<|cY J.T.m)) (λ_ _ _ _ _ _ _ z i _=>(2)) (by rw[nI];lia) aa JX.a 1) ?_;rw[b];unfold fC;by_cases g:(lZ n).length=1;rw[aG g];refine aX<|bb<|sA (ec (dO J.T.e (1)) aF) (λ_=>(bt (1) aF ?_))<|λh=>?_;cases j:lZ n with|nil=>rw[j]at g;simp at g|cons a l=>exact di
 nofun;rw[aE g];refine aX<|bb<|sA (ec (dO J.T.e (1)) aF) (λh=>?_)<|λh=>eO;grind
def jr(r:bF)(q:ah×bB):ah×ah:=nA (q.1,r.b) (q.2.g.2,q.2.g.1)
def bC(n:aR)(r:bF):bF:=gG<|(r.a.zip n.a).map<|jr r
def SW(hn:bw n)(b:iu r):oR 30020 ((r.a.zip n.a).map<|jr r):=by
 have j:∀q∈r.a.zip n.a,0<(jr r q).2/\aI 30020 (jr r q).1/\aI 30020 (jr r q).2:=λq c=>by have i:=gd c;have h:=hn.a q.2 i.2;have d:=oJ (a:=q.1*q.2.g.2)<|fQ b.b h.f;exact(d.2.2,jg d.1<|((b.a _ i.1).a1 h.i.2).a0 ⋯,jg d.2.1<|(b.c.a1 h.i.1).a0 ⋯)
 refine(?_,⋯,λq c=>?_,λq c=>?_,λq c=>?_);·rw[cb,kG];have:=hn.c;grind
 all_goals obtain⟨l,k,rfl⟩:=cJ.mp c
 ·simp[*]
 ·simp[*]
 ·simp[*]
def J3(c:bH)(a:af az)(d:az):Prop:=∃p:aR×bF,a=[bp c p.1,bX c p.2]/\bw p.1/\iu p.2/\d=bX c (bC p.1 p.2)
def JT:bW ["network","flows","drops","top","edge"] ["network","flows"] (bf<|aK 71):={}
def t9(J:cq K f c):cI P w K f e 43 "drops_of" (J3 c):=by refine cW J.F JT λs p o d m l=>?_;obtain⟨⟨n,r⟩,rfl,h,a,rfl⟩:=l;have h:bw n:=h;refine aL (ia 2 (cQ aD) JT.a)<|aL (jh (r.a.zip n.a) (λq=>az.f [.a q.1,cv c q.2]) (λg=>[.a<|bp c n,.a<|bX c r,.c<|(g.map<|jr r).map cE,.b,.b]) (λg q=>[.a<|bp c n,.a<|bX c r,.c<|(g.map<|jr r).map cE,.a<|.a q.1,.a<|cv c q.2]) (jm (rr J.T.h (cC 0 J.T.d (1))<|bc 1 J.T.c (0))<|qj _ _ _ _) (λg z b k=>(mf 3 4 aa JT.a)) (λg q b k=>?_) aa fT)<|iI 2 aa<|aX<|bb<|aY (FH J) #[(2)] ((r.a.zip n.a).map<|jr r,aa,(_,SW h a),aa);have t:q∈r.a.zip n.a:=(by nofun);have j:=gd t;have i:=h.a q.2 j.2;refine fj (aL (kf 2 aa (aY (FG J) #[kv #[(3),cC 1 J.T.d (1)],aY (UY J) #[bc 3 J.T.b (4)] (q.2.g,aa,aa)] (((q.1,r.b),(q.2.g.2,q.2.g.1)),aa,a.b,i.f,eD (a.a _ j.1) i.i.2 ⋯,eD a.c i.i.1 ⋯,aa)) ?_) bV) ?_;rw[cb,cb];have:g.length<=(r.a.zip n.a).length:=∅;rw[kG]at this;have:=h.c;grind;rw[eV,eV];exact .a0<|.a0<|.a0<|.no<|.no .a2
abbrev gF:=ag×ag×ah
abbrev nL(s:gF):az:=.f [.a (s.1:ag),.a (s.2.1:ag),.a s.2.2]
def mI(q:ah×bB):af gF:=(if q.2.c=0\/(q.2.c=1/\0<q.1)then [(q.2.b,q.2.a,q.1)]else [])++(if q.2.c=0\/(q.2.c=1/\q.1<0)then [(q.2.a,q.2.b,-q.1)]else [])
def df(n:aR)(a:af ah):af gF:=(a.zip n.a).flatMap mI
def z6(c:bH)(a:af az)(d:az):Prop:=∃p:aR×bF,a=[bp c p.1,bX c p.2]/\p.1.a.length<=14/\d=.d ((df p.1 p.2.a).map nL)
def JS:bW ["network","drops","steps","drop","edge"] ["network","drops"] (bf<|aK 72):={}
def p8(q:ah×bB):(mI q).length<=2:=by (simp_all[mI];(split<;>((repeat' split)<;>nofun)))
def JK:∀(l:af (ah×bB)),(l.flatMap mI).length<=2*l.length
 |[]=>b_ _|q::l=>by rw[uK,hU,ij];have:=JK l;have:=p8 q;lia
def N9(J:cq K f c):cI P w K f e 40 "steps_down" (z6 c):=by
 refine cW J.h JS λy x v d s m=>?_;obtain⟨⟨n,r⟩,rfl,t,rfl⟩:=m;refine aL (ia 2 (cQ aD) JS.a)<|aL (jh (r.a.zip n.a) (λq=>az.f [.a q.1,cv c q.2]) (λA=>[.a<|bp c n,.a<|bX c r,.c<|(A.flatMap mI).map nL,.b,.b]) (λA q=>[.a<|bp c n,.a<|bX c r,.c<|(A.flatMap mI).map nL,.a<|.a q.1,.a<|cv c q.2]) (jm (rr J.T.h (cC 0 J.T.d (1))<|bc 1 J.T.c (0))<|qj _ _ _ _) (λA z g l=>(mf 3 4 aa JS.a)) (λA q g l=>?_) aa fT)<|iI 2 aa<|aX<|bb (2);have j:((A.flatMap mI).map nL).length+2<=1000:=by rw[cb];have u:=JK A;grind[kG]
 have p:(A++[q]).flatMap mI=A.flatMap mI++mI q:=();have o:mI q=(if q.2.c=0\/(q.2.c=1/\0<q.1)then [(q.2.b,q.2.a,q.1)]else [])++(if q.2.c=0\/(q.2.c=1/\q.1<0)then [(q.2.a,q.2.b,-q.1)]else []):=aa;rw[p,eV,o];by_cases k:q.2.c=0\/(q.2.c=1/\0<q.1);have b:((aT<|(q.2.c:ah)=0)||(aT ((q.2.c:ah)=1)&&aT (0<q.1)))=ao:=();rw[aG k];by_cases i:q.2.c=0\/(q.2.c=1/\q.1<0);have a:((aT<|(q.2.c:ah)=0)||(aT ((q.2.c:ah)=1)&&aT (q.1<0)))=ao:=(by cases ‹_\/_›<;>nofun);rw[aG i];refine fj (aL (bK (cX (er (ec (bc 0 J.T.b (4))<|cY J.T.n) λ_=>(dQ (se (ec (bc 0 J.T.b (4))<|cY J.T.g) λ_=>(dQ<|jE (3) aF)).pt)).pt b) (λ_=>(aL (kf 2 aa (kv #[bc 1 J.T.b (4),bc 2 J.T.b (4),(3)]) !_) bV)) (λh=>by simp at h))<|aL (bK (cX (er (ec (bc 0 J.T.b (4))<|cY J.T.n) λ_=>(dQ (se (ec (bc 0 J.T.b (4))<|cY J.T.g) λ_=>(dQ<|sg (3) aF)).pt)).pt a) (λ_=>(aL (kf 2 aa (kv #[bc 2 J.T.b (4),bc 1 J.T.b (4),tW (3)]) (by left)) bV)) (λh=>by simp at h)) bV) ?_;rw[wA];exact .a0<|.a0<|.a0<|.no<|.no .a2;have a:((aT<|(q.2.c:ah)=0)||(aT ((q.2.c:ah)=1)&&aT (q.1<0)))=aw:=∅;rw[aE i];exact fj (aL (bK (cX (er (ec (bc 0 J.T.b (4))<|cY J.T.n) λ_=>(dQ (se (ec (bc 0 J.T.b (4))<|cY J.T.g) λ_=>(dQ<|jE (3) aF)).pt)).pt b) (λ_=>(aL (kf 2 aa (kv #[bc 1 J.T.b (4),bc 2 J.T.b (4),(3)]) (by grind)) bV)) (λh=>by simp at h))<|aL (bK (cX (er (ec (bc 0 J.T.b (4))<|cY J.T.n) λ_=>(dQ (se (ec (bc 0 J.T.b (4))<|cY J.T.g) λ_=>(dQ<|sg (3) aF)).pt)).pt a) (λh=>by simp at h)<|λ_=>bV) bV)<|.a0<|.a0<|.a0<|.no<|.no .a2;have b:((aT<|(q.2.c:ah)=0)||(aT ((q.2.c:ah)=1)&&aT (0<q.1)))=aw:=(by left);rw[aE k];by_cases i:q.2.c=0\/(q.2.c=1/\q.1<0);have a:((aT<|(q.2.c:ah)=0)||(aT ((q.2.c:ah)=1)&&aT (q.1<0)))=ao:=∅;rw[aG i];exact fj (aL (bK (cX (er (ec (bc 0 J.T.b (4))<|cY J.T.n) λ_=>(dQ (se (ec (bc 0 J.T.b (4))<|cY J.T.g) λ_=>(dQ<|jE (3) aF)).pt)).pt b) (λh=>by simp at h)<|λ_=>bV)<|aL (bK (cX (er (ec (bc 0 J.T.b (4))<|cY J.T.n) λ_=>(dQ (se (ec (bc 0 J.T.b (4))<|cY J.T.g) λ_=>(dQ<|sg (3) aF)).pt)).pt a) (λ_=>(aL (kf 2 aa (kv #[bc 2 J.T.b (4),bc 1 J.T.b (4),tW (3)]) (by lia)) bV)) (λh=>by simp at h)) bV)<|.a0<|.a0<|.a0<|.no<|.no .a2;have a:((aT<|(q.2.c:ah)=0)||(aT ((q.2.c:ah)=1)&&aT (q.1<0)))=aw:=(by nofun;lia);rw[aE i];refine fj (aL (bK (cX (er (ec (bc 0 J.T.b (4))<|cY J.T.n) λ_=>(dQ (se (ec (bc 0 J.T.b (4))<|cY J.T.g) λ_=>(dQ<|jE (3) aF)).pt)).pt b) (λh=>by simp at h)<|λ_=>bV)<|aL (bK (cX (er (ec (bc 0 J.T.b (4))<|cY J.T.n) λ_=>(dQ (se (ec (bc 0 J.T.b (4))<|cY J.T.g) λ_=>(dQ<|sg (3) aF)).pt)).pt a) (λh=>by simp at h)<|λ_=>bV) bV) ?_;rw[kH,oa,kH];exact .a0<|.a0<|.a0<|.no<|.no .a2
end
abbrev rD:aJ ah->az
 |none=>.e|some z=>.a z
def dE(f:af (aJ ah))(s:gF):af (aJ ah):=match f.getD s.1 aq with|none=>f|some x=>f.set s.2.1<|ai (match f.getD s.2.1 aq with|none=>x+s.2.2|some y=>mX y<|x+s.2.2)
def de(N b:ag)(a:af gF):ag->af (aJ ah)
 |0=>(cg N aq).set b (ai 0)|k+1=>a.foldl dE<|de N b a k
def xu(N b:ag)(a:af gF):af ah:=(de N b a N).map (·.getD 0)
def qv(steps:af gF)(a:af ah):da:=steps.all λs=>aT<|s.2.2<=a.getD s.2.1 0- a.getD s.1 0
def G7(f:af (aJ ah))(s:gF):(dE f s).length=f.length:=by (unfold dE;split<;>nofun)
def Lp:∀(l:af gF) (f:af (aJ ah)),(l.foldl dE f).length=f.length
 |[],_=>aa|s::l,f=>by rw[fO,Lp l,G7]
def FX(N b:ag)(a:af gF):∀k,(de N b a k).length=N
 |0=>by simp[de]|k+1=>by rw[de,Lp,FX N b a k]
def WB{l:af (aJ ah)}(h:k<l.length):fZ (l.map rD) ((k:ag):ah)=ai (rD<|l.getD k aq):=by simp[*,gQ]
section
variable{K:aZ}
def L3(ds:af az)(d:az):Prop:=∃p:ag×ag×af gF,ds=[.a (p.1:ag),.a (p.2.1:ag),.d<|p.2.2.map nL]/\p.1<=8/\p.2.1<p.1/\(∀s∈p.2.2,s.1<p.1/\s.2.1<p.1)/\d=aM (xu p.1 p.2.1 p.2.2)
def vi:bW ["how_many","start","steps","falls","length","upper","lower","drop","least","fall"] ["how_many","start","steps"] (bf<|aK 73):={}
def x9(J:cq K i c):cI P w K i a 40 "least_falls" L3:=by
 refine cW J.O vi λM L I d F C=>?_;obtain⟨⟨N,b,D⟩,rfl,H,A,f,rfl⟩:=C;have E:(cg N az.e).set b (.a 0)=(de N b D 0).map rD:=by show _=((cg N aq).set b<|ai 0).map rD;nofun
 refine aL (ia 3 (tQ (bJ<|cQ #[eO]) (0) !_) vi.a)<|aL (vk 3 aa aF (1)<|vy ∅) ?_;rw[E];refine fB (aL (jh (bP N) (λk=>az.a k) (λO=>[.a<|.a N,.a<|.a b,.a<|.d<|D.map nL,.c<|(de N b D O.length).map rD,.b,.b,.b,.b,.b,.b]) (λO z=>[.a<|.a N,.a<|.a b,.a<|.d<|D.map nL,.c<|(de N b D O.length).map rD,.a<|.a z,.b,.b,.b,.b,.b]) (zo J.T.o (0) !_) (λO z j p=>(e_ 4 vi.a)) (λO z j p=>?_) aa fT)<|iI 3 aa<|aX<|bb<|bJ<|km (de N b D N) rD (λ_=>ao) (λo=>.a<|o.getD 0) (λo=>[.a<|.a N,.a<|.a b,.a<|.d<|D.map nL,.a<|.d<|(de N b D N).map rD,.b,.b,.b,.b,.b,.a<|rD o]) (idx:=[9]) (own:=[("fall",9)]) (jm (gm (3)) ()) (gP (N:=["how_many","start","steps","falls","length","upper","lower","drop","least","fall"]) (sc:=bf<|aK 73) ⋯) ⋯ (λ_ _ _ _ _ _ _ z p=>?_) (λ_ _ _ _ _ _ _ z p=>ji) (λ_ _ _ _ _ _ _ z p _=>?_) ?_ aa vi.a) ?_;refine fj (aL (jh D nL (λm=>[.a<|.a N,.a<|.a b,.a<|.d<|D.map nL,.c<|(m.foldl dE<|de N b D O.length).map rD,.a<|.a z,.b,.b,.b,.b,.b]) (λm s=>[.a<|.a N,.a<|.a b,.a<|.d<|D.map nL,.c<|(m.foldl dE<|de N b D O.length).map rD,.a<|.a z,.a<|.a s.1,.a<|.a s.2.1,.a<|.a s.2.2,.b,.b]) (gm (2)) (λO z j p=>(Vu 5 6 7 aa vi.a)) (λm s q v=>?_) aa fT) bV) ?_;have G:=f s ∅;have B:(m.foldl dE<|de N b D O.length).length=N:=by rw[Lp,FX]
 have r:(m++[s]).foldl dE (de N b D O.length)=dE (m.foldl dE<|de N b D O.length) s:=();rw[r];generalize m.foldl dE (de N b D O.length)=g at B;unfold dE;have n:=WB (l:=g) (k:=s.1) ∅;have e:=WB (l:=g) (k:=s.2.1) ∅;cases u:g.getD s.1 aq with|none=>rw[u]at n;exact fj (aL (bK (JE<|nJ 3 aa (5) n) (λh=>by simp[md]at h)<|λ_=>bV) bV) (.a0<|.a0<|.a0<|.a0<|.a0<|.no<|.no<|.no<|.no<|.no .a2)|some x=>
  rw[u]at n;cases t:g.getD s.2.1 aq with|none=>rw[t]at e;refine fj (aL (bK (JE<|nJ 3 aa (5) n) (λ_=>(aL (cB 8 (kx (nJ 3 aa (5) n) (7)) vi.a)<|aL (vk 3 aa (sA (eX<|nJ 3 aa (6) e) (λ_=>(8)) (λh=>by simp[md]at h)) (6)<|vy ∅) bV)) (λh=>by simp[md]at h)) bV) ?_;rw[n_];exact .a0 (.a0<|.a0<|.a0<|.a0<|.no<|.no<|.no<|.no<|.no .a2)|some y=>rw[t]at e;refine fj (aL (bK (JE<|nJ 3 aa (5) n) (λ_=>(aL (cB 8 (kx (nJ 3 aa (5) n) (7)) vi.a)<|aL (vk 3 aa (sA (eX<|nJ 3 aa (6) e) (λh=>by simp[md]at h)<|λ_=>(K8 aa J.T.J (nJ 3 aa (6) e) (8))) (6)<|vy (by ac_rfl)) bV)) (λh=>by simp[md]at h)) bV) ?_;rw[n_];exact .a0<|.a0<|.a0<|.a0<|.a0<|.no<|.no<|.no<|.no<|.no .a2
 have r:(O++[z]).length=O.length+1:=();rw[r];exact .a0<|.a0<|.a0<|.a0<|.no<|.a0<|.a0<|.a0<|.a0<|.a0 .a2;rw[uH];exact e_ 9 vi.a;cases z with|none=>exact sA (eX (9)) (λ_=>aF) (λh=>by simp[md]at h)|some y=>exact sA (eX (9)) (λh=>by simp[md]at h)<|λ_=>(9)
 (simp[FX];lia);rw[jM,vv];rfl
def l4(ds:af az)(d:az):Prop:=∃p:af gF×af ah,ds=[.d<|p.1.map nL,aM p.2]/\p.1.length<=100/\(∀s∈p.1,s.1<p.2.length/\s.2.1<p.2.length)/\d=.g (qv p.1 p.2)
def JR:bW ["steps","falls","upper","lower","drop"] ["steps","falls"] (bf<|aK 74):={}
def Vn(J:cq K i c):cI P w K i a 40 "are_kept" l4:=by refine cW J.a9 JR λm l k d j h=>?_;obtain⟨⟨n,b⟩,rfl,g,f,rfl⟩:=h;have g:n.length<=100:=g;refine fB (aX<|bb<|LP aa J.T.v<|dY (bJ<|km n nL (λ_=>ao) (λs=>.g<|aT<|s.2.2<=b.getD s.2.1 0- b.getD s.1 0) (λs=>[.a<|.d<|n.map nL,.a<|aM b,.a<|.a s.1,.a<|.a s.2.1,.a<|.a s.2.2]) (own:=[("upper",2),("lower",3),("drop",4)]) (gm (0)) (gP (N:=["steps","falls","upper","lower","drop"]) (sc:=bf<|aK 74) ⋯) ⋯ (λ_ _ _ _ _ _ _ z e=>(Vu 2 3 4 aa JR.a)) (λ_ _ _ _ _ _ _ z e=>ji) (λ_ _ _ _ _ _ _ z e _=>(F8 (sy (bt (1) (3)<|js (f z e).2)<|bt (1) (2)<|js (f z e).1) (4))) (by lia) aa JR.a) (by rw[jM,eS];rfl)) ?_;(solve_by_elim[qv,wB])
def ny(falls:af ah)(q:ah×bB):ah×ah:=if q.2.c≠1 then(1,1)else if q.1=0 then(0,1)else bh<|aQ (q.1.natAbs:ah) ((falls.getD q.2.a 0- falls.getD q.2.b 0).natAbs:ah)
def V6(c:bH)(b:af az)(d:az):Prop:=∃p:bB×ah×af ah,b=[cv c p.1,.a p.2.1,aM p.2.2]/\p.1.b<p.2.2.length/\p.1.a<p.2.2.length/\(p.1.c=1->p.2.1≠0->p.2.2.getD p.1.a 0- p.2.2.getD p.1.b 0≠0)/\d=cE (ny p.2.2 (p.2.1,p.1))
def rU:bW ["edge","drop","falls"] ["edge","drop","falls"] (bf<|aK 75):={}
def D9(J:cq K i c):cI P w K i a 42 "opening_by" (V6 c):=by refine cW J.e3 rU λq p o d n m=>?_;obtain⟨⟨e,t,b⟩,rfl,j,g,k,rfl⟩:=m;have j:e.b<b.length:=j;have g:e.a<b.length:=g;have k:e.c=1->t≠0->b.getD e.a 0- b.getD e.b 0≠0:=k;unfold ny;by_cases l:e.c=1;rw[aE (_)];refine aL (bK (iH (bc 0 J.T.b (0))<|cY J.T.g) (λh=>by simp[l]at h)<|λ_=>bV) ?_;by_cases f:t=0;rw[aG f];exact aX<|bK (ec (1) aF) (λ_=>(aX<|bb<|kv #[aF,aF]))<|λh=>bG f<|mQ h;rw[aE f];exact aL (bK (ec (1) aF) (λh=>bG (iM h) f)<|λ_=>bV)<|aX<|bb<|aY (nG J) #[Gn J.T.r (1),Gn J.T.r<|sy (bt (2) (bc 2 J.T.b (0))<|js g)<|bt (2) (bc 1 J.T.b (0))<|js j] (_,_,aa,∅,aa);rw[aG ()];exact aX<|bK (iH (bc 0 J.T.b (0))<|cY J.T.g) (λ_=>(aX<|bb<|kv #[aF,aF])) (λh=>by simp at h;lia)
def ST:bW ["self","head","openings"] ["self","head","openings"] (bf<|rZ (aK 70) 0):={}
def bi(J:cq K i c):vH P w K i a 40 "Setting" c.d BG (Mp 2):=by
 refine Fp J.d ST (λ_ _ _ _ _ _=>Q3 λ_ _ _=>aa) (λB d h=>h.1) λf C A m s H E Q p r t F B fs D v z G y q x=>?_;obtain⟨g,rfl⟩:=v;obtain⟨l,k,rfl⟩:∃l k,t=[l,k]:=by
  have:=q.a1
  match t,this with
  |[l,k],_=>exact(l,k,aa)|[],e=>rw[g]at e;cases e
  |[_],e=>rw[g]at e;cases e
  |_::_::_::_,e=>rw[g]at e;simp at e
 refine(_,eN (ik (fI 0) (fI 1) aa)<|uM<|ik (fI 0) (fI 2) aa,?_);refine(_,aa,_,aa,p,c.d,r,[],aa,z,J.T.l.a,J.T.l.b _ ⋯,⋯,?_);refine(_,aa,_,aa,p,c.d,r,_,aa,bO,J.T.l.a,J.T.l.b _ ⋯,(by show 1<1000;decide),?_);refine x F _ [l,k] (bD.a2 _) (λb o e j=>by rwa[aO j,aO j]) (λb o e=>?_) (λ_ _ n=>n) ?_ aa q;have j:b≠p:=!_;rw[aO j,aO j];exact y _ _ e;rw[bO,nv];rfl
end
structure oQ where
 b:ah×ah
 a:af (ah×ah)
abbrev qA(ad:bH)(s:oQ):az:=.m ad.d BG [cE s.b,.d<|s.a.map cE]
def dR(n:aR)(r:bF)(e:bB):af ah:=xu n.b.length e.a<|df n (bC n r).a
def lY(n:aR)(r:bF)(k:ag)(e:bB):aJ oQ:=
 if r.a.getD k 0<=0 then aq
 else if qv (df n (bC n r).a) (dR n r e)=ao then ai (bh<|aQ ((bC n r).a.getD k 0+(dR n r e).getD e.b 0) (bC n r).b,((bC n r).a.zip n.a).map<|ny<|dR n r e)
 else aq
def J7(N a:ag)(l:af gF):(xu N a l).length=N:=by simp[xu,FX]
def ad_(hn:bw n):∀s∈df n tops,s.1<n.b.length/\s.2.1<n.b.length:=λs a=>by obtain⟨q,e,a⟩:=HZ.mp a;have b:=hn.a q.2 (gd e).2;have d:=b.b;have c:=b.a;rcases nZ.mp a with a|a;nofun;nofun
def Go(h:qv (df n tops) falls=ao)(f:q∈tops.zip n.a)(a:q.2.c=1)(e:q.1≠0):falls.getD q.2.a 0- falls.getD q.2.b 0≠0:=by have b:=mw.mp h;by_cases c:0<q.1;have d:(q.2.b,q.2.a,q.1)∈df n tops:=HZ.mpr (q,f,by unfold mI;rw[aG<|.inr (a,c)];solve_by_elim);grind;have d:(q.2.a,q.2.b,-q.1)∈df n tops:=HZ.mpr (q,f,by refine nZ.mpr<|.inr ?_;rw[aG<|.inr (a,!_)];simp);grind
def Wi(n:aR)(r:bF):(bC n r).a.length=pb r.a.length n.a.length:=by simp[bC,Bv]
section
variable{K:aZ}
structure WX(n:aR)(r:bF)(k:ag)(e:bB):Prop where
 d:bw n
 c:iu r
 f:fC n=ai k
 a:n.a[k]?=ai e
 b:r.a.length=n.a.length
def n6(a:bH)(e:af az)(d:az):Prop:=∃p:aR×bF×ag×bB,e=[bp a p.1,bX a p.2.1]/\WX p.1 p.2.1 p.2.2.1 p.2.2.2/\d=match lY p.1 p.2.1 p.2.2.1 p.2.2.2 with|none=>.e|some s=>qA a s
def vh:bW ["network","flows","pump","edge","drops","steps","falls","openings","drop","other"] ["network","flows"] (bf<|aK 76):={}
def Vh(J:cq K c a):cI P w K c b 44 "least_setting" (n6 a):=by
 refine cW J.d1 vh λL I H d F C=>?_;obtain⟨⟨n,r,k,e⟩,rfl,g,rfl⟩:=C;have g:WX n r k e:=g;have l:=g.d;have t:=l.d;have o:=l.c;have y:=(eM.mp g.a).1;have v:=l.a e<|eC g.a;have G:=v.b;have E:=v.a;have B:(bC n r).a.length=n.a.length:=by rw[Wi,g.b];simp
 have j:(dR n r e).length=n.b.length:=J7 _ _ _;have f:=ad_ l (tops:=(bC n r).a);have m:(df n (bC n r).a).length<=100:=by grind[JK,df]
 unfold lY;refine aL (cB 2 (dY (aY (BS J) #[(0)] (n,aa,o,aa)) (by rw[g.f])) vh.a) ?_;by_cases i:r.a.getD k 0<=0;rw[aG i];exact aX<|bK (EH (bt (cC 0 J.T.d (1)) (2)<|js (by rwa[g.b])) aF) (λ_=>(aX<|bb eO))<|λh=>bG i<|mQ h;rw[aE i];refine aL (bK (EH (bt (cC 0 J.T.d (1)) (2)<|js ()) aF) (λh=>bG (iM h) i)<|λ_=>bV)
  (aL (cB 3 (bt (bc 1 J.T.c (0)) (2)<|gQ (by rw[cV,g.a];rfl)) vh.a)
  (aL (cB 4 (aY (t9 J) #[(0),(1)] ((n,r),aa,l,g.c,aa)) vh.a)
  (aL (cB 5 (aY (N9 J) #[(0),(4)] ((n,bC n r),aa,o,aa)) vh.a)
  (aL (cB (d:=aM<|dR n r e) 6 (aY (x9 J) #[dY (dO J.T.e<|bc 0 J.T.c (0)) (),bc 2 J.T.b (3),(5)] ((n.b.length,e.a,df n (bC n r).a),aa,t,E,f,aa)) vh.a) ?_))))
 cases A:qv (df n (bC n r).a) (dR n r e)with
 |false=>refine aX<|bK (ef<|d_<|aY (Vn J) #[(5),(6)] ((df n (bC n r).a,dR n r e),aa,m,λs p=>by rw[j];exact f s p,aa)) (λ_=>(aX<|bb eO))<|λh=>?_;nofun|true=>
  refine aL (bK (ef<|d_<|aY (Vn J) #[(5),(6)] ((df n (bC n r).a,dR n r e),aa,m,λs p=>by rw[j];exact f s p,aa)) (λh=>?_)<|λ_=>bV)
   (aL (Bt ((bC n r).a.zip n.a) (λq=>az.f [.a q.1,cv a q.2]) (λ_=>ao) (λq=>cE<|ny (dR n r e) q) (λq=>[.a<|bp a n,.a<|bX a r,.a<|.a k,.a<|cv a e,.a<|bX a<|bC n r,.a<|.d<|(df n (bC n r).a).map nL,.a<|aM<|dR n r e,.b,.a<|.a q.1,.a<|cv a q.2]) (own:=[("drop",8),("other",9)]) (jm (rr J.T.h (cC 0 J.T.d (4))<|bc 1 J.T.c (0))<|qj _ _ _ _) (gP (N:=["network","flows","pump","edge","drops","steps","falls","openings","drop","other"]) (sc:=bf<|aK 76) ⋯) ⋯ (λ_ _ _ _ _ _ _ z i=>(mf 8 9 aa vh.a)) (λ_ _ _ _ _ _ _ z i=>ji) (λ_ _ _ _ _ _ _ z i _=>(aY (D9 J) #[(9),(8),(6)] ((z.2,z.1,dR n r e),aa,by rw[j];exact(l.a z.2 (gd i).2).b,by rw[j];exact(l.a z.2 (gd i).2).a,λu x=>Go A i u x,aa))) (by left) aa vh.a 7)
   (aX<|bb<|dY (rC (bi J) #[aY (nG J) #[kx (bt (cC 0 J.T.d (4)) (2)<|js ∅)<|bt (6) (bc 1 J.T.b (3))<|js ∅,cC 1 J.T.d (4)] (_,_,aa,(y_<|SW l g.c).1,aa),(7)] (aa,aa)) ?_))
  nofun;rw[jM];show az.m a.d BG [_,az.d<|((bC n r).a.zip n.a).map λq=>cE<|ny (dR n r e) q]=qA a _;unfold qA;rw[eS];rfl
structure mJ where
 f:ag
 c:ag
 a:ag
 b:ah
 d:ah
 e:ah
abbrev oO(a:bH)(s:mJ):az:=.m a.c KP [.a (s.f:ag),.a (s.c:ag),.a (s.a:ag),.a s.b,.a s.d,.a s.e]
def cj(n:aR):bF:=rm<|n.a.map (·.l)
def v4(a:bH)(e:af az)(d:az):Prop:=∃n:aR,e=[bp a n]/\bw n/\d=bX a (cj n)
def JQ:bW ["network","edge"] ["network"] (bf<|aK 79):={}
def Kp(h:bw n):oR 20 (n.a.map (·.l)):=by
 refine(by rw[cb];have:=h.c;lia,⋯,λq a=>?_,λq a=>?_,λq a=>?_);all_goals
  obtain⟨e,f,rfl⟩:=cJ.mp a;have d:=h.a e f
 ·exact d.r
 ·exact d.t.1
 ·exact d.t.2
def Vg(J:cq K c a):cI P w K c b 43 "losses_of" (v4 a):=by refine cW J.a3 JQ λm k j d i h=>?_;obtain⟨n,rfl,g,rfl⟩:=h;refine aX<|bb<|aY (Vb J) #[dY (bJ<|km n.a (cv a) (λ_=>ao) (λe=>cE e.l) (λe=>[.a<|bp a n,.a<|cv a e]) (own:=[("edge",1)]) (gm<|bc 1 J.T.c (0)) (gP (N:=["network","edge"]) (sc:=bf<|aK 79) ⋯) ⋯ (λ_ _ _ _ _ _ _ z f=>(e_ 1 JQ.a)) (λ_ _ _ _ _ _ _ z f=>ji) (λ_ _ _ _ _ _ _ z f _=>(bc 6 J.T.b (1))) ?_ aa JQ.a) ?_] (n.a.map (·.l),aa,(20,Kp g),aa);have:=g.c;left;rw[jM,eS];rfl
end
section
variable{X:bA}{u w F H:ay}{G:cw}{t Y ρ1:af bL}{tg e S a b c T U K O:bI}{es:af bI}{J p M B P:dj}{d d1 d2:az}{L:af az}{i j:ah}{x y f:aC}{C:ax}{ns:af aC}{Z R Z1:ay->ay->Prop}{st:du}{rest W:af du}{o:lB}
def Bf:∀{ks:af ah} {g:af aH} {L:af az} (k:ah),cx F g L->ks.length=g.length->match(ks.zip L).lookup k with
  |none=>j_ ((ks.map (hJ:ah->fA)).zip g) (hJ k)=aq
  |some d=>∃v,j_ ((ks.map (hJ:ah->fA)).zip g) (hJ k)=ai v/\bY F v d
 |[],g,L,k,r,l=>aa|z::ks,[],L,k,r,l=>by simp at l|z::ks,v::g,L,k,r,l=>by
  cases r with|a0 n m=>
   rename_i d L;show match((z,d)::ks.zip L).lookup k with|none=>_|some d=>_
   rw[oe];by_cases h:k=z;subst h;rw[Xi];exact(v,by show j_ ((hJ k,v)::(ks.map hJ).zip g) (hJ k)=ai v;rw[DO aa],n);have s:=zQ.mpr h;rw[s];have A:=Bf (ks:=ks) k m ∅;have e:j_ (((z::ks).map (hJ:ah->fA)).zip (v::g)) (hJ k)=j_ ((ks.map (hJ:ah->fA)).zip g) (hJ k):=by show j_ ((hJ z,v)::(ks.map hJ).zip g) (hJ k)=_;rw[DP<|λq=>h (Sum.inl.inj q).symm]
   rwa[e]
def vz(ks:af ah)(L:af az)(k:ah):da:=((ks.zip L).lookup k).isSome
def EI(ha:aA X a (aP u w t<|.a k))(hb:aA X b (aP u w t<|.h ks L))(V:oY .In b=aw|>5)(N:dy 1 X.A|>3):cP X (.Compare a [.In] [b] J) (eg u w t<|vz ks L k):=
 qD (Pl (abN (Ea N) ha hb) V) λG H Q (F,A,q)=>(F,A,λv1 F1 H1 s A1 I=>(F1,A1,λv2 D z n m E=>by
  cases I;cases E using W6 with|a5 e r hl=>
   have h:=Bf k r hl;have g:=uX.k (k:=hJ k)<|m.fh _ _ e;refine(_,_,aa,g,_,aa,?_);unfold vz at q;cases l:(ks.zip L).lookup k with|none=>rw[l]at h q;rw[h];exact q D z (s.a0 n) m|some d=>rw[l]at h q;obtain⟨v,h,_⟩:=h;rw[h];exact q D z (s.a0 n) m))
def RF(ha:aA X a (aP u w t<|.a k))(hb:aA X b (aP u w t<|.h ks L))(V:oY .NotIn b=aw|>5)(N:dy 1 X.A|>3):cP X (.Compare a [.NotIn] [b] J) (eg u w t (!vz ks L k)):=
 qD (Pl (abM (Ea N) ha hb) V) λG H Q (F,A,q)=>(F,A,λv1 F1 H1 s A1 I=>(F1,A1,λv2 D z n m E=>by
  cases I;cases E using W6 with|a5 e r hl=>
   have h:=Bf k r hl;have g:=uX.k (k:=hJ k)<|m.fh _ _ e;refine(_,_,aa,g,_,aa,?_);unfold vz at q;cases l:(ks.zip L).lookup k with|none=>rw[l]at h q;rw[h];exact q D z (s.a0 n) m|some d=>rw[l]at h q;obtain⟨v,h,_⟩:=h;rw[h];exact q D z (s.a0 n) m))
def G8(ho:aA X a (aP u w t<|.h ks L))(he:aA X e (aP u w t<|.a k))(hf:aA X S (aP u w t d))(hr:dy 1 X.A|>3)
  (m:Je X a "get" P e S p:=by exact(rfl,rfl,rfl,rfl)):aA X (.Call (.Attribute a "get" P) [e,S] [] p) (aP u w t<|((ks.zip L).lookup k).getD d):=
 eL (abI (Ea hr) ho he hf m) λG H Q (F,A,q)=>(F,A,λv1 F1 H1 z N r1=>by
  cases r1 using W6 with|a5 D r hl=>
   refine(_,aa,.inl (_,.inl<|N.fh _ _ D),F1,N,λv2 F2 H2 s2 A2 r2=>?_);cases r2;refine(F2,A2,λv3 I E V s r3=>?_);have h:=s2.a0 V;have l:=Bf k (r.up h) hl;have g:=uX.k (k:=hJ k)<|s.fh _ _<|h _ _ D;refine(_,g,?_);cases n:(ks.zip L).lookup k with|none=>rw[n]at l q;rw[l];exact q _ I E (z.a0 h) s r3|some d'=>rw[n]at l q;obtain⟨v,l,rv⟩:=l;rw[l];exact q _ I E (z.a0 h) s rv)
def adH(n m:ag)(h:t[n]?=ai (.e<|.c ar))(q:∀u w,aA X K<|aP u w t<|.a (ki:ag))(V:bs[ki]?=ai b')(s:X.N.Nodup)(hN:X.N[n]?=ai x|>1)(hM:X.N[m]?=ai y|>1)
  (hvs:eF X.a0.scope x|>3)(N:dA x|>2)(r:fP x|>2)(I:h_ X.a0.scope y|>3)
  (hs:qe K|>4)(l:fS (.Subscript (.Name x p) K M) (ai<|.Name y B) J.line X.a0=cA aw|>1)(Q:iE X y|>3):
  cH X (.Assign [.Name y B] (.Subscript (.Name x p) K M) J) (cN (ju u w ar bs rows) t (ju u w ar bs rows)<|.a<|t.set m<|.e<|.c b'):=
 eK (pk s hM I (rY uT (ft hN hvs N r) (jv q) hs) l Q) λE G H (F,A,z,k)=>by refine(_,A.a1 n _ h,F,A,λv1 F1 H1 g A1 D=>?_);cases D;have v:=ju.a0 _ _ _ _ z g;exact(ar,_,ki,aH.c b',aa,aa,dX.of v.2.a2,gQ (by rw[cV,V];rfl),k _ F1 H1 g.ff (A1.b2 m _) v)
def adD(n:ag)(s:t[n]?=ai (.e<|.c b'))(hb:bs[ki]?=ai b')(ho:tD X op (wG g))(I:∀u w,aA X O<|aP u w t<|.a (kj:ag))(he:∀u w,aA X e<|aP u w t<|.a j)
  (hr:rows[ki]?=ai r)(hv:r[kj]?=ai v)(hN:X.N[n]?=ai x|>1)(D:eF X.a0.scope x|>3)(hd:dA x|>2)(Q:fP x|>2)
  (ha:(∀ov m new,Ai O ov m new=(do jW [new,ov,m] (qT ov m new);s_ [new,ov,m] [];cA .next))|>4):
  cH X (.AugAssign (.Subscript (.Name x p) O B) op e J) (cN (ju u w ar bs rows) t (ju u w ar bs<|rows.set ki<|r.set kj<|g v j)<|.a t):=
 eK (Iy (ft hN D hd Q) (jv I) Li (jv he) ho yy ha) λE G H (F,A,z,k)=>by
  refine(_,A.a1 n _ s,F,A,λv2 F2 H2 l A2 r2=>?_);cases r2;have z2:=ju.a0 _ _ _ _ z l;obtain⟨q1,q2,q3⟩:=z2.2.a0 ki b' r hb hr;refine(b',_,kj,aH.d v,aa,aa,dX.of q1,by rw[cV,hv];rfl,F2,A2,λv3 F3 H3 h A3 r3=>?_);cases r3;have q:=ju.a0 _ _ _ _ z2 h;obtain⟨w1,w2,w3⟩:=q.2.a0 ki b' r hb hr;have hkj:=(eM.mp hv).1;refine(v,j,aa,aa,b',_,kj,kj,aa,aa,w1,?_,?_);·unfold lP;rw[cb,aG (_),aG ∅];rfl
  ·have e3:(r.map aH.d).set kj (aH.d<|g v j)=(r.set kj<|g v j).map aH.d:=by nofun
   rw[e3];exact k G F3 _ (l.ff.a0 h.ff) (A3.b0 w2) (q.1.wr w2 w3,q.2.wr hb hr _)
def Q_(n:ag)(D:t[n]?=ai (.e<|.c ar))(V:∀u w,aA X K<|aP u w t<|.a (ki:ag))(Q:∀u w,aA X O<|aP u w t<|.a (kj:ag))(he:∀u w,aA X e<|aP u w t<|.a j)
  (hr:rows[ki]?=ai r)(hv:kj<r.length)(hN:X.N[n]?=ai x|>1)(I:eF X.a0.scope x|>3)(hd:dA x|>2)(g0:fP x|>2)
  (hs:qe K|>4)
  (ha:(∀v,kE (.Subscript (.Subscript (.Name x p) K M) O B) X.a0 v=(do
   let N<-jW [v]<|bN (.Subscript (.Name x p) K M) X.a0
   let s<-jW [v,N] (bN O X.a0)
   we B
   jW [v,N,s] (qT N s v)
   s_ [v,N,s] []))|>4)
  (hsw:Hs [.Subscript (.Subscript (.Name x p) K M) O B] e J.line X.a0=cA aw|>1)(hw:Ht [.Subscript (.Subscript (.Name x p) K M) O B] e X.a0=cA aq|>1)
  (h1:(gL [.Subscript (.Subscript (.Name x p) K M) O B] X.a0).map (·.2)=[kE (.Subscript (.Subscript (.Name x p) K M) O B) X.a0]|>1):
  cH X (.Assign [.Subscript (.Subscript (.Name x p) K M) O B] e J) (cN (ju u w ar bs rows) t (ju u w ar bs<|rows.set ki<|r.set kj j)<|.a t):=
 eK (Iz (jv he) (IC (rY uT (ft hN I hd g0) (jv V) hs) (jv Q) yy ha) hsw hw h1) λE G H (F,A,z,k)=>by
  refine(F,A,λv0 g1 g2 l A0 r0=>?_);cases r0;refine(_,A0.a1 n _ D,g1,A0,λv1 F1 H1 h A1 r1=>?_);cases r1;have z1:=ju.a0 _ _ _ _ (ju.a0 _ _ _ _ z l) h;obtain⟨m,hb⟩:∃m,bs[ki]?=ai m:=(_,cK (by rw[z.2.a1];exact(eM.mp hr).1));refine(ar,_,ki,aH.c m,aa,aa,dX.of z1.2.a2,gQ (by rw[cV,hb];rfl),F1,A1,λv2 F2 H2 g A2 r2=>?_);cases r2;have q:=ju.a0 _ _ _ _ z1 g;obtain⟨w1,w2,w3⟩:=q.2.a0 ki m r hb hr;refine(m,_,kj,kj,aa,aa,w1,?_,?_);unfold lP;rw[cb,aG (by ac_rfl),aG (by ac_rfl)];rfl;have e3:(r.map aH.d).set kj (aH.d j)=(r.set kj j).map aH.d:=by nofun
  rw[e3];exact k G F2 _ (l.ff.a0<|h.ff.a0 g.ff) (A2.b0 w2) (q.1.wr w2 w3,q.2.wr hb hr _)
def Tm{l:af ax}(h:l.Nodup)(g:b'∉l):(l.set k b').Nodup:=by
 induction l generalizing k with|nil=>simp|cons a l n=>
  obtain⟨r,m⟩:=qX.mp h;cases k with|zero=>exact qX.mpr (λq=>g<|cO _ q,m)|succ k=>left
def adu(n:ag)(hρ:t[n]?=ai (.e<|.c ar))(g7:∀u w,aA X K<|aP u w t<|.a (ki:ag))(he:∀u w,aA X e<|lV u w t<|row.map az.a)(h3:ki<rows.length)
  (h2:∀g,bg X rest<|cN (ju u w ar (bs.set ki g)<|rows.set ki row) t R o)
  (hN:X.N[n]?=ai x|>1)(g6:eF X.a0.scope x|>3)(hd:dA x|>2)(g9:fP x|>2)
  (ha:(∀v,kE (.Subscript (.Name x p) K M) X.a0 v=(do
   let ov<-jW [v]<|bN (.Name x p) X.a0
   let iv<-jW [v,ov] (bN K X.a0)
   we M
   jW [v,ov,iv] (qT ov iv v)
   s_ [v,ov,iv] []))|>4)
  (hsw:Hs [.Subscript (.Name x p) K M] e J.line X.a0=cA aw|>1)(hw:Ht [.Subscript (.Name x p) K M] e X.a0=cA aq|>1)
  (h1:(gL [.Subscript (.Name x p) K M] X.a0).map (·.2)=[kE (.Subscript (.Name x p) K M) X.a0]|>1):
  bg X (.Assign [.Subscript (.Name x p) K M] e J::rest) (cN (ju u w ar bs rows) t R o):=by
 have g8:aA X e λG H Q=>∃F,bE F H F H G t/\∀g V D,cZ F H V D->bE V D V D G t->D g=ai (.a<|row.map aH.d)->V g=aq->H g=aq->Q (.c g) D:=λg3 s G H Q I (F,A,q)=>he F H g3 s G H Q I (F,A,λg vs V D s' A' g1 g2 m g4 g5=>by have hv:=g5.a7;subst hv;exact q g V D A'.tocZ (A'.a4 λi L=>A.a2) g1 g2 m);refine fg (eN (Iz g8 (IC (ft hN g6 hd g9) (jv g7) yy ha) hsw hw h1)<|oS (ι:=ax) (Pp:=λ_=>eA) λg _=>h2 g) λE G H (F,A,z,k)=>?_;refine(F,A,λg F1 H1 g0 A1 g1 g2 m=>?_);refine(_,A1.a1 n _ hρ,F1,A1,λv2 F2 H2 l A2 r2=>?_);cases r2;have h:=ju.a0 _ _ _ _ (ju.a0 _ _ _ _ z g0) l;have h4:=z.1.hh.a1 m;have h6:=l.hh _ _ g1;have h5:=l.nf g () g2;have h0:g≠ar:=λq=>by subst q;rw[z.2.a2]at m;cases m
 have nb:g∉bs:=λhb=>by obtain⟨N,hj,e⟩:=iC hb;have hr:rows[N]?=ai (rows[N]'(by rwa[<-z.2.a1])):=cK _;have:=(z.2.a0 N g _ (by rw[<-e];exact cK hj) hr).1;rw[this]at m;cases m
 refine(ar,_,ki,ki,aa,aa,h.2.a2,?_,g,dU,F2,A2.b0 h.2.fa,(h.1.wr h.2.fa h.2.ha,?_),mB (g0.ff.a0 l.ff) k);unfold lP;rw[cb,h.2.a1,aG (_),aG ∅];rfl;refine(by rw[bO,n_],h.2.fa,h.2.ha,Tm h.2.nd nb,λq=>?_,by rw[j',j'];exact h.2.a1,λN c r q1 q2=>?_);rcases Az q with q|q;exact h.2.nm q;symm;by_cases hj:ki=N;grind?[aO];rw[hW hj]at q1 q2;obtain⟨w1,w2,w3⟩:=h.2.a0 N c r q1 q2;have nc:c≠ar:=λq=>h.2.nm (by rw[<-q];exact eC q1);simp[*,aO]
def Bh(Z:ay->ay->Prop)(t:af bL)(k:da):iR:=λG H Q=>∃F,bE F H F H G t/\Z F H/\∀h g,cZ F H h g->bE h g h g G t->Q k g
def adz(hz:oP Z)(l:cP X c (Bh Z t k))(n:k=ao->bg X as (cN Z t R o))(m:k=aw->bg X bs (cN Z t R o)):cH X (.If c as bs J) (cN Z t R o):=by
 cases k with|true=>exact eK (rX l (n aa) lM) λE G H (F,A,z,k)=>(F,A,z,λg q r h=>om (g,h,hz _ _ _ _ z r,mB r.ff k))|false=>exact eK (rX l lM<|m aa) λE G H (F,A,z,k)=>(F,A,z,λg q r h=>m_ (g,h,hz _ _ _ _ z r,mB r.ff k))
def ado(hz:oP Z)(h:∀u w,cP X a<|eg u w t aw)(D:cP X b (Bh Z t k)):cP X (.BoolOp .Or [a,b] J) (Bh Z t k):=by have E:cP X a λG H Q=>∃F,bE F H F H G t/\∀m g,cZ F H m g->bE m g m g G t->Q aw g:=λl s G H Q I (F,A,q)=>h F H l s G H Q I (F,A,λm g k n=>q m g n.tocZ<|n.a4 λi L=>A.a2);exact(ub (AK E<|Iu D) λG H Q (F,A,z,q)=>(F,A,λg l r k=>m_ (g,k,hz _ _ _ _ z r,λV N v h=>q V N (r.a4 v) h))).pt
def adq(n:ag)(m:t[n]?=ai (.e<|.c ar))(I:∀u w,aA X K<|aP u w t<|.a (ki:ag))(E:∀u w,aA X O<|aP u w t<|.a (kj:ag))(he:∀u w,aA X e<|aP u w t<|.a j)
  (hr:rows[ki]?=ai r)(hv:r[kj]?=ai v)(hN:X.N[n]?=ai x|>1)(s:eF X.a0.scope x|>3)(hd:dA x|>2)(N:fP x|>2)
  (hs:qe K|>4)(D:qe O|>4):cP X (.Compare (.Subscript (.Subscript (.Name x p) K M) O B) [.Eq] [e] J) (Bh (ju u w ar bs rows) t<|aT<|v=j):=
 qD (yz AN (rY uT (rY uT (ft hN s hd N) (jv I) hs) (jv E) D) (jv he)<|D' _) λG H Q (F,A,z,q)=>by refine(_,A.a1 n _ m,F,A,λv1 F1 H1 h A1 r1=>?_);cases r1;have V:=ju.a0 _ _ _ _ z h;obtain⟨k,hb⟩:∃k,bs[ki]?=ai k:=(_,cK (by rw[z.2.a1];exact(eM.mp hr).1));refine(ar,_,ki,aH.c k,aa,aa,dX.of V.2.a2,gQ (by rw[cV,hb];rfl),F1,A1,λv2 F2 H2 g A2 r2=>?_);cases r2;have z2:=ju.a0 _ _ _ _ V g;obtain⟨w1,w2,w3⟩:=z2.2.a0 ki k r hb hr;refine(k,_,kj,aH.d v,aa,aa,dX.of w1,gQ (by rw[cV,hv];rfl),F2,A2,λv3 F3 H3 l A3 r3=>?_);cases r3;refine(aa,aT<|v=j,?_,q F3 H3 ((h.a4 g).a4 l) A3);have e:aT (aH.d v=aH.d j)=aT (v=j):=();rw[e]
end
def kO:af ah->aJ (af<|ah×ah)
 |[]=>ai []|a::b::r=>if b<=0 then aq else(kO r).map λl=>(a,b)::l
 |[_]=>aq
def fM(l:af ah):aJ bF:=(kO l).map gG
def tL(l:af ah)(i:ag):ah×ah:=(l.getD (2*i) 0,l.getD (2*i+1) 0)
def mC(l:af ah)(i:ag):da:= !aT (l.getD (2*i+1) 0<=0)
def Tv:∀(m:ag) (l:af ah),l.length=2*m->kO l=if(bP m).all (mC l)=ao then ai ((bP m).map<|tL l)else aq
 |0,l,h=>by have:l=[]:=DL ();subst this;rfl|m+1,[],h=>by simp at h|m+1,[a],h=>by simp at h;lia|m+1,a::b::r,h=>by
  have e:=Tv m r (by left);have o:∀i,mC (a::b::r) (i+1)=mC r i:=λi=>by unfold mC;have:2*(i+1)+1=(2*i+1)+1+1:=aa;rw[this];rfl
  have n:∀i,tL (a::b::r) (i+1)=tL r i:=λi=>by unfold tL;have g:2*(i+1)+1=(2*i+1)+1+1:=aa;have f:2*(i+1)=(2*i)+1+1:=aa;rw[g,f];rfl
  rw[Ot,AF,wB,eE,eS];have k:(mC (a::b::r)∘Zz)=mC r:=GH o;have j:(tL (a::b::r)∘Zz)=tL r:=GH n;rw[k,j];unfold kO;rw[e];by_cases c:b<=0;rw[aG c];simp[mC,c];rw[aE c];have:mC (a::b::r) 0=ao:=by simp[mC];nofun
  rw[this,MC];by_cases d:(bP m).all (mC r)=ao;rw[aG d,aG d];rfl;simp[*]
def Tu:∀(m:ag) (l:af ah),l.length=2*m+1->kO l=aq
 |0,[a],_=>aa|0,[],h=>by simp at h|0,a::b::r,h=>by simp at h|m+1,[],h=>by simp at h|m+1,[a],h=>by simp at h|m+1,a::b::r,h=>by unfold kO;rw[Tu m r (by left)];split<;>rfl
section
variable{K:aZ}
def N3(g:bH)(a:af az)(d:az):Prop:=∃l:af ah,a=[aM l]/\l.length<=40/\(∀z∈l,aI 60 z)/\d=match fM l with|none=>.e|some r=>bX g r
def Ke:bW ["numbers","ratios","place"] ["numbers"] (bf<|aK 21):={}
def BR(J:cq K t g):cI P w K t j 43 "row_from" (N3 g):=by
 refine cW J.q Ke λB A y d v u=>?_;obtain⟨l,rfl,x,f,rfl⟩:=u;by_cases s:l.length%2=0
 ·obtain⟨m,p⟩:∃m,l.length=2*m:=(l.length/2,!_);refine aL (bK (iH (LN (dO J.T.e (0)) aF ⋯) aF) (λh=>by simp at h;nofun)<|λ_=>bV)<|aL (ia 1 (cQ aD) Ke.a) ?_;refine yZ (yY (bP m) (λi=>az.a ((2*i:ag):ah)) (λC=>[.a<|aM l,.c<|(C.map<|tL l).map cE,.b]) (λ_ i=>if mC l i=ao then aq else ai .e) (λC i=>[.a<|aM l,.c<|(C.map<|tL l).map cE,.a<|.a ((2*i:ag):ah)]) (jm (pv J.T.o (dO J.T.e (0)) ()) (by left)) (λC z c f=>e_ 2 Ke.a) (λC i c f=>?_) aa fT) ?_
  ·have n:i<m:=by have:i∈bP m:=∅;(simp at*;nofun)
   have o:C.length<=m:=by have:C.length<=(bP m).length:=∅;(simp at*;nofun)
   have a:fZ (l.map az.a) (((2*i:ag):ah)+1)=ai (.a<|l.getD (2*i+1) 0):=js (k:=2*i+1) (by left);cases b:mC l i with|true=>refine aL (bK (EH (bt (0) (kx (2) aF) a) aF) (λh=>by unfold mC at b;rw[h]at b;cases b)<|λ_=>bV) ?_;refine fj (aL (kf 1 aa (kv #[bt (0) (2)<|js ∅,bt (0) (kx (2) aF) a]) (by left)) bV) ?_;rw[eV,eV];exact .a0 (.a0<|.no .a2)|false=>exact aX<|bK (EH (bt (0) (kx (2) aF) a) aF) (λ_=>(aX<|bb eO)) (λh=>by unfold mC at b;rw[h]at b;cases b)
  ·rw[E_];unfold fM;rw[Tv m l p];cases e:(bP m).all (mC l)with
   |false=>exact aa|true=>
    refine iI 1 aa<|aX<|bb<|aY (FH J) #[(1)] ((bP m).map<|tL l,aa,(60,?_),aa);refine(by rw[cb,uH];left,⋯,λq D=>?_,λq D=>?_,λq D=>?_);all_goals
     obtain⟨i,n,rfl⟩:=cJ.mp D;have r:i<m:=∅
    ·have:=mw.mp e i n;unfold mC at this;show 0<l.getD (2*i+1) 0;nofun
    ·exact f _<|jo ∅
    ·exact f _<|jo (by nofun;lia)
 ·have:fM l=aq:=by unfold fM;rw[Tu (l.length/2) l !_];rfl
  rw[this];exact aX<|bK (iH (LN (dO J.T.e (0)) aF ⋯) aF) (λ_=>(aX<|bb eO)) (λh=>by simp at h;left)
def KV:bW ["self","number","start","end","amount","loss","room"] ["self","number","start","end","amount","loss","room"] (bf<|rZ (aK 78) 0):={}
def Rs(h:l.length=6):∃a b c d e f,l=[a,b,c,d,e,f]:=Q6 (P:=λl=>∃a b c d e f,l=[a,b,c,d,e,f]) (λ_ _ _ _ _ _=>(_,_,_,_,_,_,aa)) l h
def Uq(J:cq K t g):vH P w K t j 40 "Stream" g.c KP (Mp 6):=by refine Fp J.a7 KV (λ_ _ _ _ _ _=>Q7 λ_ _ _ _ _ _ _=>aa) (λx d h=>h.1) λf y A i s H E Q p c N F x fs L q v M u l r=>?_;obtain⟨k,rfl⟩:=q;obtain⟨I,G,D,C,B,z,rfl⟩:=Rs<|l.a1.trans k;refine(_,eN (ik (fI 0) (fI 1) aa)<|eN (ik (fI 0) (fI 2) aa)<|eN (ik (fI 0) (fI 3) aa)<|eN (ik (fI 0) (fI 4) aa)<|eN (ik (fI 0) (fI 5) aa)<|uM<|ik (fI 0) (fI 6) aa,?_);refine(_,aa,_,aa,p,g.c,c,[],aa,v,J.T.f.a,J.T.f.b _ ⋯,⋯,?_);refine(_,aa,_,aa,p,g.c,c,_,aa,bO,J.T.f.a,J.T.f.b _ ⋯,(by show 1<1000;decide),?_);rw[nv,eh ⋯,nv];refine(_,aa,_,aa,p,g.c,c,_,aa,bO,J.T.f.a,J.T.f.b _ ⋯,(by show 2<1000;decide),?_);rw[eh ⋯,eh ⋯,nv];refine(_,aa,_,aa,p,g.c,c,_,aa,bO,J.T.f.a,J.T.f.b _ ⋯,(by show 3<1000;decide),?_);rw[eh ⋯,eh ⋯,eh ⋯,nv];refine(_,aa,_,aa,p,g.c,c,_,aa,bO,J.T.f.a,J.T.f.b _ ⋯,(by show 4<1000;decide),?_);rw[eh ⋯,eh ⋯,eh ⋯,eh ⋯,nv];refine(_,aa,_,aa,p,g.c,c,_,aa,bO,J.T.f.a,J.T.f.b _ ⋯,(by show 5<1000;decide),?_);rw[eh ⋯,eh ⋯,eh ⋯,eh ⋯,eh ⋯];refine r F _ [I,G,D,C,B,z] (bD.a2 _) (λb o e a=>by rwa[aO a,aO a,aO a,aO a,aO a,aO a]) (λb o e=>?_) (λ_ _ n=>n) ?_ aa l;have a:b≠p:=();rw[aO a,aO a,aO a,aO a,aO a,aO a];exact u _ _ e;rw[bO];rfl
def jF(a b:af ah)(q:ag×bB):af mJ:=(if 0<a.getD q.1 0 then [(q.1,q.2.b,q.2.a,a.getD q.1 0,b.getD q.1 0,q.2.k)]else [])++(if a.getD q.1 0<0 then [(q.1,q.2.a,q.2.b,-a.getD q.1 0,b.getD q.1 0,q.2.k)]else [])
def iU(n:aR)(b a:af ah):af mJ:=(bj 0 n.a).flatMap<|jF b a
def B6(g:bH)(a:af az)(d:az):Prop:=∃p:aR×bF×bF,a=[bp g p.1,bX g p.2.1,bX g p.2.2]/\p.1.a.length<=14/\p.2.1.a.length=p.1.a.length/\p.2.2.a.length=p.1.a.length/\d=.d ((iU p.1 p.2.1.a p.2.2.a).map<|oO g)
def ad7(b a:af ah)(q:ag×bB):(jF b a q).length<=1:=by unfold jF;split;rw[aE !_];exact wx aa;split<;>exact wx aa
def JJ(b a:af ah):∀(l:af (ag×bB)),(l.flatMap<|jF b a).length<=l.length
 |[]=>b_ _|q::l=>by rw[uK,hU];have:=ad7 b a q;have:=JJ b a l;rw[ij];lia
def Bn:bW ["network","flows","losses","streams","number","edge","amount","loss"] ["network","flows","losses"] (bf<|aK 80):={}
def U'(J:cq K t g):cI P w K t j 42 "streams_of" (B6 g):=by
 refine cW J.Q Bn λA y x d u s=>?_;obtain⟨⟨n,fr,a⟩,rfl,f,k,i,rfl⟩:=s;have f:n.a.length<=14:=f;have k:fr.a.length=n.a.length:=k;have i:a.a.length=n.a.length:=i;refine aL (ia 3 (cQ aD) Bn.a)<|aL (jh (bj 0 n.a) (λq=>az.f [.a q.1,cv g q.2]) (λB=>[.a<|bp g n,.a<|bX g fr,.a<|bX g a,.c<|(B.flatMap<|jF fr.a a.a).map<|oO g,.b,.b,.b,.b]) (λB q=>[.a<|bp g n,.a<|bX g fr,.a<|bX g a,.c<|(B.flatMap<|jF fr.a a.a).map<|oO g,.a<|.a q.1,.a<|cv g q.2,.b,.b]) (jm (FD J.T.p<|bc 1 J.T.c (0))<|xy _ 0 _) (λB z c m=>(mf 4 5 aa Bn.a)) (λB q c m=>?_) aa fT)<|iI 3 aa<|aX<|bb (3);obtain⟨r,p⟩:=LD m;have v:q.1<n.a.length:=(by left);have o:(B.flatMap<|jF fr.a a.a).length<=100:=by have:=JJ fr.a a.a B;lia
 refine aL (cB 6 (bt (cC 0 J.T.d (1)) (4)<|js ∅) Bn.a)<|aL (cB 7 (bt (cC 0 J.T.d (2)) (4)<|js ∅) Bn.a) ?_;have e:(B++[q]).flatMap (jF fr.a a.a)=B.flatMap (jF fr.a a.a)++jF fr.a a.a q:=();rw[e];by_cases b:0<fr.a.getD q.1 0;refine fj (aL (bK (jE (6) aF) (λ_=>(aL (kf 3 aa (rC (Uq J) #[(4),bc 1 J.T.b (5),bc 2 J.T.b (5),(6),(7),bc 7 J.T.b (5)] (aa,aa)) (by nofun;lia)) bV))<|λh=>bG b<|mQ h)<|aL (bK (sg (6) aF) (λh=>bG (iM h) !_)<|λ_=>bV) bV) ?_;unfold jF;rw[aG b,aE (by grind?),eV];exact .a0<|.a0<|.a0<|.a0<|.no<|.no<|.no<|.no .a2;by_cases l:fr.a.getD q.1 0<0;refine fj (aL (bK (jE (6) aF) (λh=>bG (iM h) b)<|λ_=>bV)<|aL (bK (sg (6) aF) (λ_=>(aL (kf 3 aa (rC (Uq J) #[(4),bc 2 J.T.b (5),bc 1 J.T.b (5),tW (6),(7),bc 7 J.T.b (5)] (aa,aa)) ()) bV))<|λh=>bG l<|mQ h) bV) ?_;unfold jF;rw[aE b,aG l,eV];exact .a0<|.a0<|.a0<|.a0<|.no<|.no<|.no<|.no .a2;refine fj (aL (bK (jE (6) aF) (λh=>bG (iM h) b)<|λ_=>bV)<|aL (bK (sg (6) aF) (λh=>bG (iM h) l)<|λ_=>bV) bV) ?_;unfold jF;rw[aE b,aE l,kH,kH];exact .a0<|.a0<|.a0<|.a0<|.no<|.no<|.no<|.no .a2
end
section
variable{X:bA}{d f:ay}{a:af bL}{Z m:ay->ay->Prop}{b:af du}{o:lB}{e u r:bI}{t p w l:dj}{j:ah}{x:aC}
def Jt{Z:ι->ay->ay->Prop}(h:∀i,bg X b<|cN (Z i) a m o):bg X b (cN (λF H=>∃i,Z i F H) a m o):=λc s g H E I (F,A,(i,z),k)=>h i c s g H E I (F,A,z,k)
def adC(hp:∀F H,Z F H->q)(h:q->bg X b (cN Z a m o)):bg X b (cN Z a m o):=λc s g H E I (F,A,z,k)=>h (hp _ _ z) c s g H E I (F,A,z,k)
def adp(h:∀d f,cP X c<|eg d f a k):cP X c (Bh Z a k):=λg s v H Q I (F,A,z,q)=>h F H g s v H Q I (F,A,λB y C n=>q B y n.tocZ<|n.a4 λi D=>A.a2)
def Jv(n:ag)(z:gI N M rows)(h:ki<N)(c:kj<M)(k:a[n]?=ai (.e<|.c b'))(D:bs[ki]?=ai b')(A:tD X op (wG g))(s:∀d f,aA X r<|aP d f a<|.a (kj:ag))(B:∀d f,aA X e<|aP d f a<|.a j)
  (hN:X.N[n]?=ai x|>1)(q:eF X.a0.scope x|>3)(C:dA x|>2)(y:fP x|>2)
  (ha:(∀ov i new,Ai r ov i new=(do jW [new,ov,i] (qT ov i new);s_ [new,ov,i] [];cA .next))|>4):
  cH X (.AugAssign (.Subscript (.Name x p) r l) op e t) (cN (ju d f ar bs rows) a (ju d f ar bs<|nB rows ki kj λv=>g v j)<|.a a):=
 adD n k D A s B (z.at h c).1 (z.at h c).2 hN q C y ha
end
def gw(n:aR)(k:ah):aJ ah:=(n.d.zip n.e).lookup k
def xk(size:ag)(a:ah)(b:af (af ah))(s:mJ):af (af ah):=nB (nB (nB b s.a s.a (· +s.b*a)) s.a s.c (· - s.b*(a- s.d))) s.a size (· +s.b*s.d*s.e)
def mD(size:ag)(a:ah)(l:af mJ):af (af ah):=l.foldl (xk size a)<|cg size<|cg (size+1) 0
def xt(n:aR)(a:ah)(k:ag):af ah:=((cg (n.b.length+1) 0).set k a).set n.b.length<|a*(gw n k).getD 0
def kQ(n:aR)(b:ah)(a:af (af ah))(k:ag):af (af ah):=if(gw n k).isSome=ao\/(a.getD k []).getD k 0=0 then a.set k (xt n b k)else a
def Fq(n:aR)(l:af mJ)(a:ah):af (af ah):=(bP n.b.length).foldl (kQ n a)<|mD n.b.length a l
structure Gv(n:aR)(l:af mJ)(whole:ah):Prop where
 f:l.length<=100
 a:∀s∈l,s.c<n.b.length/\s.a<n.b.length
 e:∀s∈l,aI 30000 s.b
 d:∀s∈l,aI 310 s.d
 b:∀s∈l,aI 20 s.e
 c:aI 300 whole
def Fw(f:ah->az):∀(c b:af ah) (k:ah),(c.zip<|b.map f).lookup k=((c.zip b).lookup k).map f
 |[],_,_=>aa|_::_,[],_=>aa|a::c,v::b,k=>by
  show qY k ((a,f v)::c.zip (b.map f))=(qY k ((a,v)::c.zip b)).map f;rw[oe,oe];cases h:(k==a)with
  |true=>rfl|false=>exact Fw f c b k
def zp(n:aR)(k:ah):vz n.d (n.e.map az.a) k=(gw n k).isSome:=by simp[vz,gw,Fw]
def S9(n:aR)(k:ah):((n.d.zip<|n.e.map az.a).lookup k).getD (.a 0)=.a ((gw n k).getD 0):=by simp_all[gw,Fw]
def BK(n:aR)(b:ah):∀(l:af mJ) (a:af (af ah)),(∀s∈l,s.a<n.b.length)->gI n.b.length (n.b.length+1) a->gI n.b.length (n.b.length+1) (l.foldl (xk n.b.length b) a)
 |[],a,_,h=>h|s::l,a,d,h=>by have c:=d s (_);exact BK n b l _ (λq a=>d q<|cO _ a)<|((h.a0 c _).a0 c _).a0 c _
def Bl(n m:ag):gI n m (cg n<|cg m (0:ah)):=((),λr a=>by rw[(Ov.mp a).2];simp)
def i8(n:aR)(a:ah)(k:ag):(xt n a k).length=n.b.length+1:=by simp[xt]
def gI.a4(h:gI n m rows)(k:ag)(a:r.length=m):gI n m (rows.set k r):=by refine(by rw[j'];exact h.a1,λq b=>?_);rcases Az b with b|b;exact h.a2 _ b;nofun
def FU(n:aR)(b:ah):∀(l:af ag) (a:af (af ah)),gI n.b.length (n.b.length+1) a->gI n.b.length (n.b.length+1) (l.foldl (kQ n b) a)
 |[],a,h=>h|k::l,a,h=>by refine FU n b l _ ?_;unfold kQ;split;exact h.a4 k<|i8 _ _ _;symm
section
variable{K:aZ}
def x4(b:bH)(a:af az)(d:az):Prop:=∃p:aR×af mJ×ah,a=[bp b p.1,.d<|p.2.1.map<|oO b,.a p.2.2]/\bw p.1/\Gv p.1 p.2.1 p.2.2/\d=.d ((Fq p.1 p.2.1 p.2.2).map aM)
def wZ:bW ["network","streams","whole","size","rows","junction","stream","row"] ["network","streams","whole"] (bf<|aK 81):={}
def z9(J:cq K f b):cI P w K f c 40 "mixings" (x4 b):=by
 refine cW J.m wZ λy x ds d hr hR=>?_;obtain⟨⟨n,o,g⟩,rfl,M,u,rfl⟩:=hR;have M:bw n:=M;have u:Gv n o g:=u;have Y:=M.d;refine aL (cB 3 (dO J.T.e<|bc 0 J.T.c (0)) wZ.a)<|Ju (λ_ _ h=>h) ?_;rw[cb];refine Rc 4 (bP n.b.length) (λk=>az.a k) (cg (n.b.length+1) 0) (λk=>[.a<|bp b n,.a<|.d<|o.map<|oO b,.a<|.a g,.a<|.a n.b.length,.b,.a<|.a k,.b,.b]) (own:=[("junction",5)]) (λy x=>zo J.T.o (3) !_) (gP (N:=["network","streams","whole","size","rows","junction","stream","row"]) (sc:=bf<|aK 81) ⋯) ⋯ (λ_ _ _ _ _ _ _ z G=>(e_ 5 wZ.a)) (λ_ _ _ _ _ _ _ z G=>?_) (by left) aa wZ.a<|λB T=>?_;exact pJ (tQ (bJ<|cQ #[aF]) (dY (kx (3) aF) aa) !_)<|vu _ _;rw[uH];refine fu (Js o (oO b) (λ_=>[.a<|bp b n,.a<|.d<|o.map<|oO b,.a<|.a g,.a<|.a n.b.length,.e<|.c B,.b,.b,.b]) (λD=>ju y x B T<|mD n.b.length g D) (λD=>ju.a0) (λD q=>[.a<|bp b n,.a<|.d<|o.map<|oO b,.a<|.a g,.a<|.a n.b.length,.e<|.c B,.b,.a<|oO b q,.b]) (λy x=>gm (1)) (λy x D z s G=>e_ 6 wZ.a) (λD q s G=>?_) aa fT) ?_;have hq:q∈o:=∅;obtain⟨X,t⟩:=u.a q hq;have ha:=u.e q hq;have C:=u.d q hq;have Q:=u.b q hq;have hw:=u.c;have E:gI n.b.length (n.b.length+1) (mD n.b.length g D):=BK n g D _ (λO I=>(u.a O ∅).2)<|Bl _ _;have U:=E.a0 (j:=q.a) t (· +q.b*g);have W:=U.a0 (j:=q.c) t (· - q.b*(g- q.d));refine adC (q:=q.a<T.length) (λF H z=>by rwa[z.2.a1,E.a1]) λA=>?_;refine Ex (Bd (fu (adH 4 7 aa (λ_ _=>cC 2 J.T.f (6)) (cK A) wZ.a)<|fu (Jv 7 E t (_) aa (cK A) uU (λ_ _=>cC 2 J.T.f (6))<|λ_ _=>fR (cC 3 J.T.f (6)) (2)<|eD ha hw ⋯)<|fu (Jv 7 U t (_) aa (cK A) AR (λ_ _=>cC 1 J.T.f (6))<|λ_ _=>fR (cC 3 J.T.f (6)) (sy (2)<|cC 4 J.T.f (6))<|eD ha (hw.a4 C) ⋯)<|fu (Jv (kj:=n.b.length) 7 W t (_) aa (cK A) uU (λ_ _=>(3))<|λ_ _=>fR (fR (cC 3 J.T.f (6)) (cC 4 J.T.f (6))<|eD ha C ⋯) (cC 5 J.T.f (6))<|eD (ha.a1 C) Q ⋯) ou)<|λF H z=>?_)<|.a0<|.a0<|.a0<|.a0<|.a0<|.no<|.no<|.no .a2;have e:mD n.b.length g (D++[q])=xk n.b.length g (mD n.b.length g D) q:=by simp[mD]
 rwa[e];have V:gI n.b.length (n.b.length+1) (mD n.b.length g o):=BK n g o _ (λO I=>(u.a O I).2)<|Bl _ _;refine Rb (Z1:=λF H=>∃T,ju y x B T (([]:af ag).foldl (kQ n g)<|mD n.b.length g o) F H) ?_<|λF H z=>(T,z);refine fu (Js (bP n.b.length) (λk=>az.a k) (λ_=>[.a<|bp b n,.a<|.d<|o.map<|oO b,.a<|.a g,.a<|.a n.b.length,.e<|.c B,.b,.b,.b]) (λD F H=>∃T,ju y x B T (D.foldl (kQ n g)<|mD n.b.length g o) F H) (λD F H F' H' (T,z) r=>(T,ju.a0 _ _ _ _ z r)) (λD k=>[.a<|bp b n,.a<|.d<|o.map<|oO b,.a<|.a g,.a<|.a n.b.length,.e<|.c B,.a<|.a k,.b,.b]) (λy x=>zo J.T.o (3) (by left)) (λy x D z s G=>e_ 5 wZ.a) (λD k s G=>?_) aa fT)<|Jt λT=>ni<|Ra 4 aa;have Z:k<n.b.length:=by have:k∈bP n.b.length:=∅;(simp at*;nofun)
 have E:=FU n g D _ V;have e:(D++[k]).foldl (kQ n g) (mD n.b.length g o)=kQ n g (D.foldl (kQ n g)<|mD n.b.length g o) k:=();rw[e];generalize D.foldl (kQ n g) (mD n.b.length g o)=i at E ⊢;refine Jt λT=>Ex (ρ1:=[.a<|bp b n,.a<|.d<|o.map<|oO b,.a<|.a g,.a<|.a n.b.length,.e<|.c B,.a<|.a k,.b,.b]) ?_<|.a0<|.a0<|.a0<|.a0<|.a0<|.no<|.no<|.no .a2;have L:=E.at (j:=k) Z (_);refine fu (adz ju.a0 ?_ (λp=>adu 4 aa (λ_ _=>(5)) (row:=cg (n.b.length+1) 0) (λ_ _=>pJ (tQ (bJ<|cQ #[aF]) (dY (kx (3) aF) aa) !_)<|vu _ _) () λb'=>
  Bd (fu (Q_ 4 aa (λ_ _=>(5)) (λ_ _=>(5)) (λ_ _=>(2)) (mY ()) (by simp;lia))
   (fu (Q_ 4 aa (λ_ _=>(5)) (λ_ _=>(3)) (λ_ _=>fR (2) (dY (G8 (bc 2 J.T.c (0)) (5) aF)<|S9 n k)<|eD u.c (m:=20) ?_ ⋯) (mY (by grind?)) ()) ou)) (λF H z=>(_,by
    have S:kQ n g i k=i.set k (xt n g k):=by unfold kQ;rw[aG<|iM p]
    rw[HW,HW]at z;rwa[S]))) (λp=>Bd ou (λF H z=>(T,by
    have S:kQ n g i k=i:=by unfold kQ;rw[aE<|mQ p]
    rwa[S])))) ou
 by_cases A:(gw n k).isSome=ao;rw[vL<|o_ A];exact adp λy x=>(rj<|cX (EI (5)<|bc 2 J.T.c (0)) (by rw[zp,A])).pt;have R:=Bool.eq_false_iff.mpr A;have e2:aT ((gw n k).isSome=ao\/(i.getD k []).getD k 0=0)=aT ((i.getD k []).getD k 0=0):=();rw[e2];exact ado ju.a0 (λy x=>cX (EI (5)<|bc 2 J.T.c (0)) (by rw[zp,R]))<|adq 4 aa (λ_ _=>(5)) (λ_ _=>(5)) (λ_ _=>aF) L.1 L.2;unfold gw;cases hl:(n.d.zip n.e).lookup (k:ah)with
 |none=>exact aI.a2|some v=>
  have:v∈n.e:=by
   have:((k:ah),v)∈n.d.zip n.e:=by
    have g0:∀(l:af (ah×ah)),l.lookup (k:ah)=ai v->((k:ah),v)∈l:=by
     intro l;induction l with
     |nil=>intro h;cases h
     |cons a l ih=>grind
    symm
   exact(gd this).2
  exact M.f v this
end
def Fv(n:aR):(cj n).a.length=n.a.length:=by unfold cj rm;simp
def tS(h:bw n):0<(cj n).b/\aI 281 (cj n).b/\∀t∈(cj n).a,aI 301 t:=by have a:=Kp h;have c:=BI (b:=1) (m:=1) a.a0 a.a3 ⋯ aI.a2;have d:aI 281 (cj n).b:=c.2.a0 (by rw[cb];have:=p_ 20 h.c;lia);refine(c.1,d,λt e=>?_);obtain⟨q,f,rfl⟩:=cJ.mp e;exact((a.a4 q f).a1<|d.a3<|a.a0 q f).a0 ⋯
def RM(h:s∈iU n fl ls):∃k e,n.a[k]?=ai e/\s.f=k/\((0<fl.getD k 0/\s=(k,e.b,e.a,fl.getD k 0,ls.getD k 0,e.k))\/(fl.getD k 0<0/\s=(k,e.a,e.b,-fl.getD k 0,ls.getD k 0,e.k))):=by obtain⟨q,c,b⟩:=HZ.mp h;obtain⟨j,a,e⟩:=iC c;have:=lu (p:=q) (by rw[<-e];exact cK a);(simp_all[jF];grind?)
def Bi(hn:bw n)(m:iu fr)(l:fr.a.length=n.a.length):Gv n (iU n fr.a (cj n).a) (cj n).b:=by
 have f:=tS hn;have a:∀s∈iU n fr.a (cj n).a,(s.c<n.b.length/\s.a<n.b.length)/\aI 30000 s.b/\aI 310 s.d/\aI 20 s.e:=λs b=>by obtain⟨k,e,g,_,h⟩:=RM b;have c:=hn.a e<|eC g;have o:=(eM.mp g).1;have j:=m.a _<|jo (d:=0) (by rwa[l]);have i:=f.2.2 _<|jo (d:=0) (by rwa[Fv]);rcases h with⟨_,rfl⟩|⟨_,rfl⟩;exact((c.b,c.a),j,i.a0 ⋯,c.s);exact((c.a,c.b),j.a6,i.a0 ⋯,c.s)
 refine(?_,λs b=>(a s b).1,λs b=>(a s b).2.1,λs b=>(a s b).2.2.1,λs b=>(a s b).2.2.2,f.2.1.a0 ⋯);have:=JJ fr.a (cj n).a<|bj 0 n.a;rw[nI]at this;have:=hn.c;(unfold iU;lia)
def lU(n:aR)(a:bF):af (af ah):=Fq n (iU n a.a (cj n).a) (cj n).b
def jf(n:aR)(a:bF):aJ bF:=pE (lU n a) (cj n).b
structure Gu(n:aR)(fr:bF):Prop where
 c:bw n
 a:iu fr
 b:fr.a.length=n.a.length
 d:∃m,2^(lU n fr).length*(m+1)<=10000000/\mK m (lU n fr) (cj n).b/\aI m (cj n).b
def Um(h:Gv n l wh):gI n.b.length (n.b.length+1) (Fq n l wh):=FU n wh _ _<|BK n wh l _ (λb a=>(h.a b a).2)<|Bl _ _
section
variable{K:aZ}
def J6(a:bH)(e:af az)(d:az):Prop:=∃p:aR×bF,e=[bp a p.1,bX a p.2]/\Gu p.1 p.2/\d=match jf p.1 p.2 with|none=>.e|some r=>bX a r
def JP:bW ["network","flows","losses","streams"] ["network","flows"] (bf<|aK 82):={}
def UX(J:cq K c a):cI P w K c b 44 "warmths_of" (J6 a):=by refine cW J.u JP λk j i d h g=>?_;obtain⟨⟨n,fr⟩,rfl,l,rfl⟩:=g;have f:=l.c;have e:=Bi f l.a l.b;refine aL (cB 2 (aY (Vg J) #[(0)] (n,aa,f,aa)) JP.a)<|aL (cB 3 (aY (U' J) #[(0),(1),(2)] ((n,fr,cj n),aa,f.c,l.b,Fv n,aa)) JP.a)<|aX<|bb<|aY (U_ J) #[aY (z9 J) #[(0),(3),cC 1 J.T.d (2)] ((n,iU n fr.a (cj n).a,(cj n).b),aa,f,e,aa),cC 1 J.T.d (2)] ((lU n fr,(cj n).b),aa,?_,l.d,aa);unfold lU;rw[(Um e).a1];exact f.d
structure WN(n:aR)(r:bF):Prop where
 a:r.a.length=n.b.length
 b:aI 10000000 r.b
 c:∀t∈r.a,aI 95000000 t
def jn(n:aR)(a:bF)(d:ah)(t:af ah×af ah)(s:mJ):af ah×af ah:=
 (t.1.set s.f<|s.b*s.d*(a.a.getD s.c 0- s.e*a.b),
  if(gw n s.a).isSome=ao then t.2.set s.a (t.2.getD s.a 0+(s.b*d*(a.a.getD s.a 0- a.a.getD s.c 0)+s.b*s.d*(a.a.getD s.c 0- s.e*a.b)))else t.2)
def jL(n:aR)(a:bF)(d:ah)(l:af mJ):af ah×af ah:=l.foldl (jn n a d) (cg n.a.length 0,cg n.b.length 0)
def mF(n:aR)(b a:bF):bF:=((jL n a (cj n).b<|iU n b.a (cj n).a).1++(jL n a (cj n).b<|iU n b.a (cj n).a).2,b.b*a.b*(cj n).b)
def FE(n:aR)(a:bF)(d:ah):∀(l:af mJ) (t:af ah×af ah),(l.foldl (jn n a d) t).1.length=t.1.length/\(l.foldl (jn n a d) t).2.length=t.2.length
 |[],t=>(aa,aa)|s::l,t=>by rw[fO];obtain⟨f,e⟩:=FE n a d l<|jn n a d t s;rw[f,e];unfold jn;refine((),?_);split<;>simp
def S3(a:bH)(e:af az)(d:az):Prop:=∃p:aR×bF×bF,e=[bp a p.1,bX a p.2.1,bX a p.2.2]/\Gu p.1 p.2.1/\WN p.1 p.2.2/\d=bX a (mF p.1 p.2.1 p.2.2)
def wY:bW ["network","flows","warmths","losses","given","brought","stream","warmth","warmer"] ["network","flows","warmths"] (bf<|aK 83):={}
def v9(J:cq K c a):cI P w K c b 44 "heats_of" (S3 a):=by
 refine cW J.E wY λU S R d M L=>?_;obtain⟨⟨n,fr,wr⟩,rfl,T,f,rfl⟩:=L;have T:Gu n fr:=T;have s:=T.c;have H:=s.d;have y:=s.c;have i:=Bi s T.a T.b;have j:=tS s;have g:∀l:af mJ,(jL n wr (cj n).b l).1.length=n.a.length/\(jL n wr (cj n).b l).2.length=n.b.length:=λl=>by have:=FE n wr (cj n).b l (cg n.a.length 0,cg n.b.length 0);exact(this.1.trans (),this.2.trans ())
 refine aL (cB 3 (aY (Vg J) #[(0)] (n,aa,s,aa)) wY.a)<|aL (ia 4 (pJ (tQ (bJ<|cQ #[aF]) (dY (dO J.T.e<|bc 1 J.T.c (0)) ()) (by left))<|vu _ _) wY.a)<|aL (ia 5 (pJ (tQ (bJ<|cQ #[aF]) (dY (dO J.T.e<|bc 0 J.T.c (0)) ()) (by lia))<|vu _ _) wY.a)<|aL (jh (iU n fr.a (cj n).a) (oO a) (λD=>[.a<|bp a n,.a<|bX a fr,.a<|bX a wr,.a<|bX a<|cj n,.c<|(jL n wr (cj n).b D).1.map az.a,.c<|(jL n wr (cj n).b D).2.map az.a,.b,.b,.b]) (λD q=>[.a<|bp a n,.a<|bX a fr,.a<|bX a wr,.a<|bX a<|cj n,.c<|(jL n wr (cj n).b D).1.map az.a,.c<|(jL n wr (cj n).b D).2.map az.a,.a<|oO a q,.b,.b]) (gm<|aY (U' J) #[(0),(1),(3)] ((n,fr,cj n),aa,y,T.b,Fv n,aa)) (λD z m G=>(e_ 6 wY.a)) (λD q m G=>?_) aa fT) ?_;have V:q∈iU n fr.a (cj n).a:=∅;obtain⟨x,v⟩:=i.a q V;have W:=i.e q V;have F:=i.d q V;have r:=i.b q V;obtain⟨k,Q,I,E,_⟩:=RM V;have p:=f.c _<|jo (d:=0) (by rw[f.a];exact x);have o:=f.c _<|jo (d:=0) (by rw[f.a];exact v);have B:=(g D).1;have C:=(g D).2;have e:jL n wr (cj n).b (D++[q])=jn n wr (cj n).b (jL n wr (cj n).b D) q:=by simp[jL]
 rw[e];generalize jL n wr (cj n).b D=t at B C ⊢;have A:=eD (W.a1 F) (p.a4<|r.a1 f.b) ⋯;refine aL (cB 7 (bt (cC 0 J.T.d (2)) (cC 1 J.T.f (6))<|js (by rwa[f.a])) wY.a)<|aL (vk 4 aa (fR (fR (cC 3 J.T.f (6)) (cC 4 J.T.f (6))<|eD W F ⋯) (sy (7)<|fR (cC 5 J.T.f (6)) (cC 1 J.T.d (2))<|eD r f.b ⋯) A) (cC 0 J.T.f (6))<|vy (by left)) ?_;by_cases u:(gw n q.a).isSome=ao;refine fj (aL (bK (cX (EI (cC 2 J.T.f (6))<|bc 2 J.T.c (0))<|zp n q.a) (λ_=>(aL (cB 8 (sy (bt (cC 0 J.T.d (2)) (cC 2 J.T.f (6))<|js (by rwa[f.a])) (7)) wY.a)<|aL (Kl 5 aa uU (cC 2 J.T.f (6)) (kx (fR (fR (cC 3 J.T.f (6)) (cC 1 J.T.d (3))<|eD W j.2.1 ⋯) (8)<|eD (W.a1 j.2.1) (o.a4 p) ⋯)<|nJ 4 aa (cC 0 J.T.f (6))<|gQ<|mY (by grind?))<|Vq ∅) bV)) (λh=>by rw[u]at h;cases (h))) bV) ?_;unfold jn;rw[aG u];rw[n_,n_];exact .a0<|.a0<|.a0<|.a0<|.a0<|.a0<|.no<|.no<|.no .a2;refine fj (aL (bK (cX (EI (cC 2 J.T.f (6))<|bc 2 J.T.c (0))<|zp n q.a) (λh=>bG h u)<|λ_=>bV) bV) ?_;unfold jn;rw[aE u];rw[n_];exact .a0<|.a0<|.a0<|.a0<|.a0<|.a0<|.no<|.no<|.no .a2;obtain⟨O,N⟩:=g<|iU n fr.a (cj n).a;refine iI 4 aa<|iI 5 aa<|aX<|bb<|dY (rC (vw J) #[bJ<|jl (4) (5) (by nofun;lia),fR (fR (cC 1 J.T.d (1)) (cC 1 J.T.d (2))<|eD T.a.c f.b ⋯) (cC 1 J.T.d (3))<|eD (T.a.c.a1 f.b) j.2.1 ⋯] (aa,aa)) ?_;simp_all[mF,BH]
end
def EK(g e:ay)(c:af bL)(h:az->Prop):cS:=λb H Q=>∃F,bE g e F H b c/\∀v d a f,h d->bD F a->bE g e a f b c->bY a v d->Q v f
def FM(Dm:af az->Prop)(R:af az->az->Prop):k_:=λe H Q _=>∃F a,bD F H/\cx F e a/\Dm a/\∀v d c b,R a d->cZ F H c b->bY c v d->Q v b
structure Mv(P:cn)(w:bS)(K:aZ)(mg:aC->aJ aB)(base:bT)(k:ag)(x:aC)(Dm:af az->Prop)(R:af az->az->Prop):Prop where
 a:∃(f:ax) (fd:jY) (ps:af aC),gR P w K mg base kb k f fd ps (FM Dm R)/\mg x=ai (.ref f)/\mr K (.ref f)=ao/\la K fd ps []
def Gw(g f:ay)(o:lB)(E:wJ)(F:ay):Prop:=match o with|.a e=>∀c a b,bD F a->bE g f a b c e->E.a c b|.b d=>∀v a b,bD F a->cZ g f a b->bY a v d->E.b v b|.c c=>∀v d a b,c d->bD F a->cZ g f a b->bY a v d->E.b v b
section
variable{X:bA}{m l F O H:ay}{J:cw}{u W ρ1:af bL}{tg e e2 a b c Y elt:bI}{S:af bI}{B p U L:dj}{d d1 d2:az}{P:af az}{i j:ah}{x f:aC}{C:ax}{t:af aC}{Z T Z1:ay->ay->Prop}{st:du}{rest sts:af du}{o:lB}{Pd:az->Prop}
def Gw.up(s:bD F O)(k:Gw m l o E F):Gw m l o E O:=by
 cases o with|a W=>exactλn G h g=>k n G h (s.a0 g)|b d=>exactλv G h g=>k v G h (s.a0 g)|c Pd=>exactλv d G h q g=>k v d G h q<|s.a0 g
def ad4(A:bE m l F H J u)(k:Gw m l o E F):cT m l u o E J H:=(F,A,by cases o<;>exact k)
def ad5(h:cT m l u o E J H):∃F,bE m l F H J u/\Gw m l o E F:=by obtain⟨F,A,k⟩:=h;exact(F,A,by cases o<;>exact k)
def D8(h:Mv X.a2 X.w X.K X.mg X.a8 k x Dm R)(w:eW X (e::S) (lW m l u P))(V:Dm P)(z:dy k X.A|>3)(I:dn X x|>1)(n:dA x|>2)
  (he:eI X e S|>1)(g:eG X B S|>1):aA X (.Call (.Name x p) (e::S) [] B) (EK m l u<|R P):=by
 obtain⟨f,fd,ps,F,D,E,N⟩:=h.a;refine eL (uR F z I D E N .nil (mZ) w n he g) λJ H Q (G,A,q)=>(G,A,λvs F1 H1 s r r1=>?_);refine(F1,P,r.fh,?_,V,λv d F2 K M rl y=>q v d F2 K M (s.a0 rl.ff) (r.up rl) y);rwa[kH]
def tz(n:ag)(z:aA X e (EK m l u Pd))(G:X.N.Nodup)(I:∀d,Pd d->bg X rest (cT m l (u.set n<|.a d) o))(y:X.N[n]?=ai x|>1)(s:h_ X.a0.scope x|>3)(w:fS e (ai<|.Name x p) B.line X.a0=cA aw|>1)
  (hf:iE X x|>3):bg X (.Assign [.Name x p] e B::rest) (cT m l u o):=
 fg (eN (pk G y s z w hf)<|oS (ι:=az) I) λE J H h=>by obtain⟨F,A,k⟩:=ad5 h;exact(F,A,λv d Q M r g K q=>(d,r,ad4 (K.a7 n q)<|k.up g))
def zF(m l:ay)(q C:ax)(t:af aC)(k:af az):ay->ay->Prop:=λF H=>cZ m l F H/\l q=aq/\F q=aq/\∃h g,H q=ai (.c C h<|t.zip g)/\t.length=g.length/\cx F g k
def zF.a0:oP (zF m l q C t fs):=λF H O y (z,v,k,w,h,g,s,n) r=>(z.a4 r,v,r.nf _ (by rw[g];simp) k,w,h,r.hh _ _ g,s,n.up r.ff)
def adx(n:ag)(h:vH X.a2 X.w X.K X.mg X.a8 k f C t R)(ha:∀m l,eW X (e::S)<|lW m l u P)(hR:R P fs)(g6:X.N.Nodup)(h2:∀q,bg X rest<|cN (zF m l q C t fs) (u.set n<|.e<|.c q) T o)
  (hr:dy (k+1) X.A|>3)(hg:dn X f|>1)(g4:dA f|>2)
  (he:eI X e S|>1)(g3:eG X U S|>1)
  (hi:X.N[n]?=ai x|>1)(hx:h_ X.a0.scope x|>3)(hs:fS (.Call (.Name f p) (e::S) [] U) (ai<|.Name x L) B.line X.a0=cA aw|>1)
  (hf:iE X x|>3):
  bg X (.Assign [.Name x L] (.Call (.Name f p) (e::S) [] U) B::rest) (cN (λF H=>cZ m l F H) u T o):=by
 obtain⟨g,fd,ps,Fn,hm,M,hb⟩:=h.a;have g5:eW X (e::S) λJ H Q=>∃F,bE F H F H J u/\∀D O v,cZ F H O v->bE O v O v J u->cx O D P->Q D v:=λB w s J H Q I (F,A,q)=>ha F H B w s J H Q I (F,A,λD O v s' A' r=>q D O v A'.tocZ (A'.a4 λi P=>A.a2) r);refine fg (eN (pk g6 hi hx (IF M Fn hr hg hm hb .nil (mZ) g5 g4 he g3) hs hf)<|oS (ι:=ax) (Pp:=λ_=>eA) λq _=>h2 q) λE J H (F,A,z,kk)=>?_;refine(F,A,λD F1 H1 V K r1=>λy dx N nd ne=>?_);have z1:=z.a4 V;refine(y,dx,D,F1,P,fs,by rw[kH],bO,(K.a9 N).1,?_,r1,hR,λO v ws s k fh nf g2 hl g0=>(aa,y,dU,O,?_));exact(K.fh.a0<|jG nd).a0<|jG (by rwa[aO<|dZ ne]);have sH:=bD.a3 N nd k;have g1:=nf y (by rw[bO];simp) (K.a9 N).1;have G:cZ F1 H1 O v:=(s,sH,fh,λb hb n=>nf b (by by_cases q:b=y;nofun;rw[aO q];by_cases q2:b=dx;nofun;rwa[aO q2]) n);have A2:=(K.up G).a4 λi P=>K.a2;exact(A2.b2 n _,(z1.a4 G,z1.hh.a1 N,g1,dx,ws,g2,hl,g0),mB (V.ff.a0 s) kk)
def Bc:∀{t:af aC} {g:af aH} {j:ag} {f:aC} {v:aH},t.Nodup->t[j]?=ai f->t.length=g.length->jc f v (t.zip g)=t.zip (g.set j v)
 |[],_,j,f,v,_,h,_=>by simp at h|n::t,[],j,f,v,_,_,h=>by simp at h|n::t,w::g,0,f,v,k,h,y=>by simp at h;subst h;simp[jc]|n::t,w::g,j+1,f,v,k,h,y=>by have s:=eC (by simpa using h);have r:f≠n:=λq=>(qX.mp k).1<|q▸s;show jc f v ((n,w)::t.zip g)=(n,w)::t.zip (g.set j v);rw[eh r,Bc (qX.mp k).2 (by simpa using h) ∅]
def Jn(n j:ag)(y:jS X.K C t)(r:u[n]?=ai (.e<|.c q))(he:∀m l,aA X e<|aP m l u d)(g0:t.length<1000|>2)(G:t[j]?=ai f|>1)(hN:X.N[n]?=ai x|>1)(s:eF X.a0.scope x|>3)
  (hd:dA x|>2)(w:fP x|>2)(hs:fS e (ai<|.Attribute (.Name x p) f L) B.line X.a0=cA aw|>1):
  cH X (.Assign [.Attribute (.Name x p) f L] e B) (cN (zF m l q C t fs) u (zF m l q C t<|fs.set j d)<|.a u):=
 eK (ik (ft hN s hd w) (jv he) hs) λE J H (F,A,z,k)=>by refine(F,A,λv F1 H1 g M N=>?_);obtain⟨K,D,h,I,ws,V,R,Q⟩:=zF.a0 _ _ _ _ z g;refine(_,M.a1 n _ r,q,C,I,_,aa,V,y.a,y.b f<|eC G,?_,?_);nofun;rw[Bc y.c G R];exact k J F1 _ g.ff (M.b0 h) (K.wr h D,D,h,I,_,bO,by rwa[j'],Q.a9 N j)
def bE.c3(A:bE F H F H J u)(g:J[n]?=ai (ai v))(r:bY F v d):bE F H F H J (u.set n<|.a d):=by have:=A.a7 n r;rwa[Bm g]at this
def Rg(n:ag)(g:u[n]?=ai (.e<|.c q))(h:bg X rest (cN (λF H=>cZ m l F H) (u.set n<|.a<|.k q C t fs) T o)):bg X rest (cN (zF m l q C t fs) u T o):=fg h λE J H (F,A,(M,K,I,y,w,G,D,z),k)=>by obtain⟨r,s⟩:=M.a6 G I K;have R:bE (bu F q<|.c C y<|t.zip w) H (bu F q<|.c C y<|t.zip w) H J u:=(cZ.a3 r.fh,A.a5,λi d e=>let(v,Q,N):=A.a3 i d e;(v,Q,N.up s),λi P e=>bG e A.a2,A.a1,λi j P S a e=>bG e A.a2);exact(_,R.c3 (A.a1 n _ g)<|.a4 bO (z.up s) D,r,mB s k)
end
section
variable{K:aZ}
def Mk{e:du}(O:cu K mg x e)(S:bW N ps (bf e))
  (hb:∀(g l o:aB) (C:aJ ax) (b B:aB) (i:af aB),i.length=ps.length->uy (nX x x (pw e) (iQ e) (bf e) .none g l o C b B) (i,[])=cA (ps.zip i))
  (len:∀c,Dm c->c.length=ps.length)
  (body:∀{f:ax} {b:aB} {A:fG} {a:af ig} {s:ba} {H:ay} {E:jC} (L I:ay) (c:af az),dy k (ml P w K mg base N x e f b A a s H E).A->Dm c->
   bg (ml P w K mg base N x e f b A a s H E) (iQ e) (cT L I (rn N c)<|.c<|R c)):Mv P w K mg base (k+1) x Dm R:=by
 obtain⟨f,z,F,t⟩:=O.a;refine(f,z,ps,F.ok S (λm H Q E h=>?_)<|λb A a s H m Q E p h=>?_,t,F.kp,F.a1 hb);obtain⟨G,c,_,r,j,_⟩:=h;rw[r.a1,len c j];obtain⟨G,c,y,r,j,q⟩:=h;exact(_,body G H c p j,G,zD y r,λv d M J u s T n=>q v d M J u T n)
def ae3:bW ["self","kind","first","second","conductance","head"] ["self","kind","first","second","conductance","head"] (bf<|rZ (aK 4) 0):={}
def WV(a b:af az):Prop:=a.length=5/\b=a++[cE (1,1),cE (0,1),.a 0]
def Ps(h:l.length=5):∃a b c d e,l=[a,b,c,d,e]:=Q5 (P:=λl=>∃a b c d e,l=[a,b,c,d,e]) (λ_ _ _ _ _=>(_,_,_,_,_,aa)) l h
def Ur(J:cq K mg g):vH P w K mg base 40 "Edge" g.a gD WV:=by
 refine Fp J.b0 ae3 (λ_ _ _ _ _ _=>Q6 λ_ _ _ _ _ _=>aa) (λds d h=>h.1) λf g0 A y s H E Q p c as F ds fs hr Z h1 h2 L R T=>?_;obtain⟨D,rfl⟩:=Z;obtain⟨X,W,V,U,S,rfl⟩:=Ps<|R.a1.trans D;refine(_,eN (ik (fI 0) (fI 1) aa)<|eN (ik (fI 0) (fI 2) aa)<|eN (ik (fI 0) (fI 3) aa)<|eN (ik (fI 0) (fI 4) aa)<|eN (ik (fI 0) (fI 5) aa)<|eN (ik (fI 0) (ID<|kZ uQ<|kZ uQ pq) aa)<|eN (ik (fI 0) (ID<|kZ uQ<|kZ uQ pq) aa)<|uM<|ik (fI 0) uQ aa,?_);refine(_,aa,_,aa,p,g.a,c,[],aa,h1,J.T.b.a,J.T.b.b _ ⋯,⋯,?_);refine(_,aa,_,aa,p,g.a,c,_,aa,bO,J.T.b.a,J.T.b.b _ ⋯,(by show 1<1000;decide),?_);rw[nv,eh ⋯,nv];refine(_,aa,_,aa,p,g.a,c,_,aa,bO,J.T.b.a,J.T.b.b _ ⋯,(by show 2<1000;decide),?_);rw[eh ⋯,eh ⋯,nv];refine(_,aa,_,aa,p,g.a,c,_,aa,bO,J.T.b.a,J.T.b.b _ ⋯,(by show 3<1000;decide),?_);rw[eh ⋯,eh ⋯,eh ⋯,nv];refine(_,aa,_,aa,p,g.a,c,_,aa,bO,J.T.b.a,J.T.b.b _ ⋯,(by show 4<1000;decide),?_);rw[eh ⋯,eh ⋯,eh ⋯,eh ⋯];generalize x:bu _ p (.c g.a c _)=M;have C:M p=ai (.c g.a c [("kind",X),("first",W),("second",V),("conductance",U),("head",S)]):=by rw[<-x];exact bO
 have v:∀b,b≠p->M b=H b:=λb a=>by rw[<-x,aO a,aO a,aO a,aO a,aO a]
 have G:bD F M:=λb o e=>by have a:b≠p:=();rw[v b a];exact L _ _ e
 refine(⋯,λm O=>?_);have j:p≠m:=λq=>by subst q;rw[C]at O;cases O
 refine(_,aa,p,g.a,c,_,aa,(by rwa[aO j]),J.T.b.a,J.T.b.b _ ⋯,(by show 5<1000;decide),?_);rw[eh ⋯,eh ⋯,eh ⋯,eh ⋯,eh ⋯,nv];refine(⋯,λl u=>?_);have i:p≠l:=λq=>by subst q;rw[bO]at u;cases u
 rw[aO<|dZ i]at u;have k:m≠l:=λq=>by subst q;rw[bO]at u;cases u
 rw[aO<|dZ k]at u;refine(_,aa,p,g.a,c,_,aa,(by rw[aO i];exact bO),J.T.b.a,J.T.b.b _ ⋯,(by show 6<1000;decide),?_);rw[eh ⋯,eh ⋯,eh ⋯,eh ⋯,eh ⋯,eh ⋯,nv];refine(_,aa,p,g.a,c,_,aa,bO,J.T.b.a,J.T.b.b _ ⋯,(by show 7<1000;decide),?_);rw[eh ⋯,eh ⋯,eh ⋯,eh ⋯,eh ⋯,eh ⋯,eh ⋯];have B:H m=aq:=();have z:H l=aq:=();have f1:=L.a1 B;have f2:=L.a1 z;have N:bD F (bu (bu F m<|.b [.d 1,.d 1]) l<|.b [.d 0,.d 1]):=(jG f1).a0<|jG (by rwa[aO<|dZ k]);refine T _ _ [X,W,V,U,S,.c m,.c l,.d 0] N (λb o e a=>?_) (λb o e=>?_) (λb e n=>?_) bO aa ?_;have t:b≠m:=λq=>by subst q;rw[B]at e;cases e
 have r:b≠l:=λq=>by subst q;rw[z]at e;cases e
 rwa[aO a,aO a,aO r,aO a,aO t,v b a];by_cases r:b=l;subst r;rw[bO]at e;rwa[aO<|dZ i,aO<|dZ i,bO];rw[aO r]at e;by_cases t:b=m;subst t;rw[bO]at e;rwa[aO<|dZ j,aO<|dZ j,aO k,aO<|dZ j,bO];rw[aO t]at e;have a:b≠p:=();rw[aO a,aO a,aO r,aO a,aO t];exact G _ _ e;have t:b≠m:=λq=>by subst q;exact e B
 have r:b≠l:=λq=>by subst q;exact e z
 rwa[aO r,aO t];have I:=R.up N;refine I.a5<|.a0 (.a3 (by rw[aO k];exact bO)<|.a0 (.a1 _)<|.a0 (.a1 _) .a2)<|.a0 (.a3 bO<|.a0 (.a1 _)<|.a0 (.a1 _) .a2)<|.a0 (.a1 _) .a2
def aeB(C:ax):k_:=λh H Q _=>∃(p f:ax),h=[.c p]/\H p=ai (.c C f [])/\∀a c d e,H a=aq->H c=aq->H d=aq->a≠c->a≠d->c≠d->(∀b,b≠p->b≠a->b≠c->b≠d->e b=H b)-> e p=ai (.c C f<|iJ.zip [.c a,.c c,.c d])->e a=ai (.a [])->e c=ai (.a [])->e d=ai (.d [])->Q .f e
structure Cr(P:cn)(w:bS)(K:aZ)(mg:aC->aJ aB)(base:bT)(k:ag)(C:ax):Prop where
 a:∃(f:ax) (fd:jY) (ps:af aC),gR P w K mg base kb k f fd ps (aeB C)/\mg "Network"=ai (.ref C)/\yL K C f/\la K fd ps []
def ae1:bW ["self"] ["self"] (bf<|rZ (aK 5) 0):={}
def Fs(J:cq K mg g):Cr P w K mg base 40 g.b:=by
 obtain⟨f,G,F,z,M⟩:=J.U.a;refine(f,G,_,F.ok ae1 (λx H Q E h=>?_)<|λI A t s H x Q E R h=>?_,z,M,F.a1 (λ_ _ _ _ _ _=>Q1 λ_=>aa));obtain⟨p,m,rfl,_⟩:=h;rfl;obtain⟨p,m,rfl,D,C⟩:=h;refine(_,eN (ik (fI 0) (IG pq) aa)<|eN (ik (fI 0) (IG pq) aa)<|uM<|ik (fI 0) abH aa,?_);refine(⋯,λn u=>?_);have c:p≠n:=λq=>by subst q;rw[D]at u;cases u
 refine(_,aa,p,g.b,m,_,aa,(by rwa[aO c]),J.T.c.a,J.T.c.b _ ⋯,⋯,?_);rw[nv];refine(⋯,λo i=>?_);have d:p≠o:=λq=>by subst q;rw[bO]at i;cases i
 rw[aO<|dZ d]at i;have j:n≠o:=λq=>by subst q;rw[bO]at i;cases i
 rw[aO<|dZ j]at i;refine(_,aa,p,g.b,m,_,aa,(by rw[aO d];exact bO),J.T.c.a,J.T.c.b _ ⋯,(by show 1<1000;decide),?_);rw[eh ⋯,nv];intro r a;have e:p≠r:=λq=>by subst q;rw[bO]at a;cases a
 rw[aO<|dZ e]at a;have l:o≠r:=λq=>by subst q;rw[bO]at a;cases a
 rw[aO<|dZ l,aO<|dZ e]at a;have k:n≠r:=λq=>by subst q;rw[bO]at a;cases a
 rw[aO<|dZ k]at a;refine(_,aa,p,g.b,m,_,aa,(by rw[aO e];exact bO),J.T.c.a,J.T.c.b _ ⋯,(by show 2<1000;decide),?_);rw[eh ⋯,eh ⋯];refine C n o r _ u i a j k l (λb v O N L=>?_) bO ?_ ?_ ?_;rw[aO v,aO L,aO v,aO N,aO v,aO O];rw[aO<|dZ c,aO k,aO<|dZ c,aO j,aO<|dZ c,bO];rw[aO<|dZ d,aO l,aO<|dZ d,bO];rw[aO<|dZ e,bO]
end
section
variable{X:bA}{r s F Q H:ay}{P:cw}{B L O:af bL}{tg e U a b c u I:bI}{V:af bI}{m p v l:dj}{d S T:az}{G:af az}{i j:ah}{x f:aC}{C:ax}{W:af aC}{Z t R:ay->ay->Prop}{Y:du}{rest J:af du}{o:lB}{Pd:az->Prop}
def ady(n:ag)(h:Cr X.a2 X.w X.K X.mg X.a8 k C)(h0:X.N.Nodup)(h2:∀q,bg X rest<|cN (zF r s q C iJ [.d [],.d [],.h [] []]) (B.set n<|.e<|.c q) t o)
  (hr:dy (k+1) X.A|>3)(hg:dn X "Network"|>1)
  (hi:X.N[n]?=ai x|>1)(hx:h_ X.a0.scope x|>3)(hs:fS (.Call (.Name "Network" p) [] [] v) (ai<|.Name x l) m.line X.a0=cA aw|>1)
  (hf:iE X x|>3):
  bg X (.Assign [.Name x l] (.Call (.Name "Network" p) [] [] v) m::rest) (cN (λF H=>cZ r s F H) B t o):=by
 obtain⟨g,fd,ps,Fn,hm,M,hb⟩:=h.a;refine fg (eN (pk h0 hi hx (IE M Fn hr hg hm hb .nil<|mZ) hs hf)<|oS (ι:=ax) (Pp:=λ_=>eA) λq _=>h2 q) λE P H (F,A,z,kk)=>?_;intro y dx nx nd ne;refine(y,dx,aa,bO,λD w K H' nn g0 nb g6 g7 g8 g5 hp hn he g9=>(aa,y,dU,?_));have yn:D≠y:=λq=>by subst q;rw[bO]at nn;cases nn
 have ye:w≠y:=λq=>by subst q;rw[bO]at g0;cases g0
 have yb:K≠y:=λq=>by subst q;rw[bO]at nb;cases nb
 rw[aO yn]at nn;rw[aO ye]at g0;rw[aO yb]at nb;have g2:H D=aq:=by grind[aO]
 have g3:H w=aq:=by grind[aO]
 have g4:H K=aq:=by grind[aO]
 have fn:=A.fh.a1 g2;have fe:=A.fh.a1 g3;have fb:=A.fh.a1 g4;have fy:=A.fh.a1 nx;have s1:bD F (bu (bu (bu F D<|.a []) w<|.a []) K<|.d []):=((jG fn).a0<|jG (by rwa[aO<|dZ g6])).a0<|jG (by rwa[aO<|dZ g8,aO<|dZ g7]);have g1:∀b,b≠y->b≠dx->b≠D->b≠w->b≠K->H' b=H b:=λb b0 b1 b2 b3 N=>by rw[g5 b b0 b2 b3 N,aO b0,aO b1]
 have sH:bD H H':=λb o e=>by
  have b0:b≠y:=λq=>by subst q;rw[nx]at e;cases e
  have b1:b≠dx:=λq=>by subst q;rw[nd]at e;cases e
  have b2:b≠D:=λq=>by subst q;rw[g2]at e;cases e
  have b3:b≠w:=λq=>by subst q;rw[g3]at e;cases e
  have N:b≠K:=λq=>by subst q;rw[g4]at e;cases e
  rwa[g1 b b0 b1 b2 b3 N]
 have fH:bD (bu (bu (bu F D<|.a []) w<|.a []) K<|.d []) H':=λb o e=>by
  by_cases N:b=K;·subst N;rw[bO]at e;rwa[g9]
  ·rw[aO N]at e;by_cases b3:b=w;·subst b3;rw[bO]at e;rwa[he]
   ·rw[aO b3]at e;by_cases b2:b=D;·subst b2;rw[bO]at e;rwa[hn]
    ·rw[aO b2]at e;exact sH _ _<|A.fh _ _ e
 have rl:cZ F H (bu (bu (bu F D<|.a []) w<|.a []) K<|.d []) H':=(s1,sH,fH,λb hb n=>by
  have b2:b≠D:=λq=>by subst q;exact hb g2
  have b3:b≠w:=λq=>by subst q;exact hb g3
  have N:b≠K:=λq=>by subst q;exact hb g4
  rwa[aO N,aO b3,aO b2])
 have A2:=(A.up rl).a4 λi G=>A.a2;refine(_,A2.b2 n _,(z.a4 rl,z.hh.a1 nx,?_,dx,_,hp,aa,?_),mB s1 kk);·grind[aO]
 ·refine .a0 (.a0 ?_ .a2)<|.a0 (.a0 ?_ .a2)<|.a0 (.a5 bO .a2 aa) .a2;all_goals simp[*,aO,bO]
end
section
variable{K:aZ}
def zj(e:bB)(q:ah×ah)(y:ax):bB:=(y,e.c,e.b,e.a,e.g,e.h,q,(0,1),0)
def ql(n:aR)(k:ag)(e:bB)(q:ah×ah)(y z:ax):aR:=(z,n.b,n.a.take k++[zj e q y]++n.a.drop (k+1),[],[])
def ER:bW ["network","chosen","opening","edge","changed","other"] ["network","chosen","opening"] (bf<|aK 7):={}
def zn(J:cq K c a)(i:n.a.length<=14)(l:n.a[k]?=ai e):
  Mv P w K c b 42 "with_opening" (λf=>f=[bp a n,.a (k:ag),cE q]) (λ_ d=>∃y z,d=bp a (ql n k e q y z)):=by
 refine Mk J.L ER (λ_ _ _ _ _ _=>Q3 λ_ _ _=>aa) (λf h=>by rw[h];rfl) λp o f s m=>?_;subst m;refine aL (cB 3 (bt (bc 1 J.T.c (0)) (1)<|gQ (by rw[cV,l];rfl)) ER.a)<|Rh (λ_ _ h=>h) ?_;refine adx 4 (Ur J) (λ_ _=>#[bc 0 J.T.b (3),bc 1 J.T.b (3),bc 2 J.T.b (3),bc 3 J.T.b (3),bc 4 J.T.b (3)]) (aa,aa) ER.a λy=>?_;refine fu (Jn 4 5 J.T.b aa<|λ_ _=>(2))<|Rg 4 aa ?_;refine ady 5 (Fs J) ER.a λz=>?_;refine fu (Jn 5 0 J.T.c aa<|λ_ _=>bc 0 J.T.c (0))<|fu (Jn 5 1 J.T.c aa<|λ_ _=>bJ<|jl (bJ<|jl (bJ<|xh (bc 1 J.T.c (0)) zl<|qt (1)) (bJ<|cQ #[(4)]) ?_) (bJ<|xh (bc 1 J.T.c (0)) (qt<|kx (1) aF) zl) ?_)<|Rg 5 aa ?_;(simp[LV];lia);have:jO (n.a.map<|cv a) (ai<|k+1) aq=(n.a.map<|cv a).drop (k+1):=Ci _<|k+1;grind[LV];refine Jp (ni<|pB (λF H u t z r=>z.a4 r) λp o=>bb (5)) (y,z,?_);have:jO (n.a.map<|cv a) (ai<|k+1) aq=(n.a.map<|cv a).drop (k+1):=Ci _<|k+1;rw[LV,this];show az.k z a.b iJ [_,az.d _,_]=az.k z a.b iJ [_,az.d _,_];unfold ql;rw[eV,eV,AB,yq];rfl
end
def Tc(h1:Q ao s)(a:Q aw s):cf M A (cA b) Q E s:=gB (by cases b<;>assumption)
open PySem.Builtin in
def z7(l:ax)(b:kS aB)(n:ag)(p:aJ ax)(e:kS (aJ aB)):
  Meets (Builtin.«enumerate.__new__» ([.type "enumerate",.ref l],[])) (λ_ R s=>s.heap.get? l=ai {cls:=.type "tuple",dict:=p,data:=.seq b n,slots:=e}/\
   R (.ok<|.ret<|.ref (s.heap.push {cls:=.type "tuple_iterator",data:=.fields<|List.toArray [.ref l,.int 0 0]}).objs.size) {s with heap:=(s.heap.push {cls:=.type "tuple_iterator",data:=.fields<|List.toArray [.ref l,.int 0 0]}).push {cls:=.type "enumerate",data:=.fields<|List.toArray [.none,.bool aw,.ref s.heap.objs.size,wg 0,.none,.none]}}):=
 .of_wp λc w A R s h=>by
  obtain⟨m,g,d,i,k⟩:=s;obtain⟨f,h⟩:=h;have o:=Ys
  wp_walk
  refine Yc λj _ _ _=>Tc ?_ ?_;all_goals
   simp only[zP,MF,Xf,↓MD];refine eB<|gB (a:=Prod.mk (iB l) aq) ?_;refine eB (Yi (items:=b) (_,f,aa,_,aa) ?_)
   wp_walk
   exact(_,aa,h)
open PySem.Builtin in
def v7(l:ax)(b:kS aB)(n t:ag)(m:aJ ax)(c:kS (aJ aB))
 (hl:s.heap.get? l=ai {cls:=.type "list",dict:=m,data:=.seq b n,slots:=c})
 (h:Q (.done (.ret<|.ref (s.heap.push {cls:=.type "list_iterator",data:=.fields<|List.toArray [.ref l,.int 0 0]}).objs.size)) {s with heap:=(s.heap.push {cls:=.type "list_iterator",data:=.fields<|List.toArray [.ref l,.int 0 0]}).push {cls:=.type "enumerate",data:=.fields<|List.toArray [.none,.bool aw,.ref s.heap.objs.size,wg 1,.none,.none]}}):
 cf (bQ prog w) A (Builtin.«enumerate.__new__» ([.type "enumerate",.ref l],[("start",.int 1 t)])) Q E s:=by
 obtain⟨j,g,d,e,i⟩:=s;have k:=Ys;unfold Builtin.«enumerate.__new__»
 wp_walk
 refine Yc λf _ _ _=>Tc ?_ ?_;all_goals
  simp only[zP,MF,Xf,↓MD];refine eB<|gB (a:=Prod.mk (iB l)<|ai<|wu 1 t) ?_;refine eB<|eB<|gB (a:=ai 1)<|gB (a:=wu 1 t) ?_;refine eB<|gB (a:=ai 1) ?_;show cf _ _ (if(!G2 1)=ao then _ else _) _ _ _;rw[aE ⋯];refine eB (Nw (items:=b) (_,hl,aa,_,aa) ?_)
  wp_walk
  exact h
def Z5(f:s.heap.IsTuple l items)
  (h:∀d,Dq d (s.heap.objs.size+1) s.heap.objs.size 0 .none->d.IsTupleIter s.heap.objs.size l 0->(∀b o,s.heap.get? b=ai o->d.get? b=ai o)->Q (.ref<|s.heap.objs.size+1) {s with heap:=d}):
  cf (bQ prog w) A (oX (.type "enumerate") [.ref l]) Q E s:=by
 obtain⟨⟨c,r,q,k⟩,f,p,n,m⟩:=f;have i:c=.type "tuple":=p;have g:q=.seq items n:=m;subst i g;refine callType_new Zd ⋯ (F.typeCall_enumerate_1 _) (F.newCall_enumerate_1 _) (λt=>F.args_object_init_2 _ _) Zc (z7 l items n r k) (f,?_);have a:(s.heap.push {cls:=.type "tuple_iterator",data:=.fields<|List.toArray [.ref l,.int 0 0]}).objs.size=s.heap.objs.size+1:=by nofun
 rw[a];have j:((s.heap.push {cls:=.type "tuple_iterator",data:=.fields<|List.toArray [.ref l,.int 0 0]}).push {cls:=.type "enumerate",data:=.fields<|List.toArray [.none,.bool aw,.ref s.heap.objs.size,wg 0,.none,.none]}).get? (s.heap.objs.size+1)=ai {cls:=.type "enumerate",data:=.fields<|List.toArray [.none,.bool aw,.ref s.heap.objs.size,wg 0,.none,.none]}:=by rw[<-a];exact jb _ aa
 refine((_,j,aa),h _ j (_,gN _<|jb _ aa,aa,aa) λb o e=>gN _<|gN _ e)
def j9(l:ax)(t:ag):checkBuiltinCall "enumerate.__new__" {pos:=[qU "enumerate",iB l],kw:=[("start",.int 1 t)]}=cA ⟨⟩:=by with_unfolding_all rfl
def Q8(l:ax)(t:ag):checkTypeCall "enumerate" {pos:=[iB l],kw:=[("start",.int 1 t)]}=cA ⟨⟩:=by with_unfolding_all rfl
def R8(l a:aB)(t:ag):argsOk "object.__init__" {pos:=[a,l],kw:=[("start",.int 1 t)]}:=by with_unfolding_all rfl
def X5(k:s.heap.IsList l items)
  (h:∀f,Dq f (s.heap.objs.size+1) s.heap.objs.size 1 .none->f.IsListIter s.heap.objs.size l 0->(∀b o,s.heap.get? b=ai o->f.get? b=ai o)->Q (.ref<|s.heap.objs.size+1) {s with heap:=f}):
  cf (bQ prog w) A (oX (.type "enumerate") [.ref l] [("start",.int 1 t)]) Q E s:=by
 obtain⟨⟨c,P,G,y⟩,k,C,n,B⟩:=k;have p:c=.type "list":=C;have m:G=.seq items n:=B;subst p m;have i:(s.heap.push {cls:=.type "list_iterator",data:=.fields<|List.toArray [.ref l,.int 0 0]}).objs.size=s.heap.objs.size+1:=by nofun
 have q:((s.heap.push {cls:=.type "list_iterator",data:=.fields<|List.toArray [.ref l,.int 0 0]}).push {cls:=.type "enumerate",data:=.fields<|List.toArray [.none,.bool aw,.ref s.heap.objs.size,wg 1,.none,.none]}).get? (s.heap.objs.size+1)=ai {cls:=.type "enumerate",data:=.fields<|List.toArray [.none,.bool aw,.ref s.heap.objs.size,wg 1,.none,.none]}:=by rw[<-i];exact jb _ aa
 have f:=h _ q (_,gN _<|jb _ aa,aa,aa) λb o e=>gN _<|gN _ e;refine yd<|codeAny_of_own<|wpOwn_of_wpAny ?_;refine gB (a:=Fin.again<|Code.builtin "type.__call__" ([.type "enumerate",.ref l],[("start",.int 1 t)])) (by with_unfolding_all rfl,?_);refine codeAny_builtin F.entry_type_call ?_;have T:=Zd;have x:=T.notType;have v:=T.canCreate;obtain⟨L,z,u⟩:=T.mro;have r:=T.made;have J:=T.sub;have H:=Q8 l t;unfold Builtin.«type.__call__»;simp only[x,v,u,r,H,MF,Xf,↓MD,LawfulMonad.pure_bind,List.isEmpty_cons];refine eB<|Ho<|yd<|HA T.plain Zc ?_;rw[j9 l t];refine gB ?_;refine v7 l items n t P y k ?_;dsimp only;rw[i];generalize O:((s.heap.push {cls:=.type "list_iterator",data:=.fields<|List.toArray [.ref l,.int 0 0]}).push {cls:=.type "enumerate",data:=.fields<|List.toArray [.none,.bool aw,.ref s.heap.objs.size,wg 1,.none,.none]})=D at q f ⊢;have j:(Shared.TypeIs {s with heap:=D} (.ref<|s.heap.objs.size+1) "enumerate"):=(_,q,aa);obtain⟨N,g,d,I,K⟩:=s;refine eB ?_;have M:=T.init.lookup
 wp_walk
 rw[T.init.bind];refine gB<|eB ?_;refine yd<|HA T.init.plain F.entry_object_init ?_;refine T.init.check _ _ _ _ _ _ _ _ j (R8 _ _ t) ?_;unfold Builtin.«object.__init__»
 wp_walk
 omega
def im
  (hi:s.heap.IsTupleIter it t i)(q:s.heap.IsTuple t items)(p:items[i]?=ai x)
  (h:∀n,n.IsTupleIter it t (i+1)->Dr it s.heap n->Q x {s with heap:=n}):cf (bQ prog w) A (Zj<|.ref it) Q E s:=by
 obtain⟨⟨c,H,G,B⟩,a,u,r⟩:=hi;have m:=u;have k:=r;subst m k;obtain⟨⟨I,y,v,o⟩,f,l,D,j⟩:=q;have e:=l;have b:=j;subst e b;refine eB<|Yq (_,a,aa) Au<|yd<|HA Au.plain Zq ?_;refine Au.check _ _ _ _ _ _ _ _ (_,a,aa) (Zr _) ?_;obtain⟨F,g,d,z,C⟩:=s
 wp_walk using Di a,Di f
 rw[show((i:ah)).toNat=i from aa,p];refine eB<|Yd a aa (by show 1<2;decide) ?_;refine gB<|gB<|h _ (_,YV _ a aa,aa,?_)<|YX _ _ _;rfl
def TY(hA:A.handled=aq)
  (hi:s.heap.IsTupleIter it t i)(x:s.heap.IsTuple t items)(v:items[i]?=aq)
  (h:∀r e,Heap.ExtBut it s.heap r->(∃o,r.get? e=ai o/\o.cls=.type "StopIteration")->E (.ref e) {s with heap:=r}):cf (bQ prog w) A (Zj<|.ref it) Q E s:=by
 obtain⟨⟨c,L,K,G⟩,j,z,y⟩:=hi;have p:=z;have m:=y;subst p m;obtain⟨⟨M,D,C,u⟩,k,n,I,l⟩:=x;have f:=n;have a:=l;subst f a;refine eB<|Yq (_,j,aa) Au<|yd<|HA Au.plain Zq ?_;refine Au.check _ _ _ _ _ _ _ _ (_,j,aa) (Zr _) ?_;obtain⟨J,g,d,F,H⟩:=s
 wp_walk using Di j,Di k
 rw[show((i:ah)).toNat=i from aa,v];refine eB<|wpAny_rule<|eB<|Yd j aa (by show 0<2;decide) ?_;unfold J2
 wp_walk
 refine wpAny_raiseNew_none ()<|h _ _ (λb o B q=>?_) (_,jb _ aa,aa);exact gN _<|gN _<|((YX _ _ _).2 b B).trans q
def x8{b:cn}{w:bS}{A:fG}(B:A.handled=aq){f t:ax}{a:kS aB}(l:t≠f):
  Dv b w A f [f,t] a.size (λi v=>a[i]?=ai v) (λi h=>h.IsTupleIter f t i/\h.IsTuple t a) where
 live:=λi h ((o,e,_),_)=>(o,e)
 frame:=λi h x ((o,e,c,d),(g,n,q,p)) k=>((o,k f (_) o e,c,d),(g,k t (_) g n,q,p))
 item:=λi s Q E z (m,j) h=>by have u:=Array.getElem?_eq_getElem z;refine im m j u λx y r=>h _ x s.toks u (y,?_) r;obtain⟨g,n,q,p⟩:=j;exact(g,(r.2 t l).trans n,q,p)
 done:=λs Q E (m,j) h=>TY B m j () h
def v8{b:cn}{w:bS}{A:fG}(m:A.handled=aq){f t:ax}{a:kS aB}{n:ag}(l:a[n]?=aq):
  Dv b w A f [f,t] n (λ_ _=>eo) (λk h=>k=n/\h.IsTupleIter f t n/\h.IsTuple t a) where
 live:=λi h (_,(o,e,_),_)=>(o,e)
 frame:=λi h y (z,(o,e,c,d),(g,r,v,u)) k=>(z,(o,k f (_) o e,c,d),(g,k t (_) g r,v,u))
 item:=λi s Q E x j h=>bG j.1 ∅
 done:=λs Q E (_,q,p) h=>TY m q p l h
def r8{b:cn}{w:bS}{A:fG}(m:A.handled=aq){f t:ax}{a:kS aB}{n:ag}(l:a[n]?=aq):
  Dv b w A f [f,t] n (λ_ _=>eo) (λk h=>k=n/\h.IsListIter f t n/\h.IsList t a) where
 live:=λi h (_,(o,e,_),_)=>(o,e)
 frame:=λi h y (z,(o,e,c,d),(g,r,v,u)) k=>(z,(o,k f (_) o e,c,d),(g,k t (_) g r,v,u))
 item:=λi s Q E x j h=>bG j.1 ∅
 done:=λs Q E (_,q,p) h=>wpAny_nextOf_list_end m q p l h
def w8{b:cn}{w:bS}{A:fG}{d:ax}{e:af ax}{n:ag}{P:ag->aB->Prop}{f:ag->bT->Prop}(D:Dv b w A d e n P f):
  Dv b w A d e (n+1) (λi v=>1<=i/\P (i- 1) v) (λi h=>1<=i/\f (i- 1) h) where
 live:=λi h a=>D.live _ h a.2
 frame:=λi h c a k=>(a.1,D.frame _ h c a.2 k)
 item:=λi s Q E l a h=>D.item (i- 1) s Q E () a.2 λx c f p j g=>h x c f (a.1,p) (¬_,by rwa[show i+1- 1=i- 1+1 by nofun]) g
 done:=λs Q E a h=>D.done s Q E ∅ h
def Xa(K:aZ)(a:ax):my:=(λi H=>∃(b:af aH) (x:aH),iS K H a b/\b[i]?=ai x,λi H v c=>∃T x,v=.c T/\H T=aq/\c=bu H T (.b [.d (i:ag),x])/\∀b,iS K H a b->b[i]?=ai x,λi H=>∃b:af aH,iS K H a b/\b.length<=i)
def adU(I:aV X pins σ H s)(h:iS X.K H a xs)(i:iS X.K H a ys):xs=ys:=by obtain⟨g,e,⟨m,j,q,o,k⟩,_⟩:=I.a8 h;obtain⟨f,d,⟨l,c,p,n,b⟩,_⟩:=I.a8 i;rw[j]at c;cases c;rw[k]at b;injection b with b;have:g=f:=∅;subst this;exact e.a4 d
def adS{P:cn}{w:bS}{K:aZ}{N:af bI}{kk:ag}{F:dj}(a e j:ax):
  qd P w K (.Tuple N kk F) (Xa K a) [e,j] e (λi h=>(∃c,Dq h e j ((i:ag):ah) c)/\h.IsTupleIter j a i/\e≠j) where
 g:=(_)
 a:=λi h r b y=>by
  obtain⟨⟨c,m⟩,⟨o,O,D,hd⟩,_⟩:=r;have e':b=e\/b=j:=∅;rcases e' with z|z;·nofun
  ·nofun
 c:=λi h h' r k=>let((c,m),(o,O,D,hd),d):=r;((c,k e (_) _ m),(o,k j (_) o O,D,hd),d)
 d:=by
  intro X hP hw hK D i v s σ H E I R r hg;subst hP hw hK;obtain⟨⟨c,m⟩,f,d⟩:=r;obtain⟨xs,x,W,hx⟩:=hg;obtain⟨t,U,p,hz⟩:=I.a8 W;obtain⟨u,hu,ru⟩:=U.a1 hx;have g1:=eU m;have g8:j<s.heap.objs.size:=by obtain⟨_,q,_⟩:=f;exact eU q
  have pt:s.heap.IsTuple a t.toArray:=by obtain⟨o,g,l,n,L⟩:=p;exact(o,g,l,n,L)
  have J:a≠j:=λz=>by obtain⟨o,g,l,_⟩:=p;obtain⟨o',C,B,_⟩:=f;rw[z,C]at g;cases g;rw[B]at l;exact bG l ⋯
  have h0:a≠e:=λz=>by obtain⟨o,g,l,_⟩:=p;rw[z,m]at g;cases g;have L:qU "enumerate"=qU "tuple":=l;exact bG L ⋯
  have Z:i<t.toArray.size:=(by left);refine Yf (x8 (by have:=I.ok.hd D;simpa using this) J) m (f,pt) Z d () λS h' tk g6 O G hT g7 hk=>?_;have V:S=u:=∅;subst V;refine(_,aa,Ny O λM g9 T=>?_);have g5:=(T.2 _<|DA g1).trans hT;have g0:hZ X.a2 X.w (bu H s.heap.objs.size<|.b [.d i,x]) M s.heap.objs.size (.b [.d i,x]):=(by show 2<=dG;decide,[.int i tk,S],.cons (_,aa)<|.cons ru .nil,(_,g5,aa,_,aa));have I1:aV X v σ (bu H s.heap.objs.size<|.b [.d i,x]) {s with heap:=M,toks:=tk+1}:=I.c8 (λb ob y q=>(T.2 b<|λz=>y ∅).trans<|hk b ob (λz=>y (by simp[*])) (λz=>y ∅) q) R (b_ _) g0;refine(.c s.heap.objs.size,_,I1,aa,(_,x,aa,I.a1.a0<|b_ _,aa,λys hy=>by rwa[adU I hy W]),((S,?_),?_,d),λb y=>?_);·symm
  ·obtain⟨⟨o,Y,g3,g2⟩,_⟩:=G;exact(o,(T.2 j<|dZ d).trans Y,g3,g2)
  ·have g4:b<s.heap.objs.size:=();rw[aO<|kY g4];exact(R b y).1
 e:=by
  intro X hP hw hK D i v s σ H E I R r hg;subst hP hw hK;obtain⟨⟨c,m⟩,f,d⟩:=r;obtain⟨xs,W,hx⟩:=hg;obtain⟨t,U,p,hz⟩:=I.a8 W;obtain⟨f0,f1,f2,f3,f4,f5⟩:=R j (_);have hl:=U.a0;have pt:s.heap.IsTuple a t.toArray:=by obtain⟨o,g,l,n,L⟩:=p;exact(o,g,l,n,L)
  have J:a≠j:=λz=>by obtain⟨o,g,l,_⟩:=p;obtain⟨o',C,B,_⟩:=f;rw[z,C]at g;cases g;rw[B]at l;exact bG l ⋯
  exact Yg (v8 (by have:=I.ok.hd D;simpa using this) ∅) m (aa,f,pt) λh' eb=>(aa,I.a5 (λb o y q=>eb b o y q) f0 f1 f3 f4 f5)
 f:=λA i s Q E r h=>let((_,m),_):=r;Ad m h
def pu(K:aZ)(f:iD):oo:=λc H R=>f c H λe b=>∃a d,e=[.c a]/\iS K b a d/\R (Xa K a) b
def PE(hg:dn X "enumerate")(x:X.mg "enumerate"=aq)(Q:eW X [e] ta)(w:dC [e] X.a0=[(aw,bN e X.a0)]|>1):
  fz X (.Tuple elts kk tpos) (.Call (.Name "enumerate" p) [e] [] pos) (pu X.K ta):=by
 intro d s l H R I h;refine Av<|tu I hg x Oc<|yl (bZ (Q pos d s l H _ I h) λJ c (G,E,g,t,u)=>?_) w aa;obtain⟨a,F,C,P,q⟩:=u;subst C;cases t using X4 with|cons r m=>
  cases m;cases r;obtain⟨i,L,v,M⟩:=g.a8 P;have K:c.heap.IsTuple a i.toArray:=by obtain⟨o,B,A,n,z⟩:=v;exact(o,B,A,n,z)
  refine Z5 K λO k j y=>Ad k ?_;have D:=g.a7 (t':=c.toks) y;refine(c.heap.objs.size+1,[c.heap.objs.size+1,c.heap.objs.size],_,_,E,aa,D,adS a (c.heap.objs.size+1) c.heap.objs.size,((.none,k),j,Og _),λb N=>?_,q);have f:c.heap.objs.size<=b:=();exact g.b6 f<|g.a1.a0 f
def Xb(K:aZ)(a:ax):my:=(λi H=>∃(b:af aH) (x:aH),dX K H a b/\b[i]?=ai x,λi H v c=>∃T x,v=.c T/\H T=aq/\c=bu H T (.b [.d ((i+1:ag):ah),x])/\∀b,dX K H a b->b[i]?=ai x,λi H=>∃b:af aH,dX K H a b/\b.length<=i)
def adT{P:cn}{w:bS}{K:aZ}{L:af bI}{kk:ag}{D:dj}(a e g:ax):
  qd P w K (.Tuple L kk D) (Xb K a) [e,g] e (λi h=>(∃c,Dq h e g ((i+1:ag):ah) c)/\h.IsListIter g a i/\e≠g) where
 g:=(_)
 a:=λi h l b r=>by
  obtain⟨⟨c,j⟩,⟨o,ho,N,hd⟩,_⟩:=l;have e':b=e\/b=g:=(by nofun);rcases e' with z|z;·nofun
  ·ac_rfl
 c:=λi h h' l k=>let((c,j),hi,d):=l;((c,k e (_) _ j),hi.at λo q=>k g (_) o q,d)
 d:=by
  intro X hP hw hK N i m s σ H E I M l Y;subst hP hw hK;obtain⟨⟨c,j⟩,f,d⟩:=l;obtain⟨xs,x,W,hx⟩:=Y;obtain⟨v,S,p,hz⟩:=I.a3 W;obtain⟨u,hu,ru⟩:=S.a1 hx;have Z:=eU j;have g4:g<s.heap.objs.size:=by obtain⟨_,q,_⟩:=f;exact eU q
  have G:a≠g:=λz=>by obtain⟨o,n,t,B,_⟩:=p;obtain⟨o',C,y,_⟩:=f;rw[z,C]at t;cases t;rw[y]at B;exact bG B ⋯
  have g6:a≠e:=λz=>by obtain⟨o,n,t,B,_⟩:=p;rw[z,j]at t;cases t;have h3:qU "enumerate"=qU "list":=B;exact bG h3 ⋯
  have V:i+1<v.toArray.size+1:=(by left);refine Yf (w8<|Draws.list (by have:=I.ok.hd N;simpa using this) g a G v.toArray) j (¬_,by rw[ZK];exact(f,p.isList)) V d () λO h' tk U ho F hT g3 hk=>?_;rw[ZK]at U;have T:O=u:=∅;subst T;refine(_,aa,Ny ho λJ g5 R=>?_);have g2:=(R.2 _<|DA Z).trans hT;have g0:hZ X.a2 X.w (bu H s.heap.objs.size<|.b [.d ((i+1:ag):ah),x]) J s.heap.objs.size (.b [.d ((i+1:ag):ah),x]):=(by show 2<=dG;decide,[.int ((i+1:ag):ah) tk,O],.cons (_,aa)<|.cons ru .nil,(_,g2,aa,_,aa));have I1:aV X m σ (bu H s.heap.objs.size<|.b [.d ((i+1:ag):ah),x]) {s with heap:=J,toks:=tk+1}:=I.c8 (λb ob r q=>(R.2 b<|λz=>r ()).trans<|hk b ob (λz=>r ()) (λz=>r ()) q) M (b_ _) g0;refine(.c s.heap.objs.size,_,I1,aa,(_,x,aa,I.a1.a0<|b_ _,aa,λys hy=>by rwa[I.c1 hy W]),((O,?_),?_,d),λb r=>?_);·symm
  ·have:=F.2.1;rw[show i+1+1- 1=i+1 by rfl]at this;exact this.at λo q=>(R.2 g<|dZ d).trans q
  ·have g1:b<s.heap.objs.size:=();rw[aO<|kY g1];exact(M b r).1
 e:=by
  intro X hP hw hK N i m s σ H E I M l Y;subst hP hw hK;obtain⟨⟨c,j⟩,f,d⟩:=l;obtain⟨xs,W,hx⟩:=Y;obtain⟨v,S,p,hz⟩:=I.a3 W;obtain⟨f0,f1,f2,f3,f4,f5⟩:=M g (_);have hl:=S.a0;have G:a≠g:=λz=>by obtain⟨o,n,t,B,_⟩:=p;obtain⟨o',C,y,_⟩:=f;rw[z,C]at t;cases t;rw[y]at B;exact bG B ⋯
  exact Yg (r8 (by have:=I.ok.hd N;simpa using this) (by ac_rfl)) j (aa,f,p.isList) λh' eb=>(aa,I.a5 (λb o r q=>eb b o r q) f0 f1 f3 f4 f5)
 f:=λA i s Q E l h=>let((_,j),_):=l;Ad j h
def St(K:aZ)(f:iD):oo:=λc H R=>f c H λe b=>∃a d,e=[.c a]/\dX K b a d/\R (Xb K a) b
def NE(hg:dn X "enumerate")(G:X.mg "enumerate"=aq)(W:eW X [e] ta)(F:dC [e] X.a0=[(aw,bN e X.a0)]|>1)
  (hall:((pX pos<|pV [(ai "start",.Constant (.int 1) ck cpos,kpos)] X.a0).all λx=>x.fst.isSome)=ao|>1)
  (hks:(pX pos<|pV [(ai "start",.Constant (.int 1) ck cpos,kpos)] X.a0).filterMap (·.1)=[("start":aC)]|>1)
  (hpl:((lH pos<|dC [e] X.a0).any (·.1)||(pX pos<|pV [(ai "start",.Constant (.int 1) ck cpos,kpos)] X.a0).any (·.1.isNone))=aw|>1):
  fz X (.Tuple elts kk tpos) (.Call (.Name "enumerate" p) [e] [(ai "start",.Constant (.int 1) ck cpos,kpos)] pos) (St X.K ta):=by
 intro c s m H R I h;refine yf<|tu I hg G Oc ?_;refine PySem.W.callWith_of (P:=λ_=>eA) hpl (λL _=>(.machine,.inr<|.inl aa,G4 aa)) ?_;obtain⟨y,u⟩:∃y,lH pos (dC [e] X.a0)=[(aw,y)]:=(_,by rw[F];rfl);have g:=W pos c s m H _ I h;rw[u]at g ⊢;refine evalArgs_kw hall<|bZ g λZ w (Y,v,S,B,C)=>?_;refine bZ ((abt uQ abr) pos c w m v (λn l=>n=[.d 1]/\l=v) S (aa,aa)) λU d (n,l,i,z,M,O)=>(dU,?_);subst M O;rw[hks];obtain⟨a,T,N,K,q⟩:=C;subst N;obtain⟨V,rfl,j⟩:=z.a3;obtain⟨t,rfl⟩:=j;cases B using X4 with|cons r A=>cases A;cases r;obtain⟨E,rv,D,hz⟩:=i.a3 K;refine X5 D.isList λL o k J=>Ad o ?_;have Q:=i.a7 (t':=d.toks) J;refine(d.heap.objs.size+1,[d.heap.objs.size+1,d.heap.objs.size],_,_,l,aa,Q,adT a (d.heap.objs.size+1) d.heap.objs.size,((.none,o),k,Og _),λb u=>?_,q);have f:d.heap.objs.size<=b:=();exact i.b6 f<|i.a1.a0 f
section
variable{X:bA}{E G F Z H:ay}{L:cw}{B U Y:af bL}{tg e e2 a b c P S:bI}{es:af bI}{m p M J O:dj}{d d1 d2:az}{ds:af az}{i j:ah}{x f:aC}{C:ax}{ns:af aC}{K:aZ}
mutual
inductive qC:az->gM->Prop
 |a0:qC .e .none
 |a2 (i:ah):qC (.a i) (.int i)
 |a4 {ds:af az} {es:af gM}:ua ds es->qC (.f ds) (.tuple es)
 |a3 {ds:af az} {es:af gM}:ua ds es->qC (.d ds) (.list es)
inductive ua:af az->af gM->Prop
 |a2:ua [] []
 |a1 {d:az} {ds:af az} {e:gM} {es:af gM}:qC d e->ua ds es->ua (d::ds) (e::es)
end
def qC.dp(s:bD F H)(d:az){e:gM}{v:aH}(h:qC d e)(r:bY F v d):mz K H v e:=bY.rec (F:=F) (motive_1:=λv d _=>∀e,qC d e->mz K H v e) (motive_2:=λv d _=>∀e,ua d e->tE K H v e) (λ_ h=>by cases h;exact .a5) (λb _ h=>by cases h) (λi _ h=>by cases h;exact .a4 i) (λb _ h=>by cases h) (λq _ y _ h=>by cases h with|a4 h=>exact .a3 (iS.of<|s _ _ q)<|y _ h) (λq _ y _ h=>by cases h with|a3 h=>exact .a1 (dX.of<|s _ _ q)<|y _ h) (λ_ _ _ _ _ h=>by cases h) (λ_ _ _ _ _ h=>by cases h) (λ_ _ _ _ _ h=>by cases h) (λ_ h=>by cases h;exact .b) (λ_ _ y z _ h=>by cases h with|a1 o n=>exact .a (y _ o)<|z _ n) r _ h
def ua.dp(s:bD F H)(d:af az){e:af gM}{g:af aH}(h:ua d e)(r:cx F g d):tE K H g e:=ua.rec (motive_1:=λ_ _ _=>eA) (motive_2:=λd e _=>∀v,cx F v d->tE K H v e) dU (λ_=>dU) (λ_ _=>dU) (λ_ _=>dU) (λ_ r=>by cases r;exact .b) (λo _ _ z _ r=>by cases r using X2 with|a0 l k=>exact .a (qC.dp s _ o l)<|z _ k) h _ r
def zh{g:α->az}{h:α->gM}(k:∀a,qC (g a)<|h a):∀(l:af α),ua (l.map g)<|l.map h
 |[]=>.a2|z::l=>.a1 (k z)<|zh k l
def SY(K:aZ)(g:da):oq:=λx y H Q=>∃d es,mz K H x d/\mz K H y (.list es)/\rS es=ao/\d.canLay0=ao/\lJ es<=8/\Q (.e (if g then !(es.any λy=>y.eqv d)else es.any λy=>y.eqv d)) H
def TH(hu:X.A.units+64<nW):gi X (jy .In) (SY X.K aw):=by intro g s L H x y v u Q I A k h;obtain⟨d,es,r,o,w,t,z,q⟩:=h;obtain⟨D,n⟩:=mz.a0 I d x v r A;obtain⟨bs,l⟩:=mz.a0 I _ y u o k;exact SeqAt.in_list_reads l n w t (by lia) (.e _,H,I,aa,q)
def XK(hu:X.A.units+64<nW):gi X (jy .NotIn) (SY X.K ao):=by intro g s L H x y v u Q I A k h;obtain⟨d,es,r,o,w,t,z,q⟩:=h;obtain⟨D,n⟩:=mz.a0 I d x v r A;obtain⟨bs,l⟩:=mz.a0 I _ y u o k;exact SeqAt.notIn_list_reads l n w t (by left) (.e _,H,I,aa,q)
def yQ(h1:qC d pd)(r:ua ds es')(v:rS es'=ao)(u:pd.canLay0=ao)(t:lJ es'<=8)(n:(es'.any λy=>y.eqv pd)=k)(A:aA X a (aP E G B d))(o:aA X b (aP E G B<|.d ds))
  (hr:dy 1 X.A|>3)(l:oY .In b=aw|>5):cP X (.Compare a [.In] [b] m) (eg E G B k):=
 rk (TH hr.a0) A o (λF H z w Q s h g q=>(pd,es',h1.dp s _ h,(qC.a3 r).dp s _ g,v,u,t,by rwa[n])) l
def wV(n:ag)(h:B[n]?=ai (.c ds))(z:qC d pd)(w:ua ds es')(W:rS es'=ao)(V:pd.canLay0=ao)(T:lJ es'<=8)(t:(es'.any λy=>y.eqv pd)=k)(N:aA X a (aP E G B d))
  (hr:dy 1 X.A|>3)(v:X.N[n]?=ai x|>1)(l:eF X.a0.scope x|>3)(u:dA x|>2)(o:fP x|>2)
  (hm:oY .In (.Name x p)=aw|>5):cP X (.Compare a [.In] [.Name x p] m) (eg E G B k):=
 qD (yz (TH hr.a0) N (ft v l u o) hm) λL H Q (F,A,q)=>(F,A,λv1 F1 H1 r g s=>by obtain⟨ad,vs,R,I,g3,g4,D⟩:=g.a0 n ds h;exact(_,R,pd,es',z.dp g.fh _ s,.a1 (dX.of I)<|w.dp g.fh _ D,W,V,T,by rw[t];exact(k,aa,q F1 H1 r g)))
def iW:af aC:=["pipe","valve","pump"]
def Cs.sq(h:Cs K mg):∃a,mg "KIND_WORDS"=ai (.ref a)/\∀H,iS K H a<|iW.map aH.g:=by obtain⟨a,o,g,n,t,s,r,q,l,k⟩:=h.ex;exact(a,t,λH=>.inr (o,g,n,s,r,q,l,k))
def bv(kw:Cs X.K X.mg)(Q:X.mg "enumerate"=aq)(r:dn X "KIND_WORDS"|>1)(W:dn X "enumerate"|>1)(u:dC [.Name "KIND_WORDS" M] X.a0=[(aw,bN (.Name "KIND_WORDS" M) X.a0)]|>1):
  fz X (.Tuple elts kk J) (.Call (.Name "enumerate" p) [.Name "KIND_WORDS" M] [] m) (kJ E G B<|qy 0<|iW.map az.j):=by
 obtain⟨z,h1,l⟩:=kw.sq;refine sI (PE W Q (kZ (AM (v:=.c z) r h1 aa) pq u) u) λL H R (F,A,k)=>?_;refine(z,_,aa,l H,k _ F H (bD.a2 _) A (λi F H s t q=>?_,λi F H x H' d s t hd I=>?_,λi F H s t q=>?_));rw[xA]at q;have N:i<(iW.map aH.g).length:=(_);exact(_,(iW.map aH.g)[i],l H,by nofun);obtain⟨T,y,rfl,V,rfl,o⟩:=I;obtain⟨g,h,rfl⟩:=Gd hd;have n:=o _<|l H;rw[cV]at h n;cases D:iW[i]? with
 |none=>rw[D]at h;cases h
 |some w=>rw[D]at h n;cases h;cases n;refine(bu F T<|.b [.d i,.g w],(cZ.a3 t).a8 V,.a3 bO<|.a0 ?_<|.a0 (.a9 w) .a2);rw[HQ];exact .a1 _
 rw[xA]at q;exact(_,l H,by rwa[cb])
def J8(kw:Cs X.K X.mg)(s:aA X b (aP E G B<|.a (k:ag)))(h:iW[k]?=ai w)(g:dn X "KIND_WORDS"|>1)(r:qe b|>4):aA X (.Subscript (.Name "KIND_WORDS" p) b m) (aP E G B<|.j w):=by obtain⟨y,u,t⟩:=kw.sq;refine eL (rY PU (AM (v:=.c y) g u aa) s r) λL H Q (F,A,q)=>(F,A,λI z l n D o=>?_);cases o;exact(_,_,_,.g w,aa,aa,t l,gQ (by rw[cV,h];rfl),q _ z l n D<|.a9 w)
def lv(hm:X.mg "enumerate"=aq)(h:aA X e (aP E G B<|.d ds))(hg:dn X "enumerate"|>1)(w:dC [e] X.a0=[(aw,bN e X.a0)]|>1)
  (hall:((pX m<|pV [(ai "start",.Constant (.int 1) ck cpos,kpos)] X.a0).all λx=>x.fst.isSome)=ao|>1)
  (hks:(pX m<|pV [(ai "start",.Constant (.int 1) ck cpos,kpos)] X.a0).filterMap (·.1)=[("start":aC)]|>1)
  (hpl:((lH m<|dC [e] X.a0).any (·.1)||(pX m<|pV [(ai "start",.Constant (.int 1) ck cpos,kpos)] X.a0).any (·.1.isNone))=aw|>1):
  fz X (.Tuple elts kk J) (.Call (.Name "enumerate" p) [e] [(ai "start",.Constant (.int 1) ck cpos,kpos)] m) (kJ E G B<|qy 1 ds):=
 sI (NE hg hm (au h aD w) w hall hks hpl) λL H R (F,A,k)=>(F,A,λws F1 H1 N D V=>by
  obtain⟨v,rfl,Q⟩:=kN V;cases Q using W2 with|a0 e r=>
   rename_i a l;refine(a,l,aa,dX.of<|D.fh _ _ e,k _ F1 H1 N D (λi F H s t o=>?_,λi F H x H' d s t hd hy=>?_,λi F H s t o=>?_));rw[xA]at o;have hv:i<l.length:=by rwa[r.a1]
   exact(l,l[i],dX.of<|t _ _<|s _ _ e,by simp);obtain⟨T,y,rfl,z,rfl,n⟩:=hy;obtain⟨g,W,rfl⟩:=Gd hd;obtain⟨u,h1,h2⟩:=r.a4 W;have q:=n l<|dX.of<|t _ _<|s _ _ e;rw[h1]at q;cases q;have I:bD F (bu F T<|.b [.d ((i+1:ag):ah),y]):=jG<|t.a1 z;refine(bu F T<|.b [.d ((i+1:ag):ah),y],(cZ.a3 t).a8 z,.a3 bO<|.a0 ?_<|.a0 (h2.up<|s.a0 I) .a2);rw[Nat.add_comm 1 i];exact .a1 _;rw[xA]at o;exact(l,dX.of<|t _ _<|s _ _ e,by rwa[r.a1]))
end
def aeF(R:af az->af az->Prop):k_:=λg H Q _=>∃F f e,bD F H/\cx F g f/\R f e/\∀a d c b,cZ F H c b->b a=ai (.a d)->c a=aq->H a=aq->cx c d e->Q (.c a) b
structure Ct(P:cn)(w:bS)(K:aZ)(mg:aC->aJ aB)(base:bT)(k:ag)(x:aC)(R:af az->af az->Prop):Prop where
 ex:∃(f:ax) (fd:jY) (ps:af aC),gR P w K mg base kb k f fd ps (aeF R)/\mg x=ai (.ref f)/\mr K (.ref f)=ao/\la K fd ps []
def wW(f c:ay)(h:af bL)(i:af az):hX:=λE g H=>∃F,bE f c F H g h/\∀a e b d,bD F b->cZ f c b d->d a=ai (.a e)->b a=aq->c a=aq->cx b e i->E.b (.c a) d
section
variable{X:bA}{d g F j H:ay}{o:cw}{c u m:af bL}{e:bI}{r:af bI}{i p:dj}{l b:af az}{x:aC}{t:du}{rest:af du}
def FY(h1:cH X t (cT d g c<|.a m))(q:bg X rest (wW d g m b)):bg X (t::rest) (wW d g c b):=fg (eN h1 q) λE o H (F,A,k)=>(F,A,λf j z s y=>(j,y,λa h w v n=>k a h w v<|s.a0 n))
def D7(n:ag)(v:c[n]?=ai (.c l))(h:bg X rest (wW d g (c.set n<|.a<|.d l) b)):bg X rest (wW d g c b):=fg h λE o H (F,A,k)=>by obtain⟨j,s,z⟩:=A.b6 v;exact(j,z,λa f y w q=>k a f y w<|s.a0 q)
def E7(h:aA X e (lV d g c b)):bg X (.Return (ai e) i::rest) (wW d g c b):=fg (eN (yA h) lM) λE o H (F,A,k)=>(F,A,λa f j y s z w v q B n=>k a f j y s z.tocZ w v q n)
def F7(n:ag)(s:c[n]?=ai (.c b))(w:X.N[n]?=ai x|>1)(q:eF X.a0.scope x|>3)(v:dA x|>2)(f:fP x|>2):
  bg X (.Return (ai<|.Name x p) i::rest) (wW d g c b):=
 fg (eN (yA<|ft w q v f) lM) λE o H (F,A,k)=>by obtain⟨a,h,D,C,B,z,y⟩:=A.a0 n b s;exact(_,D,k a h F H (bD.a2 _) A.tocZ C B z y)
def Wg(h:Ct X.a2 X.w X.K X.mg X.a8 k x R)(w:eW X (e::r) (lW d g c l))(M:R l b)(D:dy k X.A|>3)(J:dn X x|>1)(v:dA x|>2)
  (he:eI X e r|>1)(s:eG X i r|>1):aA X (.Call (.Name x p) (e::r) [] i) (lV d g c b):=by
 obtain⟨f,Y,W,F,E,I,L⟩:=h.ex;refine eL (uR F D J E I L .nil (mZ) w v he s) λo H Q (G,A,q)=>(G,A,λU T Z B n V=>?_);refine(T,l,b,n.fh,?_,M,λa z S P rl O N y C=>q a z S P (B.a0 rl.ff) (n.up rl) O N (n.hh.a1 y) (n.b4 y) C);nofun
end
section
variable{K:aZ}
def Uk{j:du}(Y:cu K c x j)(S:bW N ps (bf j))
  (hb:∀(D n v:aB) (O:aJ ax) (g M:aB) (l:af aB),l.length=ps.length->uy (nX x x (pw j) (iQ j) (bf j) .none D n v O g M) (l,[])=cA (ps.zip l))
  (len:∀i d,R i d->i.length=ps.length)
  (body:∀{f:ax} {g:aB} {A:fG} {e:af ig} {s:ba} {H:ay} {E:jC} (V T:ay) (i o:af az),dy k (ml P w K c b N x j f g A e s H E).A->R i o->
   bg (ml P w K c b N x j f g A e s H E) (iQ j) (wW V T (rn N i) o)):Ct P w K c b (k+1) x R:=by
 obtain⟨f,L,F,z⟩:=Y.a;refine(f,L,ps,F.ok S (λt H Q E h=>?_)<|λg A e s H t Q E y h=>?_,z,F.kp,F.a1 hb);obtain⟨G,i,d,_,r,m,_⟩:=h;rw[r.a1,len i d m];obtain⟨G,i,d,B,r,m,q⟩:=h;exact(_,body G H i d y m,G,zD B r,λa p X U s Z J I C u=>q a p X U Z J I C u)
def Ct.a1(h:Ct P w K c b k x R)(v:∀e d,R' e d->∃g,d=.d g/\R e g):cI P w K c b k x R':=by obtain⟨f,C,n,F,p,t,u⟩:=h.ex;refine(f,C,n,F.a2 λI H Q E o=>?_,p,t,u);obtain⟨G,e,d,y,r,i,q⟩:=o;obtain⟨g,rfl,j⟩:=v e d i;refine(G,e,g,y,r,j,λa D L J rl B A z m=>?_);obtain⟨l,s⟩:=rl.a6 B A z;exact q _ _ _ l<|.a0 bO<|m.up s
end
def lx(m:ag)(t:af (af ag)×af ag)(c:ag):af (af ag)×af ag:=if c=m then(t.1++[t.2],[])else(t.1,t.2++[c])
def Wr(m:ag):∀(l:af ag) (t:af (af ag)×af ag),t.1++gq m t.2 l=(l.foldl (lx m) t).1++[(l.foldl (lx m) t).2]
 |[],t=>aa|c::l,t=>by
  rw[fO,<-Wr m l];unfold lx;have e:gq m t.2 (c::l)=if c=m then t.2::gq m [] l else gq m (t.2++[c]) l:=by rw[gq]
  rw[e];by_cases h:c=m;nofun;nofun
def Cg(m:ag):∀(l:af ag) (a:af ag),(gq m a l).length<=l.length+1/\0<(gq m a l).length
 |[],a=>(b_ _,Nat.one_pos)|c::l,a=>by unfold gq;split;have:=Cg m l [];exact(by simp;nofun,());have:=Cg m l<|a++[c];exact(by simp;(constructor<;>nofun),this.2)
def LX(m:ag):∀(l a w:af ag),w∈gq m a l->w.length<=a.length+l.length
 |[],a,w,h=>by simp[gq]at h;subst h;simp|c::l,a,w,h=>by unfold gq at h;split at h;rcases fq.mp h with rfl|h;simp;have:=LX m l [] w h;simp at this ⊢;lia;have:=LX m l (a++[c]) w h;simp at this ⊢;lia
def Vz(m:ag)(l:af ag):(l.foldl (lx m) ([],[])).1.length<=l.length/\(l.foldl (lx m) ([],[])).2.length<=l.length:=by
 have a:∀(l:af ag) (t:af (af ag)×af ag),(l.foldl (lx m) t).1.length<=t.1.length+l.length/\(l.foldl (lx m) t).2.length<=t.2.length+l.length:=by
  intro l;induction l with|nil=>intro t;exact(b_ _,b_ _)|cons c l b=>intro t;have b:=b (lx m t c);have:(lx m t c).1.length<=t.1.length+1/\(lx m t c).2.length<=t.2.length+1:=(by unfold lx;split<;>simp);rw[fO,ij];lia
 simpa using a l ([],[])
def Wo(l:af ag):cR l=aM (l.map Ba):=by simp
section
variable{K:aZ}
def R4(ds:af az)(d:az):Prop:=∃x:aC,ds=[.j x]/\x.cps.size<=100000/\d=cR x.cps.toList
def J':bW ["word","sign"] ["word"] (bf<|aK 54):={}
def S4(b a:af az):Prop:=∃x:aC,b=[.j x]/\x.cps.size<=100000/\a=x.cps.toList.map λc=>az.a (c:ag)
def VP(J:cq K g i):Ct P w K g f 40 "in_bytes" S4:=by refine Uk J.C J' (λ_ _ _ _ _ _=>Q1 λ_=>aa) (λl d h=>by obtain⟨_,e,_⟩:=h;rw[e];rfl) λp o l d n k=>?_;obtain⟨x,rfl,m,rfl⟩:=k;refine E7<|pJ (km x.cps.toList (λc=>az.j ⟨(List.toArray [c])⟩) (λ_=>ao) (λc=>.a c) (λc=>[.a<|.j x,.a<|.j ⟨(List.toArray [c])⟩]) (own:=[("sign",1)]) (Un (0)) (gP (N:=["word","sign"]) (sc:=bf<|aK 54) ⋯) ⋯ (λ_ _ _ _ _ _ _ z a=>(e_ 1 J'.a)) (λ_ _ _ _ _ _ _ z a=>ji) (λ_ _ _ _ _ _ _ z a _=>(Cb J.T.k (1))) (by simp;lia) aa J'.a) ?_;rw[jM]
def BU(J:cq K g i):cI P w K g f 40 "in_bytes" R4:=(VP J).a1 λe d (x,c,b,a)=>(_,a,x,c,b,aa)
def X6(ds:af az)(d:az):Prop:=∃p:af ag×ag,ds=[cR p.1,.a (p.2:ag)]/\p.1.length<=10000/\d=.d ((gq p.2 [] p.1).map cR)
def Bo:bW ["text","mark","pieces","piece","byte"] ["text","mark"] (bf<|aK 55):={}
def Z6(b a:af az):Prop:=∃p:af ag×ag,b=[cR p.1,.a (p.2:ag)]/\p.1.length<=10000/\a=(gq p.2 [] p.1).map cR
def VO(J:cq K g i):Ct P w K g f 40 "pieces_between" Z6:=by refine Uk J.c Bo (λ_ _ _ _ _ _=>Q2 λ_ _=>aa) (λr d h=>by obtain⟨_,e,_⟩:=h;rw[e];rfl) λu s r d x q=>?_;obtain⟨⟨t,m⟩,rfl,l,rfl⟩:=q;have a:=Wr m t ([],[]);rw[HY]at a;rw[a];have k:=Vz m t;refine FY (ia 2 (cQ aD) Bo.a)<|FY (ia 3 (cQ aD) Bo.a)<|FY (jh t (λc=>az.a c) (λy=>[.a<|cR t,.a<|.a m,.c<|(y.foldl (lx m) ([],[])).1.map cR,.c<|(y.foldl (lx m) ([],[])).2.map λc=>az.a (c:ag),.b]) (λy c=>[.a<|cR t,.a<|.a m,.c<|(y.foldl (lx m) ([],[])).1.map cR,.c<|(y.foldl (lx m) ([],[])).2.map λc=>az.a (c:ag),.a<|.a c]) (gm (0)) (λy z b p=>(e_ 4 Bo.a)) (λy c b p=>?_) aa fT)<|D7 3 aa<|FY (kf 2 aa (3) (by simp;lia))<|F7 2 ();have j:=Vz m y;rw[rV];show bg _ _<|cT u s _<|.a [_,_,.c<|(lx m (y.foldl (lx m) ([],[])) c).1.map cR,.c<|(lx m (y.foldl (lx m) ([],[])) c).2.map λc=>az.a (c:ag),_];generalize y.foldl (lx m) ([],[])=v at j ⊢;unfold lx;by_cases n:c=m;rw[aG n];refine fj (aL (bK (ec (4) (1)) (λ_=>(iI 3 aa<|aL (kf 2 aa (3) ())<|aL (ia 3 (cQ aD) Bo.a) bV))<|λh=>bG (mQ h) (_)) bV) ?_;rw[eV];exact .a0<|.a0<|.a0<|.a0<|.no .a2;rw[aE n];refine fj (aL (bK (ec (4) (1)) (λh=>bG (iM h) !_)<|λ_=>(aL (kf 3 aa (4) ()) bV)) bV) ?_;rw[eV];exact .a0<|.a0<|.a0<|.a0<|.no .a2
def Vf(J:cq K g i):cI P w K g f 40 "pieces_between" X6:=(VO J).a1 λe d (x,c,b,a)=>(_,a,x,c,b,aa)
def lg(t:af ag):af (af ag):=(gq 32 [] t).filter λx=> !x.isEmpty
def K6(ds:af az)(d:az):Prop:=∃t:af ag,ds=[cR t]/\t.length<=10000/\d=.d ((lg t).map cR)
def JZ:bW ["line","piece"] ["line"] (bf<|aK 56):={}
def sv(J:cq K g i):cI P w K g f 41 "words_of" K6:=by refine cW J.d6 JZ λl k j d e c=>?_;obtain⟨t,rfl,b,rfl⟩:=c;have h:=Cg 32 t [];refine fB (aX<|bb<|bJ<|km (gq 32 [] t) cR (λx=>aT<|0<x.length) cR (λx=>[.a<|cR t,.a<|cR x]) (own:=[("piece",1)]) (gm<|aY (Vf J) #[(0),cY J.T.B] ((t,32),aa,b,aa)) (gP (N:=["line","piece"]) (sc:=bf<|aK 56) ⋯) ⋯ (λ_ _ _ _ _ _ _ z a=>(e_ 1 JZ.a)) (λ_ _ _ _ _ _ _ z a=>(DT<|cX (jE (dO J.T.e (1)) aF) ())) (λ_ _ _ _ _ _ _ z a _=>(1)) (by lia) aa JZ.a) ?_;congr 3;funext x;cases x<;>rfl
def m4(ds:af az)(d:az):Prop:=∃t:af ag,ds=[cR t]/\d=match qN t with|none=>.e|some k=>.a (k:ag)
def Sh:bW ["word","kind","name"] ["word"] (bf<|aK 57):={}
def EJ(ha:aA X a (aP F0 H0 ρ<|cR l))(c:aA X b (aP F0 H0 ρ<|cR m))(d:dy 1 X.A|>3):cP X (.Compare a [.Eq] [b] pos) (eg F0 H0 ρ<|aT<|l=m):=by rw[Wo]at ha c;refine cX (ad3 ha c d) ?_;rw[xM];grind[ZV]
def La(t:af ag)(q:ag×aC):aJ az:=if t=q.2.cps.toList then ai (.a (q.1:ag))else aq
def jp:(uA "pipe").cps.toList=zX "pipe":=⋯
def np:(uA "valve").cps.toList=zX "valve":=⋯
def wp:(uA "pump").cps.toList=zX "pump":=⋯
def w9(J:cq K g i):cI P w K g f 41 "kind_of" m4:=by
 refine cW J.y Sh λr p o d n m=>?_;obtain⟨t,rfl,rfl⟩:=m;refine yZ (yY (bj 0 iW) (λq=>az.f [.a q.1,.j q.2]) (λ_=>[.a<|cR t,.b,.b]) (λ_ q=>La t q) (λs q=>[.a<|cR t,.a<|.a q.1,.a<|.j q.2]) (jm (bv J.W J.T.p)<|xy _ 0 _) (λs z a l=>(mf 1 2 aa Sh.a)) (λs q a l=>?_) aa fT) ?_;have u:q.2∈iW:=by have c:=LD l;grind?
 have b:q.2.cps.size<=100000:=by have:∀x∈iW,x.cps.size<=100000:=⋯;symm
 unfold La;by_cases h:t=q.2.cps.toList;rw[aG h];exact aX<|bK (EJ (0)<|aY (BU J) #[(2)] (q.2,aa,b,aa)) (λ_=>(aX<|bb (1)))<|λk=>bG h<|mQ k;rw[aE h];exact fj (aL (bK (EJ (0)<|aY (BU J) #[(2)] (q.2,aa,b,aa)) (λk=>bG (iM k) h)<|λ_=>bV) bV)<|.a0<|.no<|.no .a2;unfold qN;show Mn (kg _ _ [] [(Prod.mk 0<|uA "pipe"),(Prod.mk 1<|uA "valve"),(Prod.mk 2<|uA "pump")]) _ _;unfold kg La;rw[jp];by_cases j:t=zX "pipe";rw[aG j,aG j];exact aa;rw[aE j,aE j];unfold kg;rw[np];by_cases c:t=zX "valve";rw[aG c,aG c];exact aa;rw[aE c,aE c];unfold kg;rw[wp];by_cases e:t=zX "pump";rw[aG e,aG e];exact aa;rw[aE e,aE e];exact aX<|bb eO
end
section
variable{X:bA}{e f:ay}{g:af bL}{a b:bI}{d p q:dj}{i:ah}
def dK(hm:X.mg "ord"=aq)(j:dn X "ord"|>1)(l:dC [.Constant (.str "a") k q] X.a0=(aw,bN (.Constant (.str "a") k q) X.a0)::dC [] X.a0|>1)(h:eG X d []|>1): aA X (.Call (.Name "ord" p) [.Constant (.str "a") k q] [] d) (aP e f g<|.a (97:ag)):=Cb (c:=97) hm (dY Gj<|fk az.j ⋯) j l h
def sK(hm:X.mg "ord"=aq)(j:dn X "ord"|>1)(l:dC [.Constant (.str "z") k q] X.a0=(aw,bN (.Constant (.str "z") k q) X.a0)::dC [] X.a0|>1)(h:eG X d []|>1): aA X (.Call (.Name "ord" p) [.Constant (.str "z") k q] [] d) (aP e f g<|.a (122:ag)):=Cb (c:=122) hm (dY Gj<|fk az.j ⋯) j l h
def BE(hm:X.mg "ord"=aq)(j:dn X "ord"|>1)(l:dC [.Constant (.str "0") k q] X.a0=(aw,bN (.Constant (.str "0") k q) X.a0)::dC [] X.a0|>1)(h:eG X d []|>1): aA X (.Call (.Name "ord" p) [.Constant (.str "0") k q] [] d) (aP e f g<|.a (48:ag)):=Cb (c:=48) hm (dY Gj<|fk az.j ⋯) j l h
def TR(hm:X.mg "ord"=aq)(j:dn X "ord"|>1)(l:dC [.Constant (.str "9") k q] X.a0=(aw,bN (.Constant (.str "9") k q) X.a0)::dC [] X.a0|>1)(h:eG X d []|>1): aA X (.Call (.Name "ord" p) [.Constant (.str "9") k q] [] d) (aP e f g<|.a (57:ag)):=Cb (c:=57) hm (dY Gj<|fk az.j ⋯) j l h
def ad2(ha:aA X a (aP e f g .e))(j:aA X b (aP e f g<|.a i)):cP X (.Compare a [.Eq] [b] d) (eg e f g aw):=rk AN ha j λF H l k Q _ h c q=>by cases h;cases c;exact(aa,q)
def ad1(ha:aA X a (aP e f g .e))(j:aA X b (aP e f g<|.a i)):cP X (.Compare a [.NotEq] [b] d) (eg e f g ao):=rk II ha j λF H l k Q _ h c q=>by cases h;cases c;exact(aa,q)
end
structure mm(t:af ag):Prop where
 a0:t.length<=10000
 a2:∀c∈t,c<256
def mm.a1(h:mm t)(m:ag):∀w∈gq m [] t,mm w:=λw j=>by
 refine(by have i:=LX m t [] w j;have g:=h.a0;have f:([]:af ag).length=0:=aa;left,?_);have b:∀(l a:af ag),(∀c∈a,c<256)->(∀c∈l,c<256)->∀w∈gq m a l,∀c∈w,c<256:=by
  intro l;induction l with|nil=>intro a ha _ w j;simp[gq]at j;subst j;exact ha|cons c l d=>intro a ha e w j;rw[gq]at j;split at j;left;grind?
 exact b t [] () h.a2 w j
def mm.a3(h:mm t):∀w∈lg t,mm w:=λw a=>h.a1 32 w (tr.mp a).1
section
variable{K:aZ}
def oF(t:af ag):da:=aT (t.length<=8)&&t.all Hf
def y4(ds:af az)(d:az):Prop:=∃t:af ag,ds=[cR t]/\t.length<=10000/\d=.g (oF t)
def JY:bW ["word","byte"] ["word"] (bf<|aK 58):={}
def FL(J:cq K b f):cI P w K b a 40 "is_name" y4:=by refine cW (k:=39) J.t JY λm l j d h g=>?_;obtain⟨t,rfl,i,rfl⟩:=g;refine fB (aX<|bb<|LO (Wc (dO J.T.e (0))<|cY J.T.F) λ_=>(LM<|LP (bs:=t.map Hf) aa J.T.v<|dY (bJ<|km t (λc=>az.a (c:ag)) (λ_=>ao) (λc=>.g<|Hf c) (λc=>[.a<|cR t,.a<|.a (c:ag)]) (own:=[("byte",1)]) (gm (0)) (gP (N:=["word","byte"]) (sc:=bf<|aK 58) ⋯) ⋯ (λ_ _ _ _ _ _ _ z e=>(e_ 1 JY.a)) (λ_ _ _ _ _ _ _ z e=>ji) (λ_ _ _ _ _ _ _ z e _=>(dY (Gk (dK J.T.k) (1)<|sK J.T.k) ?_)) (by lia) aa JY.a) ?_)) ?_;unfold Hf;congr 1;lia;rw[jM,eS];rfl;unfold oF;rw[cb,wB];congr 2;lia
def vq(l:af ag):ah:=l.foldl (λ(n:ah) (c:ag)=>n*10+c- 48) 0
def wn:∀(l:af ag),(∀c∈l,c<256)->l.length<=10000->aI 40020 (vq l):=by
 intro l d m;have g:∀(l:af ag) (n:ah) (B:ag),(∀c∈l,c<256)->n.natAbs+30<=B->(l.foldl (λ(n:ah) (c:ag)=>n*10+c- 48) n).natAbs+30<=B*16^l.length:=by
  intro l;induction l with|nil=>intro n B _ h;simpa using h|cons c l i=>intro n B d h;have o:=d c (_);rw[fO,ij,ZA,DB (16^l.length) 16,<-Oj];refine i _ (B*16) (λx j=>d x<|cO _ j) ?_;have p:(n*10+c- 48).natAbs<=n.natAbs*10+c+48:=fx (Int.natAbs_sub_le ..) (Nat.add_le_add_right (fx (Int.natAbs_add_le ..) (by rw[QL];exact b_ _)) _);generalize(n*10+c- 48).natAbs=z at p ⊢;generalize n.natAbs=y at*;lia
 have p:=g l 0 64 d ⋯;unfold aI vq;have e:64*16^l.length=2^(6+4*l.length):=by rw[HR,Nat.pow_mul]
 rw[e]at p;exact gX (Nat.lt_of_lt_of_le (Nat.lt_add_of_pos_right ⋯) p) (yp ⋯ !_)
def rB:aJ ag->az
 |none=>.e|some n=>.a (n:ag)
def vt(l:af ag):ag:=l.foldl (λn c=>10*n+(c- 48)) 0
def sn(l:af ag)(h:l.all qP=ao):vq l=(vt l:ag):=by
 have d:∀(l:af ag) (n:ag),l.all qP=ao->l.foldl (λ(n:ah) (c:ag)=>n*10+c- 48) (n:ah)=((l.foldl (λn c=>10*n+(c- 48)) n:ag):ah):=by
  intro l;induction l with|nil=>intro n _;rfl|cons c l e=>
   intro n h;rw[AF,qH]at h;have g:48<=c/\c<=57:=by simpa[qP]using h.1
   left
 exact d l 0 h
def ln(l:af ag)(h:l.all qP=ao)(g:l.head?≠ai 48)(e:7<l.length):eQ<vt l:=by
 have d:∀(l:af ag) (n:ag),n*10^l.length<=l.foldl (λn c=>10*n+(c- 48)) n:=by
  intro l;induction l with|nil=>intro n;simp|cons c l i=>(nofun;grind?[ij,ZA,DB,Oj,fx,p_])
 cases l with|nil=>simp at e|cons c l=>
  rw[AF,qH]at h;have j:48<=c/\c<=57:=by simpa[qP]using h.1
  have k:c≠48:=λz=>g (_);unfold vt;rw[fO];have p:=d l<|10*0+(c- 48);have o:10^7<=10^l.length:=yp ⋯ (by nofun;lia);have m:1*10^l.length<=(10*0+(c- 48))*10^l.length:=p_ _ !_;unfold eQ;left
def Gl(t:af ag)(h:t≠[])(e:¬(t.head?=ai 48/\1<t.length)):lE t=if t.all qP=ao then(if vt t<=1000000 then ai (vt t)else aq)else aq:=by unfold lE;by_cases d:t.all qP=ao;rw[aG d];by_cases c:7<t.length;rw[aG<|.inr<|.inl c];have g:t.head?≠ai 48:=λz=>e (z,());have:=ln t d g c;unfold eQ at this;nofun;rw[aE];rfl;lia;simp[*]
def Ug(t:af ag)(h:t=[]\/(t.head?=ai 48/\1<t.length)):lE t=aq:=by unfold lE;lia
def k6(ds:af az)(d:az):Prop:=∃t:af ag,ds=[cR t]/\mm t/\d=rB (lE t)
def EU:bW ["digits","number","byte"] ["digits"] (bf<|aK 59):={}
def B9(J:cq K b f):cI P w K b a 40 "number_of" k6:=by
 refine cW (k:=39) J.e EU λF E L d H C=>?_;obtain⟨t,rfl,q,rfl⟩:=C;cases t with|nil=>rw[Ug []<|.inl aa];exact aX (bK (jD.pt<|rj<|cX (ec (dO J.T.e (0)) aF) aa) (λ_=>(aX<|bb eO)) ())|cons l r=>
  have A:¬((((l::r).map λk=>az.a (k:ag)).length:ag):ah)=0:=();by_cases v:(l::r).head?=ai 48/\1<(l::r).length;rw[Ug _<|.inr v];refine aX<|bK (k:=ao) (cX (jD.pt<|er (ec (dO J.T.e (0)) aF) λ_=>(dQ<|jD.pt<|se (ec (bt (0) aF di)<|BE J.T.k) λ_=>(dQ<|jE (dO J.T.e (0)) aF))) ?_) (λ_=>(aX<|bb eO)) ();left;rw[Gl _ ∅ v];refine aL (bK (k:=aw) (cX (jD.pt<|er (ec (dO J.T.e (0)) aF) λ_=>(dQ<|jD.pt<|se (ec (bt (0) aF di)<|BE J.T.k) λ_=>(dQ<|jE (dO J.T.e (0)) aF))) ?_) ()<|λ_=>bV) ?_;left;generalize I:l::r=t at q ⊢;refine aL (cB 1 aF EU.a) ?_;refine yZ (yY t (λc=>az.a (c:ag)) (λD=>[.a<|cR t,.a<|.a<|vq D,.b]) (λ_ c=>if qP c=ao then aq else ai .e) (λD c=>[.a<|cR t,.a<|.a<|vq D,.a<|.a (c:ag)]) (gm (0)) (λD z g y=>(e_ 2 EU.a)) (λD c g y=>?_) aa fT) ?_;have u:=q.a0;have B:D.length<=t.length:=∅;have o:∀x∈D,x<256:=λx G=>q.a2 x ∅;have m:=wn D o !_;by_cases j:qP c=ao;rw[aG j];have p:48<=c/\c<=57:=by simpa[qP]using j
  refine fj (aL (bK (k:=aw) (cX (jD.pt<|er (sg (2)<|BE J.T.k) λ_=>(dQ<|jE (2)<|TR J.T.k)) !_) ()<|λ_=>bV)<|aL (cB 1 (sy (kx (fR (1) aF<|eD m (aI.a2 (n:=4)) ⋯) (2))<|BE J.T.k) EU.a) bV) ?_;have e:vq (D++[c])=vq D*10+(c:ag)-((48:ag):ah):=by simp[vq]
  rw[e];exact .a0<|.a0<|.no .a2;rw[aE j];have p:¬(48<=c/\c<=57):=by simpa[qP]using j
  exact aX<|bK (k:=ao) (cX (jD.pt<|er (sg (2)<|BE J.T.k) λ_=>(dQ<|jE (2)<|TR J.T.k)) !_) (λ_=>(aX<|bb eO)) ();rw[E_,HY];cases i:t.all qP with|false=>exact aa|true=>rw[sn t i];show bg _ _<|cT F E _<|.b<|rB (if vt t<=1000000 then ai (vt t)else aq);by_cases s:vt t<=1000000;rw[aG s];exact aL (bK (jE (1)<|cY J.T.A) (λh=>bG (iM h) !_)<|λ_=>bV)<|aX<|bb (1);rw[aE s];exact aX<|bK (jE (1)<|cY J.T.A) (λ_=>(aX<|bb eO))<|λh=>bG (mQ h) ()
end
def zg:aJ ag->gM
 |none=>.none|some n=>.int (n:ag)
def tC(o:aJ ag):qC (rB o) (zg o):=by cases o;exact .a0;exact .a2 _
def LZ:∀(l:af (aJ ag)),rS (l.map zg)=ao
 |[]=>aa|none::l=>LZ l|some _::l=>LZ l
def LR:∀(l:af (aJ ag)),lJ (l.map zg)=0
 |[]=>aa|none::l=>by show mX 0 (lJ<|l.map zg)=0;rw[LR l];rfl|some _::l=>by show mX 0 (lJ<|l.map zg)=0;rw[LR l];rfl
def Mg:∀(l:af (aJ ag)),((l.map zg).any λy=>y.eqv .none)=l.any (·.isNone)
 |[]=>aa|none::l=>by rw[eE,qZ,qZ,Mg l];rfl|some _::l=>by rw[eE,qZ,qZ,Mg l];rfl
def B':aJ dq->az
 |none=>.e|some f=>cE<|bh f
def zi:aJ dq->gM
 |none=>.none|some f=>.tuple [.int (bh f).1,.int (bh f).2]
def ZB(o:aJ dq):qC (B' o) (zi o):=by cases o;exact .a0;exact .a4<|.a1 (.a2 _)<|.a1 (.a2 _) .a2
def L':∀(l:af (aJ dq)),rS (l.map zi)=ao
 |[]=>aa|none::l=>L' l|some _::l=>L' l
def LU:∀(l:af (aJ dq)),lJ (l.map zi)<=8
 |[]=>mW _|none::l=>by show mX 0 (lJ<|l.map zi)<=8;have:=LU l;symm|some _::l=>by show mX (PyData.depth<|.tuple _) (lJ<|l.map zi)<=8;have:=LU l;exact ZE.mpr (wx aa,this)
def Mh:∀(l:af (aJ dq)),((l.map zi).any λy=>y.eqv .none)=l.any (·.isNone)
 |[]=>aa|none::l=>by rw[eE,qZ,qZ,Mh l];rfl|some _::l=>by rw[eE,qZ,qZ,Mh l];rfl
section
variable{K:aZ}
def o7(ds:af az)(d:az):Prop:=∃t:af ag,ds=[cR t]/\mm t/\d=B' (iZ t)
def JW:bW ["word","numbers","piece"] ["word"] (bf<|aK 60):={}
def G9(J:cq K f i):cI P w K f e 42 "ratio_of" o7:=by
 refine cW (k:=41) J.a4 JW λG F E d C A=>?_;obtain⟨t,rfl,u,rfl⟩:=A;have p:=Cg 47 t [];have y:=u.a0;refine aL (Bt (gq 47 [] t) cR (λ_=>ao) (λx=>rB<|lE x) (λx=>[.a<|cR t,.b,.a<|cR x]) (own:=[("piece",2)]) (gm<|aY (Vf J) #[(0),cY J.T.C] ((t,47),aa,u.a0,aa)) (gP (N:=["word","numbers","piece"]) (sc:=bf<|aK 60) ⋯) ⋯ (λ_ _ _ _ _ _ _ z s=>(e_ 2 JW.a)) (λ_ _ _ _ _ _ _ z s=>ji) (λ_ _ _ _ _ _ _ z s _=>(aY (B9 J) #[(2)] (z,aa,u.a1 47 z s,aa))) (by lia) aa JW.a 1) ?_;rw[jM];have B:(gq 47 [] t).map (λx=>rB<|lE x)=((gq 47 [] t).map lE).map rB:=by simp
 rw[B];unfold iZ;have g:=zh tC<|(gq 47 [] t).map lE;have l:=LZ<|(gq 47 [] t).map lE;have j:=LR<|(gq 47 [] t).map lE;have o:=Mg<|(gq 47 [] t).map lE;generalize D:gq 47 [] t=L at g l j o p ⊢
 match L,p.2 with
 |[a],_=>
  cases H:lE a with|none=>simp only[eE,oa,H]at g l j o ⊢;exact aX (bK (k:=ao) (jD.pt<|rj<|yQ .a0 g l aa (by rw[j];decide) o eO (1)) (λ_=>(aX<|bb eO)) ¬_)|some n=>simp only[eE,oa,H]at g l j o ⊢;refine aL (bK (k:=aw) (cX (jD.pt<|er (yQ .a0 g l aa (by rw[j];decide) o eO (1)) λ_=>(dQ<|jE (dO J.T.e (1)) aF)) (_)) ()<|λ_=>bV) ?_;exact aX<|bK (k:=ao) (cX (ec (dO J.T.e (1)) aF) (_)) (λ_=>(aX<|bb<|kv #[bt (1) aF di,aF])) ¬_
 |[a,b],_=>
  cases H:lE a with|none=>simp only[eE,oa,H]at g l j o ⊢;exact aX (bK (k:=ao) (jD.pt<|rj<|yQ .a0 g l aa (by rw[j];decide) (_) eO (1)) (λ_=>(aX<|bb eO)) ())|some n=>
   cases q:lE b with|none=>simp only[eE,oa,H,q]at g l j o ⊢;exact aX (bK (k:=ao) (jD.pt<|rj<|yQ .a0 g l aa (by rw[j];decide) (_) eO (1)) (λ_=>(aX<|bb eO)) ())|some m=>simp only[eE,oa,H,q]at g l j o ⊢;refine aL (bK (k:=aw) (cX (jD.pt<|er (yQ .a0 g l aa (by rw[j];decide) o eO (1)) λ_=>(dQ<|jE (dO J.T.e (1)) aF)) (_)) ¬_<|λ_=>bV) ?_;refine aL (bK (k:=aw) (cX (ec (dO J.T.e (1)) aF) (_)) ¬_<|λ_=>bV) ?_;by_cases v:m=0;rw[aG v];exact aX<|bK (ec (bt (1) aF eH) aF) (λ_=>(aX<|bb eO))<|λh=>bG (mQ h) (_);rw[aE v];exact aL (bK (ec (bt (1) aF eH) aF) (λh=>bG (iM h) ∅)<|λ_=>bV)<|aX<|bb<|aY (nG J) #[bt (1) aF di,bt (1) aF eH] (_,_,aa,!_,aa)
 |a::b::c::r,_=>refine aX<|bK (k:=ao) (cX (jD.pt<|er (yQ .a0 g l aa (by rw[j];decide) o eO (1)) λ_=>(dQ<|jE (dO J.T.e (1)) aF)) ?_) (λ_=>(aX<|bb eO)) ();grind?
def qr(ws:af (af ag))(k:aJ ag):aJ (dq×dq):=match ws with
 |[_,_,_,g]=>if k=ai 2 then aq else match iZ g with|none=>aq|some x=>if x.num=0 then aq else ai (x,aU)
 |[_,_,_,g,h]=>if k=ai 2 then(match iZ g,iZ h with
  |some x,ai y=>if x.num=0 then aq else ai (x,y)
  |_,_=>aq)else aq
 |_=>aq
def Ks(a b c g:af ag)(k:aJ ag):qr [a,b,c,g] k=if k=ai 2 then aq else match iZ g with|none=>aq|some x=>if x.num=0 then aq else ai (x,aU):=aa
def Kr(a b c g h:af ag)(k:aJ ag):qr [a,b,c,g,h] k=if k=ai 2 then(match iZ g,iZ h with
 |some x,ai y=>if x.num=0 then aq else ai (x,y)
 |_,_=>aq)else aq:=aa
def V':aJ (dq×dq)->az
 |none=>.e|some p=>.d [cE<|bh p.1,cE<|bh p.2]
def p7(ds:af az)(d:az):Prop:=∃p:af (af ag)×aJ ag,ds=[.d<|p.1.map cR,rB p.2]/\(∀w∈p.1,mm w)/\d=V' (qr p.1 p.2)
def JV:bW ["words","kind","ratios","word"] ["words","kind"] (bf<|aK 62):={}
def RH(ha:aA X a (aP F0 H0 ρ<|rB k))(c:aA X b (aP F0 H0 ρ<|.a 2)):cP X (.Compare a [.Eq] [b] pos) (eg F0 H0 ρ<|aT<|k=ai 2):=by
 cases k with|none=>exact cX (ad2 ha c) aa|some n=>exact cX (ec ha c) ()
def RG(ha:aA X a (aP F0 H0 ρ<|rB k))(c:aA X b (aP F0 H0 ρ<|.a 2)):cP X (.Compare a [.NotEq] [b] pos) (eg F0 H0 ρ (!aT (k=ai 2))):=by
 cases k with|none=>exact cX (ad1 ha c) aa|some n=>exact cX (iH ha c) ()
def J9(J:cq K f i):cI P w K f e 43 "ratios_of" p7:=by
 refine cW (k:=42) J.e0 JV λF E D d C A=>?_;obtain⟨⟨b,k⟩,rfl,s,rfl⟩:=A;have s:∀w∈b,mm w:=s;by_cases c:b.length=if k=ai 2 then 5 else 4
 refine aL (bK (k:=aw) (cX (iH (dO J.T.e (0))<|sA (d:=.a (if k=ai 2 then 5 else 4)) (RH (1)<|cY J.T.m) (λh=>(dY aF (by rw[aG<|iM h])))<|λh=>(dY aF (by rw[aE<|mQ h]))) ?_) ¬_<|λ_=>bV) ?_;grind;refine aL (oz (b.drop 3) cR (λ_=>ao) (λx=>B'<|iZ x) (λx=>[.a<|.d<|b.map cR,.a<|rB k,.b,.a<|cR x]) (own:=[("word",3)]) (jm (gm<|bJ<|xh (0) (qt aF) zl) (by show jO (b.map cR) (ai ((3:ag):ah)) aq=_;rw[Ci,yq])) (gP (N:=["words","kind","ratios","word"]) (sc:=bf<|aK 62) ⋯) ⋯ (λ_ _ _ _ _ _ _ z r=>(e_ 3 JV.a)) (λ_ _ _ _ _ _ _ z r=>ji) (λ_ _ _ _ _ _ _ z r _=>(aY (G9 J) #[(3)] (z,aa,s z<|ZR r,aa))) (by left) aa JV.a 2) ?_;rw[jM];have B:(b.drop 3).map (λx=>B'<|iZ x)=((b.drop 3).map iZ).map B':=by rw[eS];rfl
 rw[B];have a:=zh ZB<|(b.drop 3).map iZ;have l:=L'<|(b.drop 3).map iZ;have j:=LU<|(b.drop 3).map iZ;have m:=Mh<|(b.drop 3).map iZ;by_cases q:k=ai 2;rw[aG q]at c
 match b,c with
 |[v,G,u,g,h],_=>
  simp only[K1,eE,oa]at a l j m ⊢;rw[Kr,aG q];cases p:iZ g with|none=>simp only[p]at a l j m ⊢;exact aX (bK (k:=ao) (jD.pt<|rj<|wV 2 aa .a0 a l aa j (_) eO) (λ_=>(aX<|bb eO)) ¬_)|some x=>
   cases t:iZ h with|none=>simp only[p,t]at a l j m ⊢;exact aX (bK (k:=ao) (jD.pt<|rj<|wV 2 aa .a0 a l aa j (_) eO) (λ_=>(aX<|bb eO)) ¬_)|some y=>simp only[p,t]at a l j m ⊢;by_cases n:x.num=0;rw[aG n];exact aX<|bK (k:=ao) (cX (jD.pt<|er (wV 2 aa .a0 a l aa j m eO) λ_=>(dQ<|ec (gb (nJ 2 aa aF di) aF di) aF)) (by simp[bh,n])) (λ_=>(aX<|bb eO)) ¬_;rw[aE n];refine aL (bK (k:=aw) (cX (jD.pt<|er (wV 2 aa .a0 a l aa j m eO) λ_=>(dQ<|ec (gb (nJ 2 aa aF di) aF di) aF)) (by simp[bh,n])) ¬_<|λ_=>bV) ?_;exact aL (bK (k:=aw) (cX (RG (1)<|cY J.T.m) ()) ¬_<|λ_=>bV)<|iI 2 aa<|aX<|bb (2)
 rw[aE q]at c
 match b,c with
 |[v,G,u,g],_=>
  simp only[K1,eE,oa]at a l j m ⊢;rw[Ks,aE q];cases p:iZ g with|none=>simp only[p]at a l j m ⊢;exact aX (bK (k:=ao) (jD.pt<|rj<|wV 2 aa .a0 a l aa j (_) eO) (λ_=>(aX<|bb eO)) ¬_)|some x=>simp only[p]at a l j m ⊢;by_cases n:x.num=0;rw[aG n];exact aX<|bK (k:=ao) (cX (jD.pt<|er (wV 2 aa .a0 a l aa j m eO) λ_=>(dQ<|ec (gb (nJ 2 aa aF di) aF di) aF)) (by simp[bh,n])) (λ_=>(aX<|bb eO)) ¬_;rw[aE n];refine aL (bK (k:=aw) (cX (jD.pt<|er (wV 2 aa .a0 a l aa j m eO) λ_=>(dQ<|ec (gb (nJ 2 aa aF di) aF di) aF)) (by simp[bh,n])) ¬_<|λ_=>bV) ?_;exact aL (bK (k:=ao) (cX (RG (1)<|cY J.T.m) ∅) (λ_=>(aL (kf 2 aa (kv #[aF,aF]) ()) bV)) ())<|iI 2 aa<|aX<|bb (2)
 have o:qr b k=aq:=by unfold qr;(split<;>nofun)
 rw[o];refine aX<|bK (k:=ao) (cX (iH (dO J.T.e (0))<|sA (d:=.a (if k=ai 2 then 5 else 4)) (RH (1)<|cY J.T.m) (λh=>(dY aF (by rw[aG<|iM h])))<|λh=>(dY aF (by rw[aE<|mQ h]))) ?_) (λ_=>(aX<|bb eO)) ¬_;grind
end
def n8(n:ag):(uA<|Aa (n:ah)).cps.toList=uv n:=by rw[PySem.Str.ofString_eq_toList];show List.map _ (Aa n).toList=_;unfold uv;nofun
def Wl(h:n<2^1300):(uv n).length<=400:=by unfold uv;rw[cb];refine(Nat.length_toDigits_le_iff ⋯ ⋯).mpr<|gX h ?_;decide
section
variable{K:aZ}
def qp(q:ah×ah):af ag:=uv q.1.toNat++(if q.2=1 then []else 47::uv q.2.toNat)
structure Gy(q:ah×ah):Prop where
 n0:0<=q.1
 d0:0<q.2
 nz:aI 1300 q.1
 dz:aI 1300 q.2
def Gy.a2(h:Gy q):(qp q).length<=801:=by
 have b:q.1.toNat<2^1300:=by have:=h.nz;have:=h.n0;unfold aI at*;left
 have a:q.2.toNat<2^1300:=by have:=h.dz;have:=h.d0;unfold aI at*;grind
 grind[Wl,qp,hU]
def m7(ds:af az)(d:az):Prop:=∃q:ah×ah,ds=[cE q]/\Gy q/\d=cR (qp q)
def PT:bW ["ratio"] ["ratio"] (bf<|aK 66):={}
def KW(h:aI 1300 i):i.natAbs.log2<1920:=by by_cases a:i.natAbs=0;nofun;exact(ZG a).mpr<|ZF h<|Nat.pow_lt_pow_right ⋯ ⋯
def RN(h0:0<=i)(h:aI 1300 i):(uA<|Aa i).cps.size<=100000/\(uA<|Aa i).cps.toList=uv i.toNat:=by
 obtain⟨n,rfl⟩:=En h0;have e:=n8 n;have a:n<2^1300:=by unfold aI at h;symm
 (nofun;grind?[Wl,N0])
def Vc(J:cq K j c):cI P w K j f 41 "ratio_bytes" m7:=by
 refine cW (k:=40) J.b6 PT λr p o d n l=>?_;obtain⟨q,rfl,s,rfl⟩:=l;obtain⟨e,g⟩:=RN s.n0 s.nz;obtain⟨i,m⟩:=RN (Int.le_of_lt s.d0) s.dz;have a:=s.a2;unfold qp at a ⊢;by_cases b:q.2=1;·rw[aG b,kH,<-g];exact aX<|bK (ec (gb (0) aF eH) aF) (λ_=>(aX<|bb<|aY (BU J) #[LK J.T.w (gb (0) aF di)<|KW s.nz] (_,aa,e,aa)))<|λh=>bG b<|mQ h
 ·rw[aE b]at a ⊢;rw[<-g,<-m]at a ⊢;simp only[hU,ij]at a;refine aL (bK (ec (gb (0) aF eH) aF) (λh=>bG (iM h) b)<|λ_=>bV)<|fB (aX<|bb<|bJ<|jl (bJ<|jl (aY (BU J) #[LK J.T.w (gb (0) aF di)<|KW s.nz] (_,aa,e,aa)) (bJ<|cQ #[cY J.T.C]) ?_) (aY (BU J) #[LK J.T.w (gb (0) aF eH)<|KW s.dz] (_,aa,i,aa)) ?_) ?_;rw[cb];show _+1<=_;lia;rw[hU,cb,cb];show _+1+_<=_;lia;unfold cR;rw[eV,List.append_assoc];rfl
def dm(l:af ag):af ah:=l.map Ba
def Ce(l:af ag):aM (dm l)=cR l:=(Wo l).symm
def lR(n:aR)(e:bB):af (af ah):=[n.b.getD e.b [],n.b.getD e.a [],dm<|qp e.g]++(if e.c=2 then [dm<|qp e.h]else [])
def mE(n:aR)(e:bB):af ah:=(dm (iW.getD e.c ⟨#[]⟩).cps.toList++(lR n e).flatMap λw=>32::w)++[10]
structure Cw(n:aR)(e:bB):Prop where
 f:e.c<3
 a:e.b<n.b.length
 b:e.a<n.b.length
 g:Gy e.g
 h:Gy e.h
structure Cq(n:aR):Prop where
 a:∀x∈n.b,x.length<=8
 c:n.a.length<=14
 b:∀e∈n.a,Cw n e
def UK(h:k<3):(iW.getD k ⟨#[]⟩).cps.toList.length<=5/\iW[k]?=ai (iW.getD k ⟨#[]⟩):=by
 match k,h with|0,_=>exact(⋯,aa)|1,_=>exact(⋯,aa)|2,_=>exact(⋯,aa)
def Rn(hn:∀x∈n.b,x.length<=8)(b:Cw n e):∀x∈lR n e,x.length<=801:=λx a=>by have m:=hn _<|jo (d:=[]) b.a;have l:=hn _<|jo (d:=[]) b.b;have k:=b.g.a2;have i:=b.h.a2;unfold lR at a;rcases nZ.mp a with a|a;simp at a;rcases a with rfl|rfl|rfl;left;left;simp[dm];symm;split at a;simp at a;subst a;simp[dm];symm;nofun
def FT:∀(l:af (af ah)),(∀x∈l,x.length<=801)->(l.flatMap λw=>32::w).length<=802*l.length
 |[],_=>b_ _|w::l,h=>by have:=FT l λx a=>h x<|cO _ a;have:=h w (_);rw[uK,hU,ij,ij];lia
def Rp(n:aR)(e:bB):(lR n e).length<=4:=by (simp only[lR];split<;>solve_by_elim)
def vG(b:af ah)(l:af (af ah)):af ah:=l.foldl (λa w=>a++(32::w)) b
def Cn:∀(l:af (af ah)) (b:af ah),vG b l=b++l.flatMap λw=>32::w
 |[],b=>by simp[vG]|w::l,b=>by show vG (b++(32::w)) l=_;rw[Cn l,uK,wA]
def o4(c:bH)(a:af az)(d:az):Prop:=∃p:aR×bB,a=[bp c p.1,cv c p.2]/\(∀x∈p.1.b,x.length<=8)/\Cw p.1 p.2/\d=aM (mE p.1 p.2)
def ES:bW ["network","edge","line","words","word"] ["network","edge"] (bf<|aK 67):={}
def WD{l:af (af ah)}(h:k<l.length):fZ (l.map aM) ((k:ag):ah)=ai (aM<|l.getD k []):=by simp[*,gQ,cK,qa]
def y9(J:cq K j c):cI P w K j f 42 "line_of" (o4 c):=by
 refine cW (k:=41) J.x ES λL I F d H C=>?_;obtain⟨⟨n,e⟩,rfl,i,a,rfl⟩:=C;have i:∀x∈n.b,x.length<=8:=i;have a:Cw n e:=a;obtain⟨m,p⟩:=UK a.f;have b:=Rn i a;have A:=Rp n e;refine aL (ia (ds:=(dm (iW.getD e.c ⟨#[]⟩).cps.toList).map az.a) 2 (pJ (Wg (VP J) #[J8 J.W (bc 0 J.T.b (1)) p] (_,aa,by rw[<-N0];lia,aa)) (by unfold dm;rw[eS];rfl)) ES.a) ?_;refine aL (ia 3 (cQ #[bt (bc 0 J.T.c (0)) (bc 1 J.T.b (1))<|WD a.a,bt (bc 0 J.T.c (0)) (bc 2 J.T.b (1))<|WD a.b,aY (Vc J) #[bc 3 J.T.b (1)] (e.g,aa,a.g,aa)]) ES.a) ?_;refine aL (ρ1:=[.a<|bp c n,.a<|cv c e,.c<|(dm (iW.getD e.c ⟨#[]⟩).cps.toList).map az.a,.c<|(lR n e).map aM,.b]) ?_ ?_
 ·by_cases s:e.c=2
  ·have:(lR n e).map aM=[aM<|n.b.getD e.b [],aM<|n.b.getD e.a [],cR<|qp e.g]++[cR<|qp e.h]:=by simp[*,lR,Ce]
   rw[this];exact bK (ec (bc 0 J.T.b (1))<|cY J.T.m) (λ_=>(aL (kf 3 aa (aY (Vc J) #[bc 4 J.T.b (1)] (e.h,aa,a.h,aa)) ()) bV)) (λh=>by have t:=mQ h;exact bG (show((e.c:ag):ah)=2 by rw[s];rfl) t)
  ·have:(lR n e).map aM=[aM<|n.b.getD e.b [],aM<|n.b.getD e.a [],cR<|qp e.g]:=by simp[*,lR,Ce]
   rw[this];exact bK (ec (bc 0 J.T.b (1))<|cY J.T.m) (λh=>by have t:((e.c:ag):ah)=2:=iM h;exact bG (by lia) s)<|λ_=>bV
 ·refine iI 3 aa<|aL (jh (lR n e) aM (λg=>[.a<|bp c n,.a<|cv c e,.c<|(vG (dm (iW.getD e.c ⟨#[]⟩).cps.toList) g).map az.a,.a<|.d<|(lR n e).map aM,.b]) (λg x=>[.a<|bp c n,.a<|cv c e,.c<|(vG (dm (iW.getD e.c ⟨#[]⟩).cps.toList) g).map az.a,.a<|.d<|(lR n e).map aM,.a<|aM x]) (gm (3)) (λg z l u=>(e_ 4 ES.a)) (λg x l u=>?_) aa fT)<|aL (kf 2 aa (cY J.T.D) ?_)<|iI 2 aa<|fB (aX<|bb (2)) ?_
  ·have r:g.length<=(lR n e).length:=();have B:g.length<=4:=!_;have q:=FT g λy G=>b y ();have v:=b x ();have o:(dm (iW.getD e.c ⟨#[]⟩).cps.toList).length<=5:=by unfold dm;rw[cb];exact m
   refine fj (aL (kf 2 aa (cY J.T.B) (by rw[cb,Cn,hU];lia))<|aL (Sy 2 aa (4) (by rw[hU,cb,Cn,hU,cb,ij,Ox];lia)) bV) ?_;have E:(vG (dm (iW.getD e.c ⟨#[]⟩).cps.toList)<|g++[x]).map az.a=(vG (dm (iW.getD e.c ⟨#[]⟩).cps.toList) g).map az.a++[az.a 32]++x.map az.a:=by simp[vG]
   rw[E];exact .a0<|.a0<|.a0<|.a0<|.no .a2
  ·have q:=FT (lR n e) b;have o:(dm (iW.getD e.c ⟨#[]⟩).cps.toList).length<=5:=by unfold dm;rw[cb];exact m
   grind[cb,Cn,hU]
  all_goals simp[mE,Cn]
def Ux(hn:∀x∈n.b,x.length<=8)(a:Cw n e):(mE n e).length<=4000:=by
 have g:=FT (lR n e)<|Rn hn a;have b:=Rp n e;have d:(dm (iW.getD e.c ⟨#[]⟩).cps.toList).length<=5:=by unfold dm;rw[cb];exact(UK a.f).1
 (simp only[mE,hU,ij,Ox];lia)
def EG(n:aR):af ah:=n.a.flatMap<|mE n
def C6(c:bH)(a:af az)(d:az):Prop:=∃n:aR,a=[bp c n]/\Cq n/\d=aM (EG n)
def JU:bW ["network","text","edge"] ["network"] (bf<|aK 68):={}
def EF(hn:Cq n):∀(l:af bB),(∀e∈l,e∈n.a)->(l.flatMap<|mE n).length<=4000*l.length
 |[],_=>b_ _|e::l,h=>by have:=EF hn l λx a=>h x<|cO _ a;have:=Ux hn.a<|hn.b e<|h e (_);rw[uK,hU,ij];lia
def C9(J:cq K j c):cI P w K j f 43 "one_text" (C6 c):=by
 refine cW (k:=42) J.X JU λv u t d s q=>?_;obtain⟨n,rfl,a,rfl⟩:=q;have o:=a.c;refine aL (ia 1 (cQ aD) JU.a)<|aL (jh n.a (cv c) (λy=>[.a<|bp c n,.c<|(y.flatMap<|mE n).map az.a,.b]) (λy e=>[.a<|bp c n,.c<|(y.flatMap<|mE n).map az.a,.a<|cv c e]) (gm<|bc 1 J.T.c (0)) (λy z b h=>(e_ 2 JU.a)) (λy e b h=>?_) aa fT)<|iI 1 aa<|aX<|bb (1);have m:y.length<=n.a.length:=∅;have l:=EF a y λx i=>by rw[h];nofun
 have g:e∈n.a:=∅;have p:=Ux a.a<|a.b e g;refine fj (aL (Sy 1 aa (aY (y9 J) #[(0),(2)] ((n,e),aa,a.a,a.b e g,aa)) ()) bV) ?_;rw[OD,eV];have r:[e].flatMap (mE n)=mE n e:=();rw[r];exact .a0<|.a0<|.no .a2
end
structure pN where
 x:ax
 e:ax
 b:ax
 c:ax
 d:ax
structure qF(ad:bH)(q:pN)(ns:af (af ag))(es:af bB)(F H:ay):Prop where
 ob:H q.x=ai (.c ad.b q.e (iJ.zip [.c q.b,.c q.c,.c q.d]))
 fo:F q.x=aq
 nm:∃vs,H q.b=ai (.a vs)/\cx F vs (ns.map cR)
 fn:F q.b=aq
 ed:∃ws,H q.c=ai (.a ws)/\cx F ws (es.map (cv ad))
 fe:F q.c=aq
 bo:H q.d=ai (.d [])
 fb:F q.d=aq
 ne:q.b≠q.c
 nd:(es.map (·.x)).Nodup
structure qB(q:pN)(F0 H0 F H:ay):Prop where
 ff:bD F0 F
 hh:∀b o,H0 b=ai o->b≠q.x->b≠q.b->b≠q.c->b≠q.d->H b=ai o
 fh:bD F H
 nf:∀b,H0 b≠aq->F0 b=aq->F b=aq
 al:∀b,H0 b≠aq->H b≠aq
def qB.a9(h:bD F H):qB q F H F H:=(bD.a2 _,λ_ _ e _ _ _ _=>e,h,λ_ _ n=>n,λ_ n=>n)
def qB.a5(a:qB q F0 H0 F H)(b:qB q F H F' H'):qB q F0 H0 F' H':=(a.ff.a0 b.ff,λc o e h g f d=>b.hh c o (a.hh c o e h g f d) h g f d,b.fh,λc n z=>b.nf c (a.al c n)<|a.nf c n z,λc n=>b.al c<|a.al c n)
def qB.of(a:cZ F0 H0 F H):qB q F0 H0 F H:=(a.ff,λb o e _ _ _ _=>a.hh b o e,a.fh,a.nf,λb n=>EO a.hh n)
def qF.b2{a:bH}(z:qF a q ns es F H)(r:cZ F H F' H'):qF a q ns es F' H':=by obtain⟨c,g,f⟩:=z.nm;obtain⟨b,e,d⟩:=z.ed;exact(r.hh _ _ z.ob,r.nf _ (by rw[z.ob];lia) z.fo,(c,r.hh _ _ g,f.up r.ff),r.nf _ () z.fn,(b,r.hh _ _ e,d.up r.ff),r.nf _ () z.fe,r.hh _ _ z.bo,r.nf _ (by rw[z.bo];simp) z.fb,z.ne,z.nd)
def iX(ad:bH)(q:pN)(d c:ay)(a:af (af ag))(b:af bB):ay->ay->Prop:=λF H=>qB q d c F H/\qF ad q a b F H
def iX.a0{a:bH}:oP (iX a q F0 H0 ns es):=λF H c b z r=>(z.1.a5<|.of r,z.2.b2 r)
def si(Z:ay->ay->Prop)(e:af bL)(f:ay->ay->Prop)(d:az):cS:=λc H Q=>∃F,bE F H F H c e/\Z F H/\∀v a b,bD F a->bE a b a b c e->f a b->bY a v d->Q v b
def nk(Z:ay->ay->Prop)(d:af bL)(e:ay->ay->Prop)(k:da):iR:=λc H Q=>∃F,bE F H F H c d/\Z F H/\∀b a,bD F b->bE b a b a c d->e b a->Q k a
def bE.mv(A:bE F H F H σ ρ)(s:bD F F')(t:bD F' H'):bE F' H' F' H' σ ρ:=(cZ.a3 t,A.a5,λi d e=>let(v,c,b):=A.a3 i d e;(v,c,b.up s),λi f e=>bG e A.a2,A.a1,λi j f g a e=>bG e A.a2)
section
variable{X:bA}{F0 H0 F G H:ay}{r:cw}{g S T:af bL}{tg e Y a b c M P:bI}{es:af bI}{l p p2 O J:dj}{d U W:az}{L:af az}{i j:ah}{x f y:aC}{C:ax}{ns:af aC}{Z u Z1:ay->ay->Prop}{st:du}{rest R:af du}{o:lB}{q:pN}{B:bH}{nl:af (af ag)}{el:af bB}
def Jo(m:ag)(V:aA X e (si Z g u d))(h:X.N.Nodup)(Q:X.N[m]?=ai x|>1)(D:h_ X.a0.scope x|>3)(I:fS e (ai<|.Name x p) l.line X.a0=cA aw|>1)
  (hf:iE X x|>3):cH X (.Assign [.Name x p] e l) (cN Z g u<|.a<|g.set m<|.a d):=
 eK (pk h Q D V I hf) λE r H (F,A,z,k)=>(F,A,z,λv D h t n s w=>k _ D h t ((n.a7 m w).a4 λi L=>by intro e;by_cases K:m=i;left;rw[hW K]at e;exact n.a2 e) s)
def Ey(he:aA X e (si Z g u d)):cH X (.Return (ai e) l) (cN Z g u<|.b d):=eK (yA he) λE r H (F,A,z,k)=>(F,A,z,λv t s m w h n=>k v t s m w.fh h n)
def QR(h:aA X e (si Z g u<|.g k))(w:(∀m,yh e X.a0 m=(do let v<-m;we e.pos;jW [v]<|truthy v))|>4):cP X e (nk Z g u k):=qD (Pj h w) λr H Q (F,A,z,q)=>(F,A,z,λv E D s I n t=>by cases t;exact(k,aa,q E D s I n))
def QT(h:cP X a (nk Z g u k)):cP X (.UnaryOp .Not a l) (nk Z g u (!k)):=qD (Pk h) λr H Q (F,A,z,q)=>(F,A,z,λt s n v m=>q t s n v m)
def QU(h:aA X a (si Z g u<|.a i)):cP X (.Compare a [.NotEq] [.Constant (.int j) k q'] l) (nk Z g u (!aT (i=j))):=qD (yz II h uQ<|D' _) λr H Q (F,A,z,q)=>(F,A,z,λv w t n D m s=>by cases s;refine(aa,(!aT (i=j)),?_,q w t n D m);have e:aT (aH.d i=aH.d j)=aT (i=j):=();rw[e])
def vb(hc:cP X c (nk Z g Z1 k))(v:k=ao->bg X as (cN Z1 g u o))(t:k=aw->bg X bs (cN Z1 g u o)):cH X (.If c as bs l) (cN Z g u o):=by
 cases k with|true=>exact eK (rX hc (v aa) lM) λE r H (F,A,z,k)=>(F,A,z,λn w m s h=>om (n,s,h,mB m k))|false=>exact eK (rX hc lM<|t aa) λE r H (F,A,z,k)=>(F,A,z,λn w m s h=>m_ (n,s,h,mB m k))
def RI(Z:ay->ay->Prop)(g:af bL)(v:aH):cS:=λr H Q=>∃F,bE F H F H r g/\Z F H/\Q v H
def uZ(n j:ag)(t:jS X.K B.b iJ)(h:g[n]?=ai (.e<|.c q.x))(v:iJ[j]?=ai f)(I:[aH.c q.b,aH.c q.c,aH.c q.d][j]?=ai w)(E:X.N[n]?=ai x|>1)(m:eF X.a0.scope x|>3)
  (hd:dA x|>2)(s:fP x|>2)(D:ie (.Name x p) f X.a0 (bN (.Name x p) X.a0)=bN (.Name x p) X.a0|>1):aA X (.Attribute (.Name x p) f l) (RI (iX B q F0 H0 nl el) g w):=
 eL (wF (ft E m hd s) D) λr H Q (F,A,z,k)=>(_,A.a1 n _ h,q.x,B.b,q.e,_,w,aa,z.2.ob,t.a,t.b f<|eC v,Et t.c v I,k)
def Es(hm:X.mg "len"=aq)(v:aA X e (RI (iX B q F0 H0 nl el) g<|.c w))(I:∀F H,qF B q nl el F H->∃h,H w=ai (.a h)/\h.length=m)(t:dn X "len"|>1)(s:eI X e []|>1)(n:eG X l []|>1):
  aA X (.Call (.Name "len" p) [e] [] l) (si (iX B q F0 H0 nl el) g (iX B q F0 H0 nl el)<|.a (m:ag)):=
 eL (IH IW t hm Ma (kZ v pq s) ⋯ ⋯ s n) λr H Q (F,A,z,k)=>by obtain⟨h,E,D⟩:=I F H z.2;exact(F,A,z,_,_,aa,.inl<|dX.of E,by rw[D];exact k _ F H (bD.a2 _) A z<|.a1 _)
def qF.b1(z:qF B q nl el F H):∃h,H q.b=ai (.a h)/\h.length=nl.length:=let(h,m,k):=z.nm;(h,m,by rw[k.a1,cb])
def qF.b0(z:qF B q nl el F H):∃h,H q.c=ai (.a h)/\h.length=el.length:=let(h,m,k):=z.ed;(h,m,by rw[k.a1,cb])
def QV(h:aA X a (si Z g u<|.a i))(k:∃t,X.mg x'=ai (.int j t))(w:dn X x'|>1)(D:dA x'|>2):cP X (.Compare a [.Eq] [.Name x' q'] l) (nk Z g u<|aT<|i=j):=by obtain⟨t,k⟩:=k;exact qD (yz AN h (AM (v:=.d j) w k (t,aa) D)<|D' _) λr H Q (F,A,z,q)=>(F,A,z,λv I E n K m s=>by cases s;refine(aa,aT<|i=j,?_,q I E n K m);have e:aT (aH.d i=aH.d j)=aT (i=j):=();rw[e])
def QZ(h:aA X a (si Z g u<|.a i))(k:∃t,X.mg x'=ai (.int j t))(w:dn X x'|>1)(D:dA x'|>2):aA X (.Compare a [.LtE] [.Name x' q'] l) (si Z g u<|.g<|aT<|i<=j):=by obtain⟨t,k⟩:=k;exact eL (Pw yB h (AM (v:=.d j) w k (t,aa) D)<|D' _) λr H Q (F,A,z,q)=>(F,A,z,λv I E n K m s=>by cases s;exact(i,j,aa,aa,q _ I E n K m<|.bl _))
def Er(hz:oP Z)(h:∀F0 H0,cP X c<|eg F0 H0 g k):cP X c (nk Z g Z k):=λm s r H Q I (F,A,z,q)=>h F H m s r H Q I (F,A,λG v t n=>q G v t (n.a4 λi L=>A.a2)<|hz _ _ _ _ z n.tocZ)
def Ep{rest:af bI}(h:cP X a (nk Z g Z1 k))(I:k=aw->jD X (.BoolOp .Or (b::rest) l) (nk Z1 g Z1 k'))(E:k=ao->k'=ao):jD X (.BoolOp .Or (a::b::rest) l) (nk Z g Z1 k'):=by
 cases k with|true=>rw[E aa];exact ub (AK h Kt) λr H Q (F,A,z,q)=>(F,A,z,λs v n t m=>om<|q s v n t m)|false=>exact ub (AK h<|I aa) λr H Q (F,A,z,q)=>(F,A,z,λs v n t m=>m_ (s,t,m,λN K D V w=>q N K (n.a0 D) V w))
def QQ(h:cP X a (nk Z g Z1 k)):jD X (.BoolOp op [a] l) (nk Z g Z1 k):=by
 cases op with|And=>exact ub (Pf h) λr H Q h=>h|Or=>exact ub (Iu h) λr H Q h=>h
end
def kl(l:af ag):gM:=.list<|l.map λn=>kF (n:ag)
def Fh(l:af ag):qC (cR l) (kl l):=.a3<|zh (λn=>.a2 _) l
def Fj(l:af ag):kl l=.list ((l.map Ba).map kF):=by (simp[kl])
def KC(l m:af ag):(kl l).eqv (kl m)=aT (l=m):=by rw[Fj,Fj];show Dn _ _=_;rw[F_];grind[ZV]
def KD(l:af ag):(kl l).canLay0=ao:=by rw[Fj];exact Gr _
def KA:∀(a:af (af ag)),rS (a.map kl)=ao
 |[]=>aa|l::a=>by show((kl l).canLay0&&rS (a.map kl))=ao;rw[KD,KA a];rfl
def KB(l:af ag):(kl l).depth=1:=by rw[Fj];show lJ _+1=1;rw[Gq]
def Kz:∀(a:af (af ag)),lJ (a.map kl)<=8
 |[]=>mW _|l::a=>by show mX (kl l).depth (lJ<|a.map kl)<=8;rw[KB];exact ZE.mpr (⋯,Kz a)
def SB(a:af (af ag))(t:af ag):((a.map kl).any λy=>y.eqv<|kl t)=aT (t∈a):=by
 induction a with|nil=>rfl|cons l a b=>rw[eE,qZ,b,KC];grind
def wv(K:aZ):aH->af aH->ay->dw->Prop:=λx f H Q=>∃(a:ax) (c:af aH) (y:aH) (j:ag) (b:af gM) (d g:gM),x=aH.c a/\f=[y]/\dX K H a c/\tE K H c b/\mz K H y d/\rS b=ao/\d.canLay0=ao/\lJ b<=8/\b[j]?=ai g/\g.eqv d=ao/\ (∀(m:ag) (e:gM),m<j->b[m]?=ai e->e.eqv d=aw)/\Q (.d (j:ag)) H
def SU:∀{a:af aB} {b:af gM} {m:af ax},ReadsAll h a b m->a.length=b.length/\∀(k:ag) (u:aB) (g:gM),a[k]?=ai u->b[k]?=ai g->∃n,Reads h u g n
 |_,_,_,.nil=>(aa,λk u g e _=>by simp at e)|_,_,_,.cons l j=>by
  obtain⟨i,f⟩:=SU j;refine(by nofun,λk u g d c=>?_);cases k with|zero=>simp at d c;subst d c;exact(_,l)|succ k=>exact f k u g (_) (_)
def L_:∀{a:af gM} {k:ag} {g:gM},rS a=ao->a[k]?=ai g->g.canLay0=ao/\g.depth<=lJ a
 |[],k,g,_,e=>by simp at e|d::a,k,g,c,e=>by
  have b:(d.canLay0&&rS a)=ao:=c;rw[qH]at b;cases k with|zero=>simp at e;subst e;exact(b.1,ZI _ _)|succ k=>obtain⟨h,f⟩:=L_ b.2 (by simpa using e);exact(h,fx f<|ZH _ _)
open Classical in
def ul(hu:X.A.units+64<nW):rg X "list.index" (wv X.K):=by
 intro O s σ H x xs v us Q I rx r h;obtain⟨a,Z,y,j,p,d,g,rfl,rfl,hs,G,D,Y,c2,c3,hg,g5,g2,q⟩:=h;cases rx;obtain⟨M,rfl,ry⟩:=r.a3;obtain⟨b,N,⟨⟨g7,dd,W,sl⟩,n,P,T,g6,S⟩,R⟩:=I.a3 hs;simp only at T S;subst T S;obtain⟨as,C⟩:=mz.a2 I p Z b G N;obtain⟨bs,B⟩:=mz.a0 I d y M D ry;obtain⟨g3,i⟩:=SU C;have g0:=N.a0;have g4:j<b.length:=(by left);have g1:=ND;let e:aB->da:=λu=>aT (∃(k:ag) (c:gM),b[k]?=ai u/\p[k]?=ai c/\c.eqv d=ao);have J:∀(k:ag) (u:aB) (c:gM),b[k]?=ai u->p[k]?=ai c->e u=c.eqv d:=λk u c m L=>by
  show aT _=_;cases F:c.eqv d with|true=>exact vL (k,c,m,L,F)|false=>refine CC ?_;rintro ⟨k2,U,e3,e4,V⟩;obtain⟨b1,t⟩:=i k u c m L;obtain⟨b2,r2⟩:=i k2 u U e3 e4;have:=D4 c U u _ _ (L_ Y L).1 t r2;subst this;rw[F]at V;cases V
 have A:∀(k:ag) (o:k<b.length),∃c,p[k]?=ai c:=λk o=>(_,cK ∅);refine yj Y' (_,P,aa) PySem.F.entry_list_index (PySem.F.args_list_index_2 _ _) (SeqAt.list_indexAt a b.toArray n dd sl M e j () (by lia) ?_ ?_) (P,λK z=>?_,?_);grind;left;obtain⟨k,o,rfl⟩:=iC (show K∈b by simpa using z);obtain⟨c,f⟩:=A k o;have m:b[k]?=ai b[k]:=cK o;rw[J k _ c m f];obtain⟨b1,t⟩:=i k _ c m f;intro l w E Q2 hQ;obtain⟨h1,h2⟩:=L_ Y f;refine SeqAt.eqBoolOverData l w _ E s _ _ c d _ _ Q2 t B h1 c2 ?_ hQ;lia;exact(.d (j:ag),H,I.a4 _,(_,aa),q)
section
variable{X:bA}{B G F W H:ay}{U:cw}{R ρ' ρ1:af bL}{tg e e2 a b c iter elt:bI}{V:af bI}{T p S u L:dj}{d d1 d2:az}{Y:af az}{i j:ah}{x f y:aC}{C:ax}{ns:af aC}{Z Z' Z1:ay->ay->Prop}{st:du}{rest sts:af du}{o:lB}{q:pN}{O:bH}{J:af (af ag)}{P:af bB}
def GB(h:∀B G,eW X V<|lW B G R Y):eW X V λU H Q=>∃F,bE F H F H U R/\∀l W g,cZ F H W g->bE W g W g U R->cx W l Y->Q l g:=λT k s U H Q I (F,A,q)=>h F H T k s U H Q I (F,A,λl W g n m r=>q l W g m.tocZ (m.a4 λi Y=>A.a2) r)
def QS(n:ag)(M:jS X.K O.b iJ)(m:R[n]?=ai (.e<|.c q.x))(N:∀B G,aA X a<|aP B G R<|cR t)(E:dy 1 X.A|>3)(hN:X.N[n]?=ai x|>1)(r:eF X.a0.scope x|>3)
  (hd:dA x|>2)(s:fP x|>2)(K:ie (.Name x p) "names" X.a0 (bN (.Name x p) X.a0)=bN (.Name x p) X.a0|>1)(I:oY .NotIn (.Attribute (.Name x p) "names" S)=aw|>5):
  cP X (.Compare a [.NotIn] [.Attribute (.Name x p) "names" S] T) (nk (iX O q B G J P) R (iX O q B G J P) (!aT (t∈J))):=
 qD (yz (XK E.a0) (jv N) (uZ n 0 M m aa aa hN r hd s K) I) λU H Q (F,A,z,k)=>by refine(F,A,λv w H1 g h D=>?_);have l:=iX.a0 _ _ _ _ z g;obtain⟨vs,h1,h2⟩:=l.2.nm;refine(w,h,l,kl t,J.map kl,(Fh t).dp h.fh _ D,.a1 (dX.of h1)<|(zh Fh J).dp h.fh _ h2,KA J,KD t,Kz J,?_);rw[SB];exact(_,aa,k w H1 g.ff h l)
def qB.a8(a:qB q B G F H)(h:F q.b=aq)(s:H q.b≠aq):qB q B G F (bu H q.b w):=
 (a.ff,λb o e r k m l=>by rw[aO k];exact a.hh b o e r k m l,λb o e=>by
  have g:b≠q.b:=λz=>by subst z;rw[h]at e;cases e
  rw[aO g];exact a.fh _ _ e,a.nf,λb n=>by
  by_cases g:b=q.b;subst g;rw[bO];simp;rw[aO g];exact a.al b n)
def qB.a7(a:qB q B G F H)(h:F q.c=aq):qB q B G F (bu H q.c w):=
 (a.ff,λb o e r m k l=>by rw[aO k];exact a.hh b o e r m k l,λb o e=>by
  have g:b≠q.c:=λz=>by subst z;rw[h]at e;cases e
  rw[aO g];exact a.fh _ _ e,a.nf,λb n=>by
  by_cases g:b=q.c;subst g;rw[bO];simp;rw[aO g];exact a.al b n)
def qF.b3(z:qF O q J P F H)(h:cx F vs (nl'.map cR)):qF O q nl' P F (bu H q.b<|.a vs):=by
 have m:q.x≠q.b:=λe=>by obtain⟨g,k,_⟩:=z.nm;have:=z.ob;rw[e,k]at this;cases this
 have l:q.d≠q.b:=λe=>by obtain⟨g,k,_⟩:=z.nm;have:=z.bo;rw[e,k]at this;cases this
 obtain⟨g,r,n⟩:=z.ed;exact(by rw[aO m];exact z.ob,z.fo,(vs,bO,h),z.fn,(g,by rwa[aO<|dZ z.ne],n),z.fe,by rw[aO l];exact z.bo,z.fb,z.ne,z.nd)
def qF.b4(z:qF O q J P F H)(h:cx F vs (el'.map<|cv O))(n:(el'.map (·.x)).Nodup):qF O q J el' F (bu H q.c<|.a vs):=by
 have m:q.x≠q.c:=λe=>by obtain⟨g,k,_⟩:=z.ed;have:=z.ob;rw[e,k]at this;cases this
 have l:q.d≠q.c:=λe=>by obtain⟨g,k,_⟩:=z.ed;have:=z.bo;rw[e,k]at this;cases this
 obtain⟨g,s,r⟩:=z.nm;exact(by rw[aO m];exact z.ob,z.fo,(g,by rwa[aO z.ne],r),z.fn,(vs,bO,h),z.fe,by rw[aO l];exact z.bo,z.fb,z.ne,n)
def adF(n:ag)(hc:jS X.K O.b iJ)(w:R[n]?=ai (.e<|.c q.x))(ha:∀B G,aA X e<|aP B G R<|cR t)(hl:J.length<=100)(hN:X.N[n]?=ai x|>1)(D:eF X.a0.scope x|>3)
  (hd:dA x|>2)(I:fP x|>2)(hb:ie (.Name x p) "names" X.a0 (bN (.Name x p) X.a0)=bN (.Name x p) X.a0|>1)
  (hbase:ie (.Attribute (.Name x p) "names" S) "append" X.a0 (bN (.Attribute (.Name x p) "names" S) X.a0)=bN (.Attribute (.Name x p) "names" S) X.a0|>1)
  (hfew:wM X u e|>1)
  (hline:(L.endLine==u.line)=ao|>1)(K:eI X e []|>1)(g:eG X u []|>1)
  (hsw:fS (.Call (.Attribute (.Attribute (.Name x p) "names" S) "append" L) [e] [] u) aq T.line X.a0=cA aw|>1):
  cH X (.Expr (.Call (.Attribute (.Attribute (.Name x p) "names" S) "append" L) [e] [] u) T) (cN (iX O q B G J P) R (iX O q B G (J++[t]) P)<|.a R):=by
 have hm:rg X "list.append" AJ:=λm s U H x xs v us Q=>D_ m s U H x xs v us Q;refine eK (uN (uS uC Dt HJ hm (uZ (F0:=B) (H0:=G) (nl:=J) (el:=P) n 0 hc w aa aa hN D hd I hb) (GB λB G=>au (ha B G) aD K) hbase hfew hline K g) hsw) λE U H (F,A,z,k)=>?_;obtain⟨r,g1,_⟩:=z.2.nm;refine(F,A,z,.inl (aa,r,dX.of g1),F,A,λws F1 H1 l A1 r1=>?_);have h:=iX.a0 _ _ _ _ z l;obtain⟨v,rfl,r2⟩:=kN r1;obtain⟨M,h1,N⟩:=h.2.nm;refine(q.b,M,v,aa,aa,h1,gX (show M.length<1000 by rw[N.a1,cb];lia) ⋯,?_);exact k U F1 _ l.ff (A1.b0 h.2.fn) (h.1.a8 h.2.fn (),h.2.b3 (by rw[eV];exact N.a5<|.a0 r2 .a2))
def Q'(n:ag)(hc:jS X.K O.b iJ)(r:R[n]?=ai (.e<|.c q.x))(ha:∀B G,aA X e<|aP B G R<|cR t)(hk:J[k]?=ai t)(g0:∀m I,m<k->J[m]?=ai I->I≠t)(hr:dy 1 X.A|>3)(hN:X.N[n]?=ai x|>1)(s:eF X.a0.scope x|>3)
  (hd:dA x|>2)(w:fP x|>2)(hb:ie (.Name x p) "names" X.a0 (bN (.Name x p) X.a0)=bN (.Name x p) X.a0|>1)
  (hbase:ie (.Attribute (.Name x p) "names" S) "index" X.a0 (bN (.Attribute (.Name x p) "names" S) X.a0)=bN (.Attribute (.Name x p) "names" S) X.a0|>1)
  (hfew:wM X u e|>1)
  (hline:(L.endLine==u.line)=ao|>1)(M:eI X e []|>1)(g:eG X u []|>1):
  aA X (.Call (.Attribute (.Attribute (.Name x p) "names" S) "index" L) [e] [] u) (si (iX O q B G J P) R (iX O q B G J P)<|.a (k:ag)):=by
 refine eL (uS uC Y' PySem.F.type_list_index (ul hr.a0) (uZ (F0:=B) (H0:=G) (nl:=J) (el:=P) n 0 hc r aa aa hN s hd w hb) (GB λB G=>au (ha B G) aD M) hbase hfew hline M g) λU H Q (F,A,z,k')=>?_;obtain⟨l,g1,_⟩:=z.2.nm;refine(F,A,z,.inl (aa,l,dX.of g1),F,A,λws F1 H1 h D r1=>?_);have E:=iX.a0 _ _ _ _ z h;obtain⟨v,rfl,N⟩:=kN r1;obtain⟨K,h1,h2⟩:=E.2.nm;refine(q.b,K,v,k,J.map kl,kl t,kl t,aa,aa,dX.of h1,(zh Fh J).dp D.fh _ h2,(Fh t).dp D.fh _ N,KA J,KD t,Kz J,by rw[cV,hk];rfl,by rw[KC];simp,λm g' hm g2=>?_,k' _ F1 H1 h.ff D E<|.a1 _);(nofun;grind?[KC])
def adG(n:ag){fe:bB}(hc:jS X.K O.b iJ)(hρ:R[n]?=ai (.e<|.c q.x))(g7:vH X.a2 X.w X.K X.mg X.a8 k "Edge" O.a gD WV)(ha:∀B G,eW X (e::V)<|lW B G R [.a (fe.c:ag),.a (fe.b:ag),.a (fe.a:ag),cE fe.g,cE fe.h])(hl:P.length<=100)
  (ho:fe.o=(1,1))(i5:fe.l=(0,1))(i4:fe.k=0)
  (hr:dy (k+1) X.A|>3)(hg:dn X "Edge"|>1)
  (he:eI X e V|>1)(g6:eG X cp2 V|>1)
  (hN:X.N[n]?=ai x|>1)(g5:eF X.a0.scope x|>3)
  (hd:dA x|>2)(h7:fP x|>2)(hb:ie (.Name x p) "edges" X.a0 (bN (.Name x p) X.a0)=bN (.Name x p) X.a0|>1)
  (hbase:ie (.Attribute (.Name x p) "edges" S) "append" X.a0 (bN (.Attribute (.Name x p) "edges" S) X.a0)=bN (.Attribute (.Name x p) "edges" S) X.a0|>1)
  (hfew:((lH u<|dC [.Call (.Name "Edge" cp) (e::V) [] cp2] X.a0).all (λx=> !x.1)&&(pX u<|pV [] X.a0).all (λx=>x.1.isSome)
   &&aT ([Expr.Call (.Name "Edge" cp) (e::V) [] cp2].length+([]:af qV).length+(if([]:af qV).isEmpty then 0 else 1)<30))=ao|>1)
  (hline:(L.endLine==u.line)=ao|>1)(hs:dC [.Call (.Name "Edge" cp) (e::V) [] cp2] X.a0=(aw,bN (.Call (.Name "Edge" cp) (e::V) [] cp2) X.a0)::dC [] X.a0|>1)(m:eG X u []|>1)
  (hsw:fS (.Call (.Attribute (.Attribute (.Name x p) "edges" S) "append" L) [.Call (.Name "Edge" cp) (e::V) [] cp2] [] u) aq T.line X.a0=cA aw|>1):
  cH X (.Expr (.Call (.Attribute (.Attribute (.Name x p) "edges" S) "append" L) [.Call (.Name "Edge" cp) (e::V) [] cp2] [] u) T) (cN (iX O q B G J P) R (λF H=>∃y,iX O q B G J (P++[{fe with x:=y}]) F H)<|.a R):=by
 have hm:rg X "list.append" AJ:=λh s U H x xs v us Q=>D_ h s U H x xs v us Q;obtain⟨g,fd,ps,Fn,g8,M,h8⟩:=g7.a;refine eK (uN (uS uC Dt HJ hm (uZ (F0:=B) (H0:=G) (nl:=J) (el:=P) n 1 hc hρ aa aa hN g5 hd h7 hb) (kZ (IF M Fn hr hg g8 h8 .nil (mZ) (GB ha) ⋯ he g6) pq hs) hbase hfew hline hs m) hsw) λE U H (F,A,z,kk)=>?_;obtain⟨N,g1,_⟩:=z.2.ed;refine(F,A,z,.inl (aa,N,dX.of g1),F,A,λws F1 H1 I t r1=>λy dx l nd ne=>?_);have z1:=iX.a0 _ _ _ _ z I;refine(y,dx,ws,F1,_,_,by rw[kH],bO,(t.a9 l).1,?_,r1,(aa,aa),λF2 H2 us s2 k2 h9 w g4 g9 ru=>(aa,?_));exact(t.fh.a0<|jG nd).a0<|jG (by rwa[aO<|dZ ne]);have sH:=bD.a3 l nd k2;have g3:=w y (by rw[bO];simp) (t.a9 l).1;have g2:cZ F1 H1 F2 H2:=(s2,sH,h9,λb hb n=>w b (by by_cases qb:b=y;nofun;rw[aO qb];by_cases q2:b=dx;nofun;rwa[aO q2]) n);obtain⟨r,s3⟩:=g2.a6 g4 g3 l;have D:=iX.a0 _ _ _ _ z1 r;have A3:=(t.up r).a4 λi Y=>t.a2;obtain⟨vs,h1,h2⟩:=D.2.ed;have K:bY (bu F2 y<|.c O.a dx<|gD.zip us) (.c y) (cv O {fe with x:=y}):=by have:=bY.a4 bO (ru.up s3) g9;nofun
 have i2:∀e'∈P,e'.x≠y:=λe' h6 h5=>by
  obtain⟨i0,h3,h4⟩:=z1.2.ed;obtain⟨i1,h0,ek⟩:=iC h6;obtain⟨v',i3,g0⟩:=h4.a4 (by rw[cV,cK h0,ek];rfl);cases g0 using W5 with|a4 hF _ _=>rw[h5]at hF;have:=t.fh _ _ hF;rw[l]at this;cases this
 refine(q.c,vs,.c y,aa,aa,h1,gX (show vs.length<1000 by rw[h2.a1,cb];lia) ⋯,?_);refine kk U _ _ (I.ff.a0 r.ff) (A3.b0 D.2.fe) (y,D.1.a7 D.2.fe,D.2.b4 (by rw[eV];exact h2.a5<|.a0 K .a2) ?_);rw[eV,Ou];refine(z.2.nd,(),λa i7 b i6=>?_);grind
end
abbrev sL:=af (af ag)->af bB->Prop
def rG(ad:bH)(q:pN)(c b:ay)(a:sL):ay->ay->Prop:=λF H=>∃p:af (af ag)×af bB,a p.1 p.2/\iX ad q c b p.1 p.2 F H
def rG.a0{a:bH}:oP (rG a q F0 H0 Post):=λF H c b (p,h,z) r=>(p,h,iX.a0 _ _ _ _ z r)
def aeH(ad:bH)(R:af (af ag)->af bB->af az->az->sL->Prop):k_:=λi H Q _=>∃F q e f h g d a,i=.c q.x::h/\qF ad q e f F H/\bD F H/\cx F h g/\R e f g d a/\∀v c b,qB q F H c b->(∃p:af (af ag)×af bB,a p.1 p.2/\qF ad q p.1 p.2 c b)->bY c v d->Q v b
structure Cu(P:cn)(w:bS)(K:aZ)(mg:aC->aJ aB)(base:bT)(k:ag)(x:aC)(ad:bH)(R:af (af ag)->af bB->af az->az->sL->Prop):Prop where
 a:∃(f:ax) (fd:jY) (ps:af aC),gR P w K mg base kb k f fd ps (aeH ad R)/\mg x=ai (.ref f)/\mr K (.ref f)=ao/\la K fd ps []
section
variable{X:bA}{r H0 F F' H:ay}{l:cw}{L ρ' B W ρ3:af bL}{tg e e2 a b c O elt:bI}{es:af bI}{G p p2 P T:dj}{d d1 d2:az}{ds:af az}{i j:ah}{x f y:aC}{C:ax}{ns:af aC}{Z S Z1:ay->ay->Prop}{st st1 st2:du}{rest sts:af du}{o:lB}{q:pN}{V:bH}{U:af (af ag)}{Y:af bB}
def wR(h:∀U Y,Post U Y->bg X sts (cN (iX V q r H0 U Y) L S o)):bg X sts (cN (rG V q r H0 Post) L S o):=λg s l H E I (F,A,(t,m,z),k)=>h t.1 t.2 m g s l H E I (F,A,z,k)
def wQ(n:ag)(h:Cu X.a2 X.w X.K X.mg X.a8 k f V R)(t:L[n]?=ai (.e<|.c q.x))(ha:∀r H0,eW X es<|lW r H0 L ds)(hR:R U Y ds d Post)(hr:dy k X.A|>3)(hg:dn X f|>1)(E:dA f|>2)
  (he:dC (.Name x p::es) X.a0=(aw,bN (.Name x p) X.a0)::dC es X.a0|>1)(D:eG X G es|>1)
  (hN:X.N[n]?=ai x|>1)(u:eF X.a0.scope x|>3)(hd:dA x|>2)(I:fP x|>2):
  aA X (.Call (.Name f p2) (.Name x p::es) [] G) (si (iX V q r H0 U Y) L (rG V q r H0 Post) d):=by
 obtain⟨g,fd,ps,Fn,hm,hk,hb⟩:=h.a;refine eL (uR Fn hr hg hm hk hb .nil (mZ) (kZ (ft hN u hd I) (GB ha) he) E he D) λl H Q (F,A,z,kk)=>?_;refine(_,A.a1 n _ t,F,A,λw F1 H1 m M N=>?_);have J:=iX.a0 _ _ _ _ z m;refine(F1,q,U,Y,w,ds,d,Post,by rw[kH],J.2,M.fh,N,hR,λv F2 H2 s (pp,hp,hz) K=>?_);exact kk v F2 H2 (m.ff.a0 s.ff) (M.mv s.ff s.fh) (pp,hp,J.1.a5 s,hz) K
def rz(n m:ag)(K:L[n]?=ai (.c<|ds++[d]))(g0:n≠m)(I:X.N.Nodup)(hN:X.N[n]?=ai x|>1)(hM:X.N[m]?=ai y|>1)(hv:eF X.a0.scope x|>3)(hd:dA x|>2)(D:fP x|>2)
  (hbase:ie (.Name x p) "pop" X.a0 (bN (.Name x p) X.a0)=bN (.Name x p) X.a0|>1)(g:(T.endLine==p2.line)=ao|>1)
  (hx:h_ X.a0.scope y|>3)(hs:fS (.Call (.Attribute (.Name x p) "pop" T) [] [] p2) (ai<|.Name y P) G.line X.a0=cA aw|>1)
  (hf:iE X y|>3):
  cH X (.Assign [.Name y P] (.Call (.Attribute (.Name x p) "pop" T) [] [] p2) G) (cT r H0 L<|.a<|(L.set n<|.c ds).set m<|.a d):=by
 have hm:rg X "list.pop" Pb:=λt s l H x xs v us Q=>ab3 t s l H x xs v us Q;refine eK (pk I hM hx (abK uC YZ PySem.F.type_list_pop hm (ft hN hv hd D) hbase g) hs hf) λE l H (F,A,k)=>?_;obtain⟨a,w,N,R,h3,h4,J⟩:=A.a0 n _ K;have M:=J.a1;rw[hU]at M;simp at M;have h:(ds++[d])[w.length- 1]?=ai d:=∅;obtain⟨u,hu,ru⟩:=J.a4 h;have z:cx F w.dropLast ds:=by have:=J.b1<|ds.length;simp_all[b_,List.dropLast_eq_take]
 refine(_,N,.inl (aa,w,dX.of R),a,w,u,aa,aa,R,hu,?_);exact k _ F _ (bD.a2 _)<|(A.b1 K N z).a7 m ru
def adw(n:ag)(D:oP Z)(N:∀r H0,cH X st1<|cT r H0 L<|.a B)(M:∀r H0,cH X st2<|cT r H0 B<|.a W)(J:W[n]?=ai (.c ds))(K:bg X rest (cN Z (W.set n<|.a<|.d ds) S o))(no:(W.set n<|.a<|.d ds).all tO=ao|>1):bg X (st1::st2::rest) (cN Z L S o):=λg s l H E I (F,A,z,k)=>eN (N F H) (eN (M F H) K) g s l H E I (F,A,λt R H1 w A1=>(R,A1,λm F2 H2 v A2=>by obtain⟨Q,u,h⟩:=A2.b6 J;exact(Q,h.a4 λi ds=>xf no,D _ _ _ _ z h.tocZ,mB ((w.a0 v).a0 u) k)))
def ox{h:Type}(k:af h->h->aJ az):af h->af h->aJ az
 |_,[]=>aq|m,z::g=>match k m z with|none=>ox k (m++[z]) g|some d=>ai d
def adB(zs:af α)(enc:α->az)(g:af bL)(K:af α->ay->ay->Prop)(hst:∀pre,oP<|K pre)(stop:af α->α->aJ az)(B:α->af bL)
  (hi:∀r H0,fz X tg O<|kJ r H0 g<|zs.map enc)
  (hg:∀r H0 z,z∈zs->jd X tg (sh r H0 g (enc z) (B z) idx))
  (hb:∀pre z M,zs=pre++z::M->stop pre z=aq->bg X body (cN (K pre) (B z) (K<|pre++[z])<|.a g))
  (hb':∀pre z M d,zs=pre++z::M->stop pre z=ai d->bg X body (cN (K pre) (B z) S<|.b d))
  (h2:ox stop [] zs=aq->bg X rest (cN (K zs) g S o))(h3:∀d,ox stop [] zs=ai d->o=.b d)
  (hc:X.a9=ao)(hp:uB (bQ X.a2 X.w) X.A X.a0 X.xe)(no:(∀z,(B z).all tO=ao)|>4)(hs:(∀x,pW O X.a0 x=cA x)|>4):
  bg X (.For tg O body [] G::rest) (cN (K []) g S o):=by
 have hi':fz X tg O λl H R=>∃F,bE F H F H l g/\∀J F' u,cZ F H F' u->bE F' u F' u l g->GD J F' (zs.map enc)->R J u:=λn s l H Q I (F,A,q)=>hi F H n s l H Q I (F,A,λJ F' u s' A' it=>q J F' u A'.tocZ (A'.a4 λi ds=>A.a2) it);have hbody:bg X body λE l H=>∃t:af α×α×af α,zs=t.1++t.2.1::t.2.2/\((stop t.1 t.2.1=aq/\cN (K t.1) (B t.2.1) (K<|t.1++[t.2.1]) (.a g) E l H)\/∃d,stop t.1 t.2.1=ai d/\cN (K t.1) (B t.2.1) S (.b d) E l H):=λn s l H E I (t,ht,h)=>by rcases h with⟨N,h⟩|⟨d,N,h⟩;exact hb t.1 t.2.1 t.2.2 ht N n s l H E I h;exact hb' t.1 t.2.1 t.2.2 d ht N n s l H E I h
 have hrest:bg X rest λE l H=>ox stop [] zs=aq/\cN (K zs) g S o E l H:=λn s l H E I (N,h)=>h2 N n s l H E I h;refine fg (eN (DV hp hc hi' (xJ (ι:=α×ay×ay) λt ht=>hg t.2.1 t.2.2 t.1 ht) hbody hs) hrest) λE l H (F,A,z,k)=>?_;refine(F,A,λJ F1 H1 rl1 A1 it=>?_);refine(λi m l H=>m=zs.length- i/\i<=zs.length/\ox stop (zs.take i) (zs.drop i)=ox stop [] zs/\∃F,bD F1 F/\bE F H F H l g/\K (zs.take i) F H,(zs.length,aa,mW _,aa,F1,bD.a2 _,A1,hst _ _ _ _ _ z rl1),?_);rintro i m σ2 H2 ⟨rfl,hle,hrun,F2,s2,A2,z2⟩;by_cases hlt:i<zs.length;have hz:=cK hlt;obtain⟨hsp,htk⟩:=EN hz;have hdr:=(Ib hlt).symm;have hnext:stop (zs.take i) zs[i]=aq->ox stop (zs.take<|i+1) (zs.drop<|i+1)=ox stop [] zs:=λN=>by
  rw[<-hrun,hdr,htk]
  conv=>rhs;rw[ox]
  rw[N]
 refine .inr (it.b i F2 H2 s2 A2.fh (by simp;omega),λσ' u=>stop (zs.take i) zs[i]=aq/\∃F,bD F1 F/\bE F u F u σ' g/\K (zs.take<|i+1) F u,λσ' u (N,h)=>(zs.length-(i+1),(by grind?),aa,hlt,hnext N,h),?_);intro y u hy;obtain⟨F3,rl,ry⟩:=it.c i F2 H2 y u (enc zs[i]) s2 A2.fh (by rw[cV,hz];rfl) hy;refine((zs[i],F3,u),ph hlt,F3,(A2.up rl).a4 λi ds=>A2.a2,ry,λσ3 F4 H4 _ s4 A4=>?_);have A4':=A4.a4 λi' ds'=>xf<|no<|zs[i]'hlt;have z4:=hst _ _ _ _ _ (hst _ _ _ _ _ z2 rl) A4.tocZ;refine((zs.take i,zs[i],zs.drop<|i+1),hsp,?_);cases N:stop (zs.take i) zs[i]with
 |none=>refine .inl (aa,F4,A4',z4,?_);intro σ5 F5 H5 s5 A5 z5;rw[<-htk]at z5;exact(aa,F5,(s2.a0 rl.ff).a0<|s4.a0 s5,A5,z5)|some d=>
  refine .inr (d,aa,F4,A4',z4,?_);have e:ox stop [] zs=ai d:=by rw[<-hrun,hdr,ox,N]
  have ho:=h3 d e;subst ho;intro v F5 H5 s5 fh5 z5 r5;exact k v F5 H5 (((rl1.ff.a0 s2).a0 rl.ff).a0<|s4.a0 s5) fh5 z5 r5
 have e:i=zs.length:=!_;subst e;refine .inl (it.a _ F2 H2 s2 A2.fh (),?_);rw[DD]at z2;rw[OH]at hrun;exact(hrun.symm.trans aa,F2,A2,z2,mB (rl1.ff.a0 s2) k)
structure GG(H0:ay)(q:pN):Prop where
 x:H0 q.x=aq
 c:H0 q.b=aq
 d:H0 q.c=aq
 b:H0 q.d=aq
def qB.rl(a:qB q r H0 F H)(f:GG H0 q):cZ r H0 F H:=(a.ff,λb o e=>a.hh b o e (λz=>by subst z;rw[f.x]at e;cases e) (λz=>by subst z;rw[f.c]at e;cases e) (λz=>by subst z;rw[f.d]at e;cases e) (λz=>by subst z;rw[f.b]at e;cases e),a.fh,a.nf)
def Rf(n:ag)(h:Cr X.a2 X.w X.K X.mg X.a8 k V.b)(g2:X.N.Nodup)(h2:∀q:pN,GG H0 q->bg X rest (cN (iX V q r H0 [] []) (L.set n<|.e<|.c q.x) S o))
  (hr:dy (k+1) X.A|>3)(hg:dn X "Network"|>1)
  (hi:X.N[n]?=ai x|>1)(hx:h_ X.a0.scope x|>3)(hs:fS (.Call (.Name "Network" p) [] [] p2) (ai<|.Name x P) G.line X.a0=cA aw|>1)
  (hf:iE X x|>3):
  bg X (.Assign [.Name x P] (.Call (.Name "Network" p) [] [] p2) G::rest) (cN (λF H=>cZ r H0 F H) L S o):=by
 obtain⟨g,fd,ps,Fn,hm,M,hb⟩:=h.a;refine fg (eN (pk g2 hi hx (IE M Fn hr hg hm hb .nil<|mZ) hs hf)<|oS (ι:=pN) λq hq=>h2 q hq) λE l H (F,A,z,kk)=>?_;intro y R K nd ne;refine(y,R,aa,bO,λI J Q H' N m nb g0 g3 g4 D hp hn he g1=>(aa,(y,R,I,J,Q),?_));have yn:I≠y:=λq=>by subst q;rw[bO]at N;cases N
 have ye:J≠y:=λq=>by subst q;rw[bO]at m;cases m
 have yb:Q≠y:=λq=>by subst q;rw[bO]at nb;cases nb
 rw[aO yn]at N;rw[aO ye]at m;rw[aO yb]at nb;have t:H I=aq:=by grind[aO]
 have u:H J=aq:=by grind[aO]
 have v:H Q=aq:=by grind[aO]
 have s:∀b,b≠y->b≠R->b≠I->b≠J->b≠Q->H' b=H b:=λb w b1 b2 b3 b4=>by rw[D b w b2 b3 b4,aO w,aO b1]
 have sH:bD H H':=λb o e=>by
  have w:b≠y:=λq=>by subst q;rw[K]at e;cases e
  have b1:b≠R:=λq=>by subst q;rw[nd]at e;cases e
  have b2:b≠I:=λq=>by subst q;rw[t]at e;cases e
  have b3:b≠J:=λq=>by subst q;rw[u]at e;cases e
  have b4:b≠Q:=λq=>by subst q;rw[v]at e;cases e
  rwa[s b w b1 b2 b3 b4]
 have rl:cZ F H F H':=(bD.a2 _,sH,A.fh.a0 sH,λ_ _ n=>n);have A2:=(A.up rl).a4 λi ds=>A.a2;have zz:=z.a4 rl;refine((z.hh.a1 K,z.hh.a1 t,z.hh.a1 u,z.hh.a1 v),F,A2.b2 n _,(.of zz,?_),mB (bD.a2 _) kk);exact(hp,A.fh.a1 K,([],hn,.a2),A.fh.a1 t,([],he,.a2),A.fh.a1 u,g1,A.fh.a1 v,g0,DH)
def adA(n:ag)(v:L[n]?=ai (.e<|.c q.x))(f:GG H0 q)(h:bg X rest (cN (λF H=>cZ r H0 F H) (L.set n<|.a<|bp V (q.x,U.map dm,Y,[],[])) S o)):bg X rest (cN (iX V q r H0 U Y) L S o):=
 fg h λE l H (F,A,z,k)=>by
  obtain⟨vs,u,Q⟩:=z.2.nm;obtain⟨ws,w,e2⟩:=z.2.ed;have r0:=z.1.rl f;have nx:q.x≠q.b:=λe=>by have:=z.2.ob;rw[e,u]at this;cases this
  have R:q.x≠q.c:=λe=>by have:=z.2.ob;rw[e,w]at this;cases this
  have bx:q.x≠q.d:=λe=>by have:=z.2.ob;rw[e,z.2.bo]at this;cases this
  have bn:q.d≠q.b:=λe=>by have:=z.2.bo;rw[e,u]at this;cases this
  have be:q.d≠q.c:=λe=>by have:=z.2.bo;rw[e,w]at this;cases this
  obtain⟨N,J⟩:=r0.a6 u z.2.fn f.c;obtain⟨M,D⟩:=N.a6 w (by rw[aO<|dZ z.2.ne];exact z.2.fe) f.d;obtain⟨K,s⟩:=M.a6 z.2.bo (by rw[aO be,aO bn];exact z.2.fb) f.b;obtain⟨I,m⟩:=K.a6 z.2.ob (by rw[aO bx,aO R,aO nx];exact z.2.fo) f.x;have g:=((J.a0 D).a0 s).a0 m;have A':=A.mv g I.fh;refine(_,A'.c3 (A.a1 n _ v) ?_,I,mB g k);refine .a4 bO (.a0 (.a0 (m _ _<|s _ _<|D _ _ bO) ?_)<|.a0 (.a0 (m _ _<|s _ _ bO)<|e2.up g)<|.a0 (.a5 (m _ _ bO) .a2 aa) .a2) aa;have e:(U.map dm).map aM=U.map cR:=by rw[eS];exact lK λt _=>Ce t
  rw[e];exact Q.up g
end
section
variable{K:aZ}
def Ta(N:af aC)(q:pN)(d:af az):af bL:=.e (.c q.x)::(d.map .a++cg (N.length-(d.length+1)) .b)
def P6(h:bD F H)(r:cx F vs ds):bE F H F H (pj N (.c q.x::vs)) (Ta N q ds):=by have:=(zD (N:=N) h<|.a0 (.a1 0) r).b2 0<|.c q.x;exact this
def KQ{l:du}(Df:cu K b x l)(S:bW N ps (bf l))
  (hb:∀(W t L:aB) (Z:aJ ax) (i X:aB) (o:af aB),o.length=ps.length->uy (nX x x (pw l) (iQ l) (bf l) .none W t L Z i X) (o,[])=cA (ps.zip o))
  (len:∀m n j d e,R m n j d e->j.length+1=ps.length)
  (body:∀{f:ax} {i:aB} {A:fG} {g:af ig} {s:ba} {H:ay} {E:jC} (B z:ay) (q:pN) (m:af (af ag)) (n:af bB) (j:af az) (d:az) (e:sL),dy k (ml P w K b a N x l f i A g s H E).A->R m n j d e->
   bg (ml P w K b a N x l f i A g s H E) (iQ l) (cN (iX c q B z m n) (Ta N q j) (rG c q B z e)<|.b d)):Cu P w K b a (k+1) x c R:=by
 obtain⟨f,V,F,U⟩:=Df.a;refine(f,V,ps,F.ok S (λC H Q E h=>?_)<|λi A g s H C Q E O h=>?_,U,F.kp,F.a1 hb);obtain⟨G,q,m,n,Y,j,d,e,rfl,_,_,r,p,_⟩:=h;rw[ij,r.a1];exact len m n j d e p;obtain⟨G,q,m,n,Y,j,d,e,rfl,M,y,r,p,D⟩:=h;exact(_,body G H q m n j d e O p,G,P6 y r,(.a9 y,M),λv F' H' _ _ (J,T,u) I=>D v F' H' u.1 (J,T,u.2) I)
end
def oM(q:ah×ah):dq:=(q.1,q.2.toNat)
def Cd(e:bB):dM:=(e.c,e.b,e.a,oM e.g,oM e.h,oM e.o,oM e.l,cG e.k)
def jH(nl:af (af ag))(a:af bB):fY:=(nl,a.map Cd)
def Lw(f:dq):oM (bh f)=f:=by unfold oM bh;rfl
structure uc(n:ag)(q:ah×ah):Prop where
 b:0<=q.1
 a:0<q.2
 e:cM (oM q)
 d:aI n q.1
 c:aI n q.2
structure L4(N:ag)(e:bB):Prop where
 m:e.c<3
 f:e.b<N
 k:e.a<N
 j:e.b≠e.a
 i:0<e.g.1
 g:uc 20 e.g
 h:uc 20 e.h
 o:e.o=(1,1)
 l:e.l=(0,1)
 n:e.k=0
structure vK(nl:af (af ag))(el:af bB):Prop where
 c:nl.length<=8
 d:∀t∈nl,t.length<=8
 b:el.length<=14
 a:∀e∈el,L4 nl.length e
def k4(nl:af (af ag))(e:af bB)(f:af az)(d:az)(a:sL):Prop:=∃t:af ag,f=[cR t]/\nl.length<=20/\d=.a ((fm nl t).1:ag)/\a=λb c=>b=(fm nl t).2/\c=e
def TV{t:af ag}(h:t∈nl):fm nl t=(nl.findIdx<|λx=>x==t,nl)/\nl[nl.findIdx<|λx=>x==t]?=ai t/\∀m a,m<nl.findIdx (λx=>x==t)->nl[m]?=ai a->a≠t:=by
 have c:nl.findIdx (λx=>x==t)<nl.length:=List.findIdx_lt_length_of_exists (t,h,());refine(?_,?_,λm a d b=>?_);·unfold fm;simp[*]
 ·rw[cK c];exact congrArg ai (eq_of_beq (List.findIdx_getElem (w:=c)))
 ·obtain⟨_,rfl⟩:=eM.mp b;intro e;have:=List.not_of_lt_findIdx d;simp[e]at this
def TU{t:af ag}(h:t∉nl):fm nl t=(nl.length,nl++[t]):=by unfold fm;nofun
section
variable{X:bA}{b:af bL}{Z a e:ay->ay->Prop}{f:du}{rest:af du}{d:az}
def yR(h:cP X c (nk Z b a k))(q:k=k'):cP X c (nk Z b a k'):=q▸h
def qk(h1:cH X f (cN Z b e<|.b d))(g:∀F H,e F H->a F H):bg X (f::rest) (cN Z b a<|.b d):=fg (eN h1 lM) λE l H (F,A,z,k)=>(F,A,z,λv j i s h c r=>k v j i s h (g _ _ c) r)
end
section
variable{K:aZ}
def ae0:bW ["network","name"] ["network","name"] (bf<|aK 61):={}
def WA(J:cq K j c):Cu P w K j i 40 "junction_of" c k4:=by refine KQ (k:=39) J.a6 ae0 (λ_ _ _ _ _ _=>Q2 λ_ _=>aa) (λa g v d b h=>by obtain⟨_,e,_⟩:=h;rw[e];rfl) λC B q a g v d b y p=>?_;obtain⟨t,rfl,l,rfl,rfl⟩:=p;by_cases f:t∈a;obtain⟨u,s,r⟩:=TV f;rw[u];refine fu (vb (QS 0 J.T.c aa<|λ_ _=>(1)) (λh=>by simp[f]at h)<|λ_=>ou) ?_;exact qk (Ey<|Q' 0 J.T.c aa (λ_ _=>(1)) s r) λF H z=>((a,g),(aa,aa),z);rw[TU f];refine fu (vb (QS 0 J.T.c aa<|λ_ _=>(1)) (λ_=>fu (adF 0 J.T.c aa (λ_ _=>(1)) !_) ou) (λh=>by simp[f]at h)) ?_;refine qk (Ey<|Q' (k:=a.length) 0 J.T.c aa (λ_ _=>(1)) () λm x A o=>?_) λF H z=>((a++[t],g),(aa,aa),z);grind?
def jJ(s:fY)(d:af (af ag)):aJ fY:=match d with
 |k::a::b::r=>match qN k,qr (k::a::b::r) (qN k)with
  |some e,ai g=>if s.edges.length=14\/oF a=aw\/oF b=aw\/a=b then aq
   else if 8<(fm (fm s.names a).2 b).2.length then aq
   else ai ((fm (fm s.names a).2 b).2,s.edges++[(e,(fm s.names a).1,(fm (fm s.names a).2 b).1,g.1,g.2,cG 1,aU,aU)])
  |_,_=>aq
 |_=>aq
def Gz(o:aJ fY):sL:=λa b=>∀d,o=ai d->jH a b=d/\vK a b
def q4(nl:af (af ag))(b:af bB)(e:af az)(d:az)(a:sL):Prop:=∃t:af ag,e=[cR t]/\mm t/\vK nl b/\d=.g (jJ (jH nl b)<|lg t).isSome/\a=Gz (jJ (jH nl b)<|lg t)
def Uh(h:lE t=ai n):n<=1000000:=by unfold lE at h;split at h;nofun;dsimp only at h;split at h;cases h;assumption;lia
def JG{n:ag}(h:n<=1000000):aI 20 (n:ah):=by unfold aI;left
def ads:uc 20 (bh aU):=(⋯,⋯,by rw[Lw];exact qL,aI.a2,aI.a2)
def FP(h:iZ t=ai f):uc 20 (bh f):=by
 have d:∀(n m:ag),n<=1000000->m<=1000000->m≠0->uc 20 (bh<|aQ n m):=λn m g k l=>by have e:0<(m:ah):=!_;have b:=oJ (a:=n) e;refine(?_,b.2.2,by rw[Lw];exact fE _ _,jg b.1<|JG g,jg b.2.1<|JG k);show 0<=(aQ (n:ah) (m:ah)).num;unfold aQ;rw[aE ∅];dsimp only;rw[aE ¬_];exact Bb (_) ¬_
 unfold iZ at h;split at h
 ·rename_i a _;cases ha:lE a with
  |none=>rw[ha]at h;cases h
  |some n=>rw[ha]at h;cases h;exact(by show(0:ah)<=n;symm,by show(0:ah)<((1:ag):ah);decide,by rw[Lw];exact pQ _,JG<|Uh ha,by show aI 20 ((1:ag):ah);exact aI.a2)
 ·rename_i a b _;cases ha:lE a with
  |none=>rw[ha]at h;cases h
  |some n=>
   cases hb:lE b with
   |none=>rw[ha,hb]at h;cases h
   |some m=>rw[ha,hb]at h;dsimp only at h;split at h;cases h;cases h;exact d n m (Uh ha) (Uh hb) ‹_›
 cases h
def Pv(h:qr ws k=ai g):4<=ws.length/\uc 20 (bh g.1)/\uc 20 (bh g.2)/\0<(bh g.1).1:=by unfold qr at h;split at h;split at h;nofun;split at h;nofun;rename_i x b;split at h;lia;cases h;have a:=FP b;refine((_),a,ads,?_);have:=a.b;show 0<x.num;have e:0<=x.num:=this;lia;split at h;split at h;rename_i x y b d;split at h;nofun;cases h;have a:=FP b;refine((_),a,FP d,?_);have:=a.b;show 0<x.num;have e:0<=x.num:=this;grind;nofun;lia;nofun
def No(h:qN t=ai k):k<3:=by unfold qN at h;(repeat' split at h)<;>cases h<;>exact wx aa
def TX{t:af ag}:nl.length<=(fm nl t).2.length/\(fm nl t).2.length<=nl.length+1/\(fm nl t).1<(fm nl t).2.length/\(fm nl t).2[(fm nl t).1]?=ai t/\(∀u∈(fm nl t).2,u∈nl\/u=t)/\∀(k:ag) (u:af ag),nl[k]?=ai u->(fm nl t).2[k]?=ai u:=by
 by_cases a:t∈nl;·obtain⟨e,d,b⟩:=TV a;ac_rfl
 all_goals (simp_all[TU];grind?)
def yT:bW ["network","line","words","kind","ratios","first","second"] ["network","line"] (bf<|aK 63):={}
def Wz(J:cq K j c):Cu P w K j i 44 "take_line" c q4:=by
 refine KQ (k:=43) J.b7 yT (λ_ _ _ _ _ _=>Q2 λ_ _=>aa) (λf v ds d N h=>by obtain⟨_,e,_⟩:=h;rw[e];rfl) λR Q q f v ds d N hr hR=>?_;obtain⟨t,rfl,T,x,rfl,rfl⟩:=hR;have A:=T.a3;have h1:=T.a0;refine fu (yN iX.a0 λ_ _=>cB (d:=.d<|(lg t).map cR) 2 (aY (sv J) #[(1)] (t,aa,T.a0,aa)) yT.a) ?_;generalize g4:lg t=ws at A ⊢;have m:∀{F H:ay},iX c q R Q f v F H->rG c q R Q (Gz aq) F H:=λz=>((f,v),λs' U=>∅,z);cases ws with|nil=>exact ni (vc (k:=ao) iX.a0 (λ_ _=>cX (ec (dO J.T.e (2)) aF) aa) (λ_=>qk (pB iX.a0 λ_ _=>bb tX) λF H z=>m z) ())|cons s n=>
  refine fu (vc iX.a0 (λ_ _=>cX (ec (dO J.T.e (2)) aF) (k':=aw) aa) ()<|λ_=>ou) ?_;refine fu (yN iX.a0 λ_ _=>cB (d:=rB<|qN s) 3 (dY (aY (w9 J) #[bt (2) aF di] (s,aa,aa)) (by cases qN s<;>rfl)) yT.a) ?_;refine fu (yN iX.a0 λ_ _=>cB (d:=V'<|qr (s::n)<|qN s) 4 (aY (J9 J) #[(2),(3)] ((s::n,qN s),aa,A,aa)) yT.a) ?_;cases hk:qN s with
  |none=>
   have Z:jJ (jH f v) (s::n)=aq:=by unfold jJ;(split<;>nofun)
   rw[Z];exact ni<|vc (k:=ao) iX.a0 (λ_ _=>jD.pt<|rj<|cX (eX (3)) aa) (λ_=>qk (pB iX.a0 λ_ _=>bb tX) λF H z=>m z) ()
  |some S=>
   cases hg:qr (s::n) (ai S)with
   |none=>
    have Z:jJ (jH f v) (s::n)=aq:=by unfold jJ;(split<;>nofun)
    rw[Z];exact ni<|vc (k:=ao) iX.a0 (λ_ _=>jD.pt<|RB (cX (eX (3)) aa)<|rj<|cX (eX (4)) aa) (λ_=>qk (pB iX.a0 λ_ _=>bb tX) λF H z=>m z) ()
   |some g=>
    obtain⟨h4,Y,X,o⟩:=Pv hg;obtain⟨a,b,M,r,rfl⟩:∃a b M r,n=a::b::M::r:=by
     match n,h4 with|a::b::M::r,_=>exact(a,b,M,r,aa)|[],h=>simp at h|[_],h=>simp at h|[_,_],h=>simp at h
    have I:=(A a (_)).a0;have G:=(A b (_)).a0;have l:jJ (jH f v) (s::a::b::M::r)=if v.length=14\/oF a=aw\/oF b=aw\/a=b then aq
      else if 8<(fm (fm f a).2 b).2.length then aq
      else ai ((fm (fm f a).2 b).2,v.map Cd++[(S,(fm f a).1,(fm (fm f a).2 b).1,g.1,g.2,cG 1,aU,aU)]):=by
     unfold jJ;dsimp only;rw[hk,hg];simp only[jH,cb];congr
    rw[l];by_cases he:v.length=14;rw[aG<|.inl he];exact ni<|vb (k:=ao) (Z1:=iX c q R Q f v) (jD.pt<|Ep (k:=aw) (k':=ao) (Er iX.a0 λ_ _=>cX (eX (3)) aa) (λ_=>Ep (k:=aw) (Er iX.a0 λ_ _=>cX (eX (4)) aa) (λ_=>QQ<|yR (QV (Es J.T.e (uZ 0 1 J.T.c aa aa aa) λF H z=>z.b0) J.T.y) ∅) (_)) (_)) (λ_=>qk (pB iX.a0 λ_ _=>bb tX) λF H z=>m z) ();refine fu (vb (k:=aw) (Z1:=iX c q R Q f v) (jD.pt<|Ep (k:=aw) (k':=aw) (Er iX.a0 λ_ _=>cX (eX (3)) aa) (λ_=>Ep (k:=aw) (Er iX.a0 λ_ _=>cX (eX (4)) aa) (λ_=>QQ<|yR (QV (Es J.T.e (uZ 0 1 J.T.c aa aa aa) λF H z=>z.b0) J.T.y) ()) (_)) (_)) ()<|λ_=>ou) ?_;by_cases D:oF a=aw\/oF b=aw\/a=b;rw[aG<|.inr D];refine ni<|vc (k:=ao) iX.a0 (λ_ _=>cX (jD.pt<|er (ef<|d_<|aY (FL J) #[bt (2) aF eH] (a,aa,I,aa)) λ_=>(er (ef<|d_<|aY (FL J) #[bt (2) aF mi] (b,aa,G,aa)) λ_=>(dQ<|EJ (bt (2) aF eH)<|bt (2) aF mi))) ?_) (λ_=>qk (pB iX.a0 λ_ _=>bb tX) λF H z=>m z) ();nofun;have g7:oF a=ao:=∅;have g6:oF b=ao:=∅;have g0:a≠b:=λh=>D<|.inr<|.inr h;rw[aE ∅];refine fu (vc (k:=aw) iX.a0 (λ_ _=>cX (jD.pt<|er (ef<|d_<|aY (FL J) #[bt (2) aF eH] (a,aa,I,aa)) λ_=>(er (ef<|d_<|aY (FL J) #[bt (2) aF mi] (b,aa,G,aa)) λ_=>(dQ<|EJ (bt (2) aF eH)<|bt (2) aF mi))) ∅) ()<|λ_=>ou) ?_;have g5:=x.c;have O:=TX (nl:=f) (t:=a);have B:=TX (nl:=(fm f a).2) (t:=b);refine fu (Jo 5 (wQ 0 (WA J) aa (λ_ _=>#[bt (2) aF eH]) (a,aa,!_,aa,aa)) yT.a)<|wR λg3 h3 W=>?_;obtain⟨rfl,rfl⟩:=W;refine fu (Jo 6 (wQ 0 (WA J) aa (λ_ _=>#[bt (2) aF mi]) (b,aa,!_,aa,aa)) yT.a)<|wR λg2 h2 V=>?_;obtain⟨rfl,rfl⟩:=V;have h0:=x.b;refine fu (adG (fe:=(0,S,(fm f a).1,(fm (fm f a).2 b).1,bh g.1,bh g.2,(1,1),(0,1),0)) 0 J.T.c aa (Ur J) (λ_ _=>#[(3),(5),(6),bt (4) aF di,bt (4) aF eH]) (by lia) aa aa aa)<|Jt λy=>?_;by_cases h8:8<(fm (fm f a).2 b).2.length;rw[aG h8];refine Jq (qk (Ey<|QZ (Es J.T.e (uZ 0 0 J.T.c aa aa aa) λF H z=>z.b1) J.T.z) λF H z=>((_,_),λs' U=>∅,z)) ?_;left;rw[aE h8];refine Jq (qk (Ey<|QZ (Es J.T.e (uZ 0 0 J.T.c aa aa aa) λF H z=>z.b1) J.T.z) λF H z=>((_,_),λs' U=>?_,z)) ?_;cases U;have L:(fm f a).1≠(fm (fm f a).2 b).1:=λhq=>by have q1:=B.2.2.2.2.2 _ _ O.2.2.2.1;rw[hq,B.2.2.2.1]at q1;exact g0 (kX q1).symm
    have g9:a.length<=8:=by (nofun;grind?[oF])
    have g8:b.length<=8:=by (nofun;grind?[oF])
    have g1:(fm (fm f a).2 b).2.length<=8:=Nat.le_of_not_lt h8;have E:=fx O.1 B.1;refine(?_,(g1,λu C=>?_,by simp;lia,λe' p=>?_));unfold jH;dsimp only;rw[eV];congr 1;dsimp only at C;rcases B.2.2.2.2.1 u C with C|rfl;rcases O.2.2.2.2.1 u C with C|rfl;exact x.d u C;symm;symm;dsimp only at p ⊢;rcases nZ.mp p with p|p;have:=x.a e' p;exact(this.m,gX this.f E,gX this.k E,this.j,this.i,this.g,this.h,this.o,this.l,this.n);simp at p;subst p;exact(No hk,gX O.2.2.1 B.1,B.2.2.1,L,o,Y,X,aa,aa,aa);left
end
def Ui(h:t≠[]):Vbbcao.isName t=oF t:=by unfold Vbbcao.isName oF;grind?
def UF(h:iZ t=ai x):xY x=aw↔x.num=0:=by have a:0<=x.num:=(FP h).b;unfold xY;left
def UR [CA C1] [CA C2] [CA D1] [CA D2](h:(C1\/C2)↔(D1\/D2)):(if C1 then aq else if C2 then aq else ai v)=(if D1 then aq else if D2 then aq else ai v):=()
def ms(s:fY)(t:af ag)(m:s.edges.length<=14):wa s t=jJ s (lg t):=by
 have c:∀w∈lg t,w≠[]:=λw u=>by have:=(tr.mp u).2;intro z;subst z;simp at this
 unfold wa;show(match lg t with|k::a::b::g::r=>_|_=>aq)=_;generalize lg t=l at c
 match l,c with
 |[],_=>rfl|[_],_=>rfl|[_,_],_=>rfl|[k,a,b],_=>simp[jJ,qr]|k::a::b::g::r,c=>
  have q:=Ui<|c a (_);have j:=Ui<|c b (_);unfold jJ;dsimp only;cases o:qN k with|none=>rfl|some d=>
   cases e:iZ g with
   |none=>
    have:qr (k::a::b::g::r) (ai d)=aq:=by
     match r with|[]=>rw[Ks,e];split<;>rfl|[h]=>rw[Kr,e];split<;>rfl|_::_::_=>rfl
    nofun
   |some x=>
    have n:=UF e
    match r with
    |_::_::_=>rfl|[]=>rw[Ks,e];by_cases f:d=2;nofun;rw[aE (show ¬(ai d=ai 2)from λz=>f<|kX z)];by_cases i:x.num=0;nofun;dsimp only;rw[aE i];exact UR (by rw[q,j];show _\/(8<_\/14<=_)↔_;constructor;left;rintro ((z|z|z|z)|z);(simp[*]);symm;(simp[*]);(simp[*]);exact .inr<|.inl z)|[h]=>
     rw[Kr,e];dsimp only;cases p:iZ h with|none=>nofun|some y=>by_cases f:d=2;rw[aG (show ai d=ai 2 by rw[f])];by_cases i:x.num=0;nofun;dsimp only;rw[aE i];exact UR (by rw[q,j];show _\/(8<_\/14<=_)↔_;constructor;left;rintro ((z|z|z|z)|z);(simp[*]);symm;(simp[*]);(simp[*]);exact .inr<|.inl z);nofun
def gr(hs:s.edges.length<=14)(h:jJ s ws=ai s'):s'.edges.length<=14:=by
 unfold jJ at h;split at h;split at h;split at h;cases h;rename_i c;split at h<;>cases h;simp;lia;cases h;cases h
def nH(pre:af (ag×af ag)):aJ fY:=pre.foldl (λo q=>o.bind λs=>jJ s<|lg q.2)<|ai ([],[])
def Lh(pre:af (ag×af ag))(z:ag×af ag):nH (pre++[z])=(nH pre).bind λs=>jJ s<|lg z.2:=by simp[nH]
def tG(pre:af (ag×af ag))(z:ag×af ag):aJ az:=if(nH<|pre++[z]).isNone=ao then ai (.a (z.1:ag))else aq
def U9(h:nH pre=aq):nH (pre++post)=aq:=by
 unfold nH at*;rw[rV,h];induction post with|nil=>rfl|cons q l a=>exact a
def adv{a:du}(h:cH X a (cN Z ρ Z'<|.b d1))(q:d1=d2):cH X a (cN Z ρ Z'<|.b d2):=q▸h
def SD:∀(a:af (af ag)) (m:af (ag×af ag)) (k:ag) (s:fY),nH m=ai s->s.edges.length<=14->
  (ox tG m (bj k a)=match jT k s a with|.error e=>ai (.a (e:ag))|.ok _=>aq)/\∀b,jT k s a=.ok b->nH (m++bj k a)=ai b
 |[],m,k,s,f,c=>by refine(aa,λb h=>?_);cases h;show nH (m++[])=_;rw[kH];exact f
 |t::a,m,k,s,f,c=>by
  have i:nH (m++[(k,t)])=jJ s (lg t):=by rw[Lh,f];rfl
  have l:=ms s t c;show(ox tG m ((k,t)::bj (k+1) a)=_)/\_;rw[ox];unfold jT;rw[l];cases d:jJ s (lg t)with
  |none=>
   have:tG m (k,t)=ai (.a (k:ag)):=by unfold tG;rw[i,d];rfl
   rw[this];exact(aa,λb h=>by cases h)
  |some j=>
   have:tG m (k,t)=aq:=by unfold tG;rw[i,d];rfl
   rw[this];have g:=SD a (m++[(k,t)]) (k+1) j ∅<|gr c d;refine(g.1,λb h=>?_);have:=g.2 b h;rw[wA]at this;exact this
def W'(o:aJ fY):sL:=λa b=>∃s,o=ai s/\jH a b=s/\vK a b
def Bw(r:Except ag fY):ag:=match r with|.error e=>e|.ok _=>0
def Mr(r:Except ag fY):sL:=λa b=>∀c,r=.ok c->jH a b=c/\vK a b
def D6(nl:af (af ag))(b:af bB)(c:af az)(d:az)(a:sL):Prop:=∃t:af ag,c=[cR t]/\mm t/\nl=[]/\b=[]/\d=.a (Bw (jx t):ag)/\a=Mr (jx t)
def Uw(k:ag)(s:fY)(c:af ag):∀(a:af (af ag)) (k:ag) (s:fY),jT k s (a++[c])=match jT k s a with
  |.error e=>.error e
  |.ok b=>match wa b c with|none=>.error (k+a.length)|some m=>.ok m
 |[],k,s=>by show jT k s [c]=_;unfold jT;dsimp only[jT];cases wa s c<;>rfl
 |t::a,k,s=>by
  show jT k s (t::(a++[c]))=_;unfold jT;cases wa s t with|none=>rfl|some m=>dsimp only;rw[Uw k s c a (k+1) m];have:k+(t::a).length=k+1+a.length:=();rw[this]
def Ua(h:gq 10 [] t=init++[last]):jx t=match jT 1 ([],[]) init with
  |.error e=>.error e
  |.ok s=>if last≠[]\/init=[]then .error (init.length+1)else .ok s:=by
 unfold jx;rw[h,List.reverse_append];show(match [last].reverse++init.reverse with|[]::r=>_|r=>_)=_;rw[show [last].reverse++init.reverse=last::init.reverse from aa];cases last with
 |nil=>
  dsimp only;cases init with|nil=>rfl|cons a r=>left
 |cons c l=>
  dsimp only;rw[DF,List.reverse_reverse,Uw 1 ([],[]) (c::l) init 1];cases jT 1 ([],[]) init with|error e=>rfl|ok s=>grind?
section
variable{K:aZ}
def ET:bW ["network","text","lines","unended","number","line"] ["network","text"] (bf<|aK 64):={}
def Mc(J:cq K c a):Cu P w K c b 45 "take_text" a D6:=by
 refine KQ (k:=44) J.e1 ET (λ_ _ _ _ _ _=>Q2 λ_ _=>aa) (λA I Z d N h=>by obtain⟨_,e,_⟩:=h;rw[e];rfl) λU S q A I Z d N hr hR=>?_;obtain⟨t,rfl,Y,rfl,rfl,rfl,rfl⟩:=hR;have g1:=Cg 10 t [];obtain⟨f,D,hL⟩:∃f D,gq 10 [] t=f++[D]:=by rcases List.eq_nil_or_concat (gq 10 [] t)with h|⟨i,l,h⟩;all_goals nofun
 have g2:∀x∈f,mm x:=λx hx=>Y.a1 10 x ∅;have g0:f.length<=10000:=by have:=Y.a0;left
 rw[Ua hL];refine adw (ds:=f.map cR) 2 iX.a0 (λ_ _=>ia (ds:=f.map cR++[cR D]) 2 (pJ (Wg (VO J) #[(1),cY J.T.D] ((t,10),aa,Y.a0,aa)) ∅) ET.a) (λ_ _=>rz 2 3 aa ⋯ ET.a) aa ?_;have m:=SD f [] 1 ([],[]) aa ();rw[HY]at m;refine Rb (Z1:=rG a q U S<|W'<|nH []) ?_ λF H z=>(([],[]),(_,aa,aa,((),(),(),())),z);refine adB (bj 1 f) (λz=>az.f [.a (z.1:ag),cR z.2]) [.e<|.c q.x,.a<|cR t,.a<|.d<|f.map cR,.a<|cR D,.b,.b] (λT=>rG a q U S<|W'<|nH T) (λT=>rG.a0) tG (λz=>[.e<|.c q.x,.a<|cR t,.a<|.d<|f.map cR,.a<|cR D,.a<|.a (z.1:ag),.a<|cR z.2]) (λ_ _=>jm (lv J.T.p (2))<|xy _ 1 _) (λ_ _ z V=>mf 4 5 aa ET.a) (λT z s V g=>?_) (λT z s d V g=>?_) (λhn=>?_) (λd L=>?_) aa fT
 ·have B:mm z.2:=by have:z∈bj 1 f:=∅;obtain⟨j,X,e⟩:=iC this;have:=lu (n:=1) (l:=f) (i:=j) (p:=z) (by rw[<-e];exact cK X);left
  refine wR λA I C=>?_;obtain⟨s0,W,G,E⟩:=C;have u:nH (T++[z])=jJ (jH A I) (lg z.2):=by rw[Lh,W,G];rfl
  unfold tG at g;rw[u]at g;cases y:jJ (jH A I) (lg z.2)with
  |none=>rw[y]at g;simp at g|some O=>refine Ex (Bd (fu (vb (Z1:=rG a q U S<|Gz<|ai O) (k:=aw) (yR (QT<|QR<|wQ 0 (Wz J) aa (λ_ _=>#[(5)]) (z.2,aa,B,E,aa,by rw[y])) ∅) ()<|λ_=>ou) ou)<|λF H z'=>?_)<|.a0<|.a0<|.a0<|.a0<|.no<|.no .a2;obtain⟨p,C,o⟩:=z';obtain⟨R,h2⟩:=C O aa;exact(p,(O,by rw[u,y],R,h2),o)
 ·have B:mm z.2:=by have:z∈bj 1 f:=(by nofun);obtain⟨j,X,e⟩:=iC this;have:=lu (n:=1) (l:=f) (i:=j) (p:=z) (by rw[<-e];exact cK X);grind
  refine wR λA I C=>?_;obtain⟨s0,W,G,E⟩:=C;have u:nH (T++[z])=jJ (jH A I) (lg z.2):=by rw[Lh,W,G];rfl
  unfold tG at g;rw[u]at g;cases y:jJ (jH A I) (lg z.2)with
  |some O=>rw[y]at g;simp at g|none=>
   rw[y]at g;have L:az.a (z.1:ag)=d:=∅;subst L;have v:∃e,jT 1 ([],[]) f=.error e:=by
    cases r:jT 1 ([],[]) f with|error e=>exact(e,aa)|ok M=>have R:=m.2 M r;rw[V,show T++z::s=(T++[z])++s by simp,U9<|u.trans y]at R;lia
   obtain⟨e,v⟩:=v;rw[v];exact ni<|vb (Z1:=rG a q U S<|Gz aq) (k:=ao) (yR (QT<|QR<|wQ 0 (Wz J) aa (λ_ _=>#[(5)]) (z.2,aa,B,E,aa,by rw[y])) ∅) (λ_=>qk (pB rG.a0 λ_ _=>bb (4)) λF H (p,_,o)=>(p,λM h=>(by cases h),o)) ¬_
 ·cases r:jT 1 ([],[]) f with
  |error e=>rw[m.1,r]at hn;cases hn
  |ok M=>
   dsimp only;by_cases Q:D≠[]\/f=[]
   ·rw[aG Q];refine ni<|vc (k:=ao) rG.a0 (λ_ _=>cX (jD.pt<|er (jE (dO J.T.e (3)) aF) λ_=>(dQ<|ec (dO J.T.e (2)) aF)) ?_) (λ_=>qk (adv (pB rG.a0 λ_ _=>bb<|kx (dO J.T.e (2)) aF) ?_) λF H (p,_,o)=>(p,λM h=>(by cases h),o)) ¬_;·simp[*,List.length_pos_iff]
    ·rw[cb];rfl
   ·rw[aE Q];have R:D=[]:=Xe λz=>Q<|.inl z;have h2:f≠[]:=λz=>Q<|.inr z;refine fu (vc (k:=aw) rG.a0 (λ_ _=>cX (jD.pt<|er (jE (dO J.T.e (3)) aF) λ_=>(dQ<|ec (dO J.T.e (2)) aF)) (by nofun)) ¬_<|λ_=>ou) ?_;refine qk (pB rG.a0 λ_ _=>bb aF) λF H (p,C,o)=>(p,λs2 h=>?_,o);cases h;obtain⟨s0,e0,h3,h4⟩:=C;nofun
 ·cases r:jT 1 ([],[]) f with
  |ok M=>rw[m.1,r]at L;cases L
  |error e=>rw[m.1,r]at L;cases L;rfl
end
structure Mu:Prop where
 a:∀n,bw n->rH n (c_ n)
 c:∀n k,bw n->k<n.a.length->rH n (f_ n k)
 b:∀n,bw n->∃m,2^(lU n (hG n (c_ n))).length*(m+1)<=10000000/\mK m (lU n (hG n (c_ n))) (cj n).b/\aI m (cj n).b
def wf(tops:af ah)(h:0<b):ll tops b<=b:=by
 have a:∀(l:af ah) (g:ah),0<g->l.foldl (λg t=>((fJ g t:ag):ah)) g<=g:=by
  intro l;induction l with|nil=>intro g _;exact QM _|cons t l c=>intro g d;have i:0<fJ g t:=QO t !_;have f:=c ((fJ g t:ag):ah) ∅;have e:((fJ g t:ag):ah)<=g:=Int.le_of_dvd d<|wO g t;grind?
 exact a tops b h
def RZ(h:0<b)(m:aI k b)(i:∀t∈tops,aI k t):0<(qo tops b).b/\aI k (qo tops b).b/\(∀t∈(qo tops b).a,aI k t)/\(qo tops b).a.length=tops.length:=by
 have d:=BW (tops:=tops) h;have j:=wf tops h;refine(?_,m.a3 d,λt a=>?_,by simp[qo]);show 0<b/ll tops b;exact Jj h (by lia) (by
  have c:∀(l:af ah) (g:ah),l.foldl (λg t=>((fJ g t:ag):ah)) g∣g:=by
   intro l;induction l with|nil=>intro g;exact Jk _|cons t l e=>intro g;rw[fO];exact yM (e _)<|wO g t
  exact c tops b)
 obtain⟨u,f,rfl⟩:=cJ.mp a;exact(i u f).a3 d
def FW(hf:rH n hs):iu (hG n hs)/\(hG n hs).a.length=n.a.length:=by
 have b:(dJ n hs).a.length=n.b.length:=zf _ _ _;have a:=Kw hf.a;have m:=hf.c.c;have j:0<(dJ n hs).b*hs.b:=fQ hf.a.b hf.b.a;have p:aI 30000 ((dJ n hs).b*hs.b):=(hf.a.a.a1 hf.b.d).a0 ⋯;have d:∀t∈oK n hs,aI 30000 t:=λt d=>by obtain⟨q,w,rfl⟩:=cJ.mp d;have i:=gd (show (Prod.mk q.1 q.2)∈hs.a.zip n.a from w);have k:=hf.c.a q.2 i.2;have l:=(za hf.c).a1<|AA (f:=en) i.2;have c:=hf.b.c q.1 i.1;have h:aI 24000 ((dJ n hs).a.getD q.2.b 0):=a _<|jo (by rw[b];exact k.b);have g:aI 24000 ((dJ n hs).a.getD q.2.a 0):=a _<|jo (by rw[b];exact k.a);have e:aI 24002 (tJ (dJ n hs) q.2 q.1):=((h.a4 g).a5<|c.a1 hf.a.a).a0 ⋯;exact((l.2.1.a1 e).a0 ⋯).a3 l.1
 obtain⟨v,u,s,r⟩:=RZ j p d;have o:(hG n hs).a.length=n.a.length:=by show(qo (oK n hs) _).a.length=_;rw[r];unfold oK;rw[cb,kG,hf.b.b];simp
 exact((!_,v,u,s),o)
def Tr(hf:rH n hs):0<(ro n hs).b/\(ro n hs).a.length=n.b.length:=by have a:(dJ n hs).a.length=n.b.length:=zf _ _ _;have b:0<(dJ n hs).b*hs.b:=fQ hf.a.b hf.b.a;have d:aI 30000 ((dJ n hs).b*hs.b):=(hf.a.a.a1 hf.b.d).a0 ⋯;obtain⟨f,h,g,e⟩:=RZ b d λt c=>(Kw hf.a t c).a0 ⋯;exact(f,e.trans a)
def zu(hl:l.length<=40)(g:∀z∈l,aI 60 z)(h:fM l=ai r):iu r:=by
 unfold fM at h;obtain⟨c,p,rfl⟩:=p'.mp h;have f:∀(k:ag) (l:af ah) (c:af (ah×ah)),l.length<=k->(∀z∈l,aI 60 z)->kO l=ai c->2*c.length=l.length/\∀q∈c,0<q.2/\aI 60 q.1/\aI 60 q.2:=by
  intro k;induction k with
  |zero=>intro l c s _ h;have:l=[]:=DL ∅;subst this;cases h;exact(aa,())
  |succ k j=>
   intro l c s g h
   match l,h with
   |[],h=>cases h;exact(aa,())
   |[a],h=>cases h
   |a::b::r,h=>unfold kO at h;split at h;nofun;obtain⟨e,i,rfl⟩:=p'.mp h;obtain⟨u,d⟩:=j r e (by left) (λz m=>g z (_)) i;left
 obtain⟨u,d⟩:=f l.length l c (b_ _) g p;have o:oR 60 c:=(!_,⋯,λq y=>(d q y).1,λq y=>(d q y).2.1,λq y=>(d q y).2.2);obtain⟨x,w,v⟩:=y_ o;exact(by rw[Bv];left,x,w.a0 ⋯,λt n=>(v t n).a0 ⋯)
section
variable{K:aZ}
def dB(n:aR)(k:ah):da:=aT (0<=k)&&aT (k<(n.a.length:ag))
def oE(n:aR)(k:ah):da:=aT (0<=k)&&aT (k<(n.b.length:ag))
def lT(k:ah):da:=aT (-1000000<=k)&&aT (k<=1000000)
def oy(a b:ah):da:=(aT (0<=a)&&aT (a<=1000000))&&(aT (1<=b)&&aT (b<=1000000))
def ip(a b:ah):da:=oy a b&&aT (a<=b)
def T3(f:bH)(a:af az)(d:az):Prop:=∃p:aR×ah,a=[bp f p.1,.a p.2]/\d=.g (dB p.1 p.2)
def U3(f:bH)(a:af az)(d:az):Prop:=∃p:aR×ah,a=[bp f p.1,.a p.2]/\d=.g (oE p.1 p.2)
def j4(ds:af az)(d:az):Prop:=∃k:ah,ds=[.a k]/\d=.g (lT k)
def Z3(ds:af az)(d:az):Prop:=∃p:ah×ah,ds=[.a p.1,.a p.2]/\d=.g (oy p.1 p.2)
def V3(ds:af az)(d:az):Prop:=∃p:ah×ah,ds=[.a p.1,.a p.2]/\d=.g (ip p.1 p.2)
def VV:bW ["network","number"] ["network","number"] (bf<|aK 92):={}
def oH(J:cq K h f):cI P w K h c 40 "is_edge" (T3 f):=by refine cW (k:=39) J.M VV λi g e d b a=>?_;obtain⟨⟨n,k⟩,rfl,rfl⟩:=a;exact fB (aX<|bb<|Wb aF (1)<|dO J.T.e<|bc 1 J.T.c (0)) (by rw[cb];rfl)
def XV:bW ["network","number"] ["network","number"] (bf<|aK 93):={}
def FN(J:cq K h f):cI P w K h c 40 "is_junction" (U3 f):=by refine cW (k:=39) J.Y XV λi g e d b a=>?_;obtain⟨⟨n,k⟩,rfl,rfl⟩:=a;exact fB (aX<|bb<|Wb aF (1)<|dO J.T.e<|bc 0 J.T.c (0)) (by rw[cb];rfl)
def PW:bW ["number"] ["number"] (bf<|aK 94):={}
def FJ(J:cq K h f):cI P w K h c 40 "is_warmth" j4:=by refine cW (k:=39) J.c5 PW λi g e d b a=>?_;obtain⟨k,rfl,rfl⟩:=a;exact fB (aX<|bb<|Gk (tW<|cY J.T.s) (0)<|cY J.T.s) aa
def TW:bW ["top","below"] ["top","below"] (bf<|aK 95):={}
def Ld(J:cq K h f):cI P w K h c 40 "is_ratio" Z3:=by refine cW (k:=39) J.e7 TW λl j i d g e=>?_;obtain⟨⟨a,b⟩,rfl,rfl⟩:=e;exact fB (aX<|bb<|LO (Gk aF (0)<|cY J.T.s) λ_=>(LM<|Gk aF (1)<|cY J.T.s)) aa
def XW:bW ["top","below"] ["top","below"] (bf<|aK 96):={}
def zq(J:cq K h f):cI P w K h c 41 "is_part" V3:=by refine cW (k:=40) J.r XW λl j i d g e=>?_;obtain⟨⟨a,b⟩,rfl,rfl⟩:=e;exact fB (aX<|bb<|LO (aY (Ld J) #[(0),(1)] ((a,b),aa,aa)) λ_=>(LM<|Wc (0) (1))) aa
structure iL where
 n:aR
 b:af ah
 c:af (af ah)
def mM(f:bH)(b:iL->Prop)(g:iL->af ah)(e:af az)(d:az):Prop:=∃a:iL,e=[bp f a.n,aM a.b,.d<|a.c.map aM]/\bw a.n/\b a/\d=aM (g a)
def XX:bW ["network","numbers","rows"] ["network","numbers","rows"] (bf<|aK 99):={}
def rc(J:cq K h f):cI P w K h c 44 "answer_print" (mM f (λa=>Cq a.n) λa=>0::EG a.n):=by refine cW (k:=43) J.e4 XX λr q p d m l=>?_;obtain⟨⟨n,i,g⟩,rfl,o,b,rfl⟩:=l;have b:Cq n:=b;refine fB (aX<|bb<|bJ<|jl (bJ<|cQ #[aF]) (aY (C9 J) #[(0)] (n,aa,b,aa)) ?_) aa;have:=EF b n.a λe j=>j;have:=b.c;rw[cb];show 1+(n.a.flatMap<|mE n).length<=_;lia
def PA:bW ["network","numbers","rows"] ["network","numbers","rows"] (bf<|aK 102):={}
def dg(n:aR):bF:=hG n<|c_ n
def na(J:cq K h f)(M:Mu):cI P w K h c 47 "answer_flows" (mM f (λ_=>eA) λa=>0::iG (dg a.n).a (dg a.n).b):=by refine cW (k:=46) J.o PA λr q p d m l=>?_;obtain⟨⟨n,g,e⟩,rfl,j,_,rfl⟩:=l;have i:=M.a n j;obtain⟨b,o⟩:=FW i;refine fB (aX<|bb<|bJ<|jl (bJ<|cQ #[aF]) (aY (FF J) #[aY (xo J) #[(0)] (n,aa,i,aa)] (dg n,aa,b.b,by have:=b.d;show(hG n<|c_ n).a.length<=1000;lia,aa)) ?_) aa;have:=b.d;rw[cb,wU];show 1+2*(hG n<|c_ n).a.length<=_;lia
def TA:bW ["network","numbers","rows"] ["network","numbers","rows"] (bf<|aK 103):={}
def pc(J:cq K h f)(M:Mu):cI P w K h c 47 "answer_pressures" (mM f (λ_=>eA) λa=>0::iG (ro a.n<|c_ a.n).a (ro a.n<|c_ a.n).b):=by refine cW (k:=46) J.V TA λs r q d o m=>?_;obtain⟨⟨n,e,b⟩,rfl,g,_,rfl⟩:=m;have i:=M.a n g;obtain⟨j,p⟩:=Tr i;have l:n.b.length<=8:=g.d;refine fB (aX<|bb<|bJ<|jl (bJ<|cQ #[aF]) (aY (FF J) #[aY (F9 J) #[(0)] (n,aa,i,aa)] (ro n<|c_ n,aa,j,!_,aa)) ?_) aa;(nofun;grind?[cb,wU,ro,c_])
def KT:bW ["network","numbers","rows"] ["network","numbers","rows"] (bf<|aK 115):={}
def Da(J:cq K h f):cI P w K h c 42 "answer_groups" (mM f (λ_=>eA) λa=>0::dm (iV a.n)):=by refine cW (k:=41) J.b1 KT λp o m d l j=>?_;obtain⟨⟨n,e,b⟩,rfl,g,_,rfl⟩:=j;have i:n.b.length<=8:=g.d;refine fB (aX<|bb<|bJ<|jl (bJ<|cQ #[aF]) (dY (aY (Vi J) #[(0)] (n,aa,g,aa)) (Ce<|iV n).symm) ?_) aa;rw[cb];unfold dm;(simp[cb,iV,vx];lia)
end
def f'(z:ag->ag->ah)(k m l:ag):af ah:=(pf k m).map<|z l
def kM(z:ag->ag->ah)(k q:ag):af (af ah):=(pf k q).map<|f' z k<|q+1
def xc(z:ag->ag->ah)(k m l:ag):f' z k (m+1) l=z l k::f' z (k+1) m l:=by rfl
def SI(z:ag->ag->ah)(k q:ag):kM z k (q+1)=f' z k (q+2) k::(pf (k+1) q).map (f' z k<|q+2):=by rfl
def V8(z:ag->ag->ah)(k m l:ag)(b:ah):rE b (f' z k (m+1) k) (f' z k (m+1) l)=f' (zT k z b) (k+1) m l:=by rw[xc,xc];unfold rE;show((f' z (k+1) m l).zip<|f' z (k+1) m k).map _=_;unfold f';rw[ZM,eS];rfl
def Wt(z:ag->ag->ah)(k q:ag)(b:ah):((pf (k+1) q).map<|f' z k<|q+2).map (rE b<|f' z k (q+2) k)=kM (zT k z b) (k+1) q:=by simp[eS,kM,lK,V8]
def RQ(z:ag->ag->ah)(k q:ag)(b:ah):kL (q+1) (kM z k<|q+1) b=if z k k=0 then aq else(kL q (kM (zT k z b) (k+1) q)<|z k k).map (f' z k (q+2) k:: ·):=by grind[SI,f',xc,kL,pf,rE,Wt]
def sw(hm:m+1<=20)(h:∀j,k<=j->j<k+(m+1)->aI s (z l j)):mj s (f' z k (m+1) l):=by refine(by rw[xc];simp,by unfold f';simp;nofun,λy a=>?_);obtain⟨j,b,rfl⟩:=cJ.mp a;nofun
def RO(hS:0<S)(s:xV n S A):∀(q k:ag) {R:ag->ag->ak} {d:ak} {z:ag->ag->ah} {b:ah} {m:ag},n=k+q->q<=8->sV n k S A R d z b->(∀l j,k<=l->l<n->k<=j->j<=n->aI m (z l j))->2^q*(m+1)<=10000000->mK m (kM z k q) b
 |0,k,R,d,z,b,m,_,_,_,_,_=>.a3|q+1,k,R,d,z,b,m,C,a,G,f,D=>by
  have B:=G.a1 hS ∅;have g:∀l,k<=l->l<n->mj m (f' z k (q+2) l):=λl o a=>sw (by lia) λj p c=>f l j o a p !_;have t:(f' z k (q+2) k).headD 0=z k k:=by rw[xc];rfl
  rw[SI];by_cases e:z k k=0;·exact .a0 (g k (b_ _) ∅) (_)
  ·have h:1<=2^q:=Dz;have i:2^q*(2*m+1+1)<=10000000:=();refine .a1 (G.a6 hS) ?_ (λr y=>?_) ∅ ?_;·have:=p_ (2*m+1+1) h;lia
   ·left
   ·rw[Wt,t];refine RO hS s q (k+1) (by left) (by (constructor<;>nofun)) (G.a4 hS s (by ac_rfl) e) (λl j o a p c=>?_) i;have x:=f k k (b_ _) ∅ (b_ _) ∅;have w:=f l j (by lia) a (by lia) c;have v:=f l k (by left) a (_) (by ac_rfl);have u:=f k j (_) (by ac_rfl) (by left) c;exact(((x.a1 w).a4<|v.a1 u).a0 (by left)).a3<|G.a6 hS
def Mo(below:ah):af (af ah)->af ah->Prop
 |[],[]=>eA|s::b,t::a=>0<s.headD 0/\s.headD 0*t+(vp (qw s) a).sum=s.getLastD 0*below/\Mo below b a|_,_=>eo
def Wy:∀{c:af (af ah)} {a:af ah},Mo below c a->zC c below=a
 |[],[],_=>aa|s::b,t::a,(f,d,c)=>by
  have e:zC (s::b) below=lA below (zC b below) s:=by unfold zC;rw[O1,O1];rfl
  rw[e,Wy c];unfold lA;have:s.getLastD 0*below-(vp (qw s) a).sum=s.headD 0*t:=!_;rw[this,wN _ !_]
def Sp(p:af ah)(l:af (af ah))(b:ah):gH (p::l) b=gH l (p.headD 0):=by (unfold gH;grind?)
def RK(f:ag->ah)(g:ag->ak)(k:ag):∀(q:ag),(∀j,k<=j->j<k+q->(f j:ak)=g j)->((((pf k q).map f).sum:ah):ak)=aS (k+q) λj=>if j<k then 0 else g j
 |0,_=>by show((0:ah):ak)=_;rw[mn λi c=>by rw[aG ()]];rfl|q+1,h=>by rw[List.range'_concat,eV,DE,rQ,RK f g k q λj b a=>h j b (_)];show _=aS (k+q) _+(if k+q<k then 0 else g<|k+q);rw[aE ¬_];simp only[eE,oa,qW,HV,Jl,ZC];rw[h (k+q) ∅ (_)]
def RX(n m:ag)(f:ag->ag->ak):(aS n λi=>aS m λj=>f i j)=aS m λj=>aS n λi=>f i j:=by
 induction n with|zero=>exact(mn λ_ _=>aa).symm|succ n a=>simp_all[aS,rK]
def xz(G:sV n k S A R d z b)(p:n=k+(q+1)){f:ah}(m:∀r,r<n->(aS n λl=>A r l*t l)=A r n*f):
  z k k*t k+(vp (qw<|f' z k (q+2) k)<|(pf (k+1) q).map t).sum=(f' z k (q+2) k).getLastD 0*f:=by
 have v:qw (f' z k (q+2) k)=(pf (k+1) q).map (z k):=by rw[xc];unfold qw f';simp only[List.drop_one,List.tail_cons,ij,cb,List.length_range'];rw[<-AB];nofun
 have s:(f' z k (q+2) k).getLastD 0=z k n:=by grind[f']
 rw[v,s];unfold vp;rw[ZM,eS];have e:z k k*t k+((pf (k+1) q).map<|(λq:ah×ah=>q.1*q.2)∘λa=>(z k a,t a)).sum=((pf k<|q+1).map λj=>z k j*t j).sum:=by rw[DG,eE,qW];rfl
 rw[e];apply ya.mp;rw[RK (λj=>z k j*t j) (λj=>S*(R k j*t j)) k (q+1) λj g u=>by rw[dF,G.zd k j (b_ _) ∅ g !_];grind];obtain⟨c,_,_,h⟩:=G.cm k (b_ _) ∅;rw[<-p,dF,G.zd k n (b_ _) (by ac_rfl) ∅<|b_ _];have x:(aS n λj=>if j<k then 0 else(S:ak)*(R k j*t j))=aS n λj=>aS n λr=>(S:ak)*(c r*(A r j*t j)):=eP λj g=>by
  have:=h j (Nat.le_of_lt (_));have y:(aS n λr=>(S:ak)*(c r*(A r j*t j)))=S*(t j*aS n λr=>c r*A r j):=by rw[<-fD,<-fD];exact eP λr _=>by grind
  rw[y,<-this];by_cases q:j<k;simp[*];((repeat' split)<;>grind?)
 rw[x,RX];have w:(aS n λr=>aS n λj=>(S:ak)*(c r*(A r j*t j)))=aS n λr=>(S*f:ak)*(c r*A r n):=eP λr o=>by rw[fD,fD,m r o];grind
 have i:=h n<|b_ _;rw[aE ∅]at i;rw[w,fD,<-i];grind
def RS(hS:0<S)(a:xV n S A):∀(q k:ag) {R:ag->ag->ak} {d:ak} {z:ag->ag->ah} {b:ah},n=k+q->sV n k S A R d z b->kL q (kM z k q) b=aq->∃(c:ag->ak) (k:ag),k<n/\c k≠0/\∀j,j<n->(aS n λr=>c r*A r j)=0
 |0,k,R,d,z,b,_,_,h=>by simp[kL]at h|q+1,k,R,d,z,b,i,G,h=>by
  rw[RQ]at h;by_cases e:z k k=0;·obtain⟨c,g,f⟩:=G.cm.a0 G.dd ∅<|(G.a1 hS (by ac_rfl)).1 e;exact(c,k,(by nofun),g,f)
  ·rw[aE e,Of]at h;exact RS hS a q (k+1) (by (nofun;lia)) (G.a4 hS a ∅ e) h
def RR(hS:0<S)(m:xV n S A):∀(q k:ag) {R:ag->ag->ak} {d:ak} {z:ag->ag->ah} {b:ah} {x:af (af ah)},n=k+q->sV n k S A R d z b->kL q (kM z k q) b=ai x->∃(g:ag->ag->ak) (c:ak),um n (n+1) n A g c/\0<c/\(gH x b:ak)=S*c/\∀(t:ag->ah) (a:ah),(∀r,r<n->(aS n λl=>A r l*t l)=A r n*a)->Mo a x ((pf k q).map t)
 |0,k,R,d,z,b,x,j,G,h=>by simp[kL]at h;subst h;have p:k=n:=(_);subst p;exact(R,d,G.bq,G.dp,G.bd,λ_ _ _=>dU)|q+1,k,R,d,z,b,x,j,G,h=>by
  rw[RQ]at h;by_cases e:z k k=0;·nofun
  ·rw[aE e]at h;obtain⟨l,o,rfl⟩:=p'.mp h;have f:(f' z k (q+2) k).headD 0=z k k:=by rw[xc];rfl
   obtain⟨g,c,w,v,u,s⟩:=RR hS m q (k+1) (by lia) (G.a4 hS m (by (repeat' split)<;>nofun) e) o;refine(g,c,w,v,by rw[Sp,f];exact u,λt a i=>?_);rw[DG];refine(by rw[f];exact((G.a1 hS ()).2 e).2,?_,s t a i);rw[f];exact xz G j i
structure zG(n:ag)(S:ah)(A:ag->ag->ak)(z:ag->ag->ah):Prop where
 a0:0<S
 a1:xV n S A
 dd:sW n 0 A
 zd:∀l j,l<n->j<=n->(z l j:ak)=S*A l j
def zG.a2(h:zG n S A z):sV n 0 S A A 1 z S:=(um.a4 _ _ _,h.dd,zW.a2 _ _,⋯,(),λl j _ a _ b=>h.zd l j a b)
def zG.a5(h:zG n S A z)(b:n<=8)(a:∀l j,l<n->j<=n->aI m (z l j))(c:2^n*(m+1)<=10000000):mK m (kM z 0 n) S:=RO h.a0 h.a1 n 0 ∅ b h.a2 (λl j _ d _ e=>a l j d e) c
def y'(z:ag->ag->ah)(k q:ag):(kM z k q).length=q:=by simp[kM]
def zG.a4{n:ag}{S:ah}{A:ag->ag->ak}{z:ag->ag->ah}(h:zG n S A z)(e:pE (kM z 0 n) S=aq):∃(c:ag->ak) (k:ag),k<n/\c k≠0/\∀j,j<n->(aS n λr=>c r*A r j)=0:=by unfold pE at e;rw[Of,y']at e;exact RS h.a0 h.a1 n 0 ∅ h.a2 e
structure Mz(n:ag)(S:ah)(A:ag->ag->ak)(r:bF)(t:ag->ah):Prop where
 b:0<r.b
 a:r.a=(bP n).map t
 e:∀i,i<n->(aS n λl=>A i l*t l)=A i n*r.b
 f:∀v:ag->ak,(∀i,i<n->(aS n λl=>A i l*v l)=0)->∀l,l<n->v l=0
 d:(r.b:ak)=S*br n (dW A n)
 c:∀l,l<n->(t l:ak)=S*br n (bR (dW A n) l λi=>A i n)
def zG.a3{n:ag}{S:ah}{A:ag->ag->ak}{z:ag->ag->ah}(h:zG n S A z){r:bF}(e:pE (kM z 0 n) S=ai r):∃t,Mz n S A r t:=by
 unfold pE at e;rw[y']at e;obtain⟨w,p,rfl⟩:=p'.mp e;obtain⟨R,d,B,s,f,a⟩:=RR h.a0 h.a1 n 0 (by ac_rfl) h.a2 p;have u:∀l,∃y:ah,l<n->(y:ak)=S*R l n:=λl=>by by_cases q:l<n;obtain⟨y,g⟩:=h.a1 n l n (b_ _) q<|b_ _;rw[B.a0 q (_)]at g;exact(y,λ_=>g.symm);simp[*]
 obtain⟨t,k⟩:=Classical.axiomOfChoice u;have b:∀i,i<n->(aS n λl=>A i l*t l)=A i n*(gH w S:ah):=λi m=>by rw[f,<-B.a5 (j:=n) (_) m];have:(aS n λl=>A i l*(R l n/d))*(S*d)=(S*d)*aS n λl=>A i l*(R l n/d):=();rw[this,<-fD];refine eP λl c=>?_;rw[k l c];have m:d*d⁻¹ =1:=X' _ ();rw[rR];grind
 refine(t,?_,?_,b,λv o=>B.a6 o,by rw[B.dv];exact f,λl c=>by rw[B.a0 c (_)];exact k l c);rw[<-kU];show(0:ak)<(gH w S:ah);rw[f];exact uw (kU.mpr h.a0) s;show zC w (gH w S)=_;rw[Wy<|a t _ b,HX]
def gE(rows:af (af ah))(a b:ag):ah:=(rows.getD a []).getD b 0
def vB{l:af α}(b:i<l.length)(x d:α)(a:ag):(l.set i x).getD a d=if a=i then x else l.getD a d:=()
def xB(h:gI n m rows)(c:i<n)(f:j<m)(g:ah->ah)(a b:ag):gE (nB rows i j g) a b=if a=i/\b=j then g (gE rows i j)else gE rows a b:=by
 have e:i<rows.length:=by rw[h.a1];exact c
 have d:(rows.getD i []).length=m:=h.a2 _ ∅
 by_cases u:a=i;subst u;by_cases v:b=j;subst v;rw[aG (aa,aa)];simp_all[gE,nB];rw[aE λh=>v h.2];simp[gE,nB,e,dZ v];rw[aE λh=>u h.1];simp[gE,nB,dZ u]
def dD(e:bB)(v:ag):ah:=(if e.b=v then 1 else 0)-(if e.a=v then 1 else 0)
def Cj(N:ag)(h:ah)(e:bB)(j:ag):ah:=if j<N then dD e j else-h
def j0(h:gI n m rows)(c:i<n)(f:j<m)(q:∀x,g x=x+z)(a b:ag):gE (nB rows i j g) a b=gE rows a b+(if i=a then 1 else 0)*(if j=b then 1 else 0)*z:=by
 rw[xB h c f];by_cases u:i=a
 ·subst u;by_cases v:j=b
  ·subst v;simp[q]
  ·simp[v,dZ v]
 ·simp[u,dZ u]
def O8(h:gI N (N+1) rows)(c:gT N e)(w y:ah)(n:b<=N):gE (xF N rows e w<|w*y) a b=gE rows a b+w*(dD e a*Cj N y e b):=by
 have d:=c.b;have f:=c.a;have l:=h.a0 (j:=e.b) d (· +w);have k:=l.a0 (j:=e.a) d (· - w);have i:=k.a0 (j:=N) d (· - w*y);have g:=i.a0 (j:=e.a) f (· +w);have m:=g.a0 (j:=e.b) f (· - w)
 have o:Cj N y e b=(if e.b=b then 1 else 0)-(if e.a=b then 1 else 0)-(if N=b then 1 else 0)*y:=by
  unfold Cj dD;by_cases H:N=b
  ·subst H;rw[aE (tq _),aE (kY d),aE (kY f)];simp
  ·simp[H];lia
 unfold xF;rw[j0 m f (!_) (z:=w*y) λ_=>aa,j0 g f (!_) (g:=(· - w)) λ_=>Int.sub_eq_add_neg,j0 i f (!_) (z:=w) λ_=>aa,j0 k d (!_) (g:=(· - w*y)) λ_=>Int.sub_eq_add_neg,j0 l d (!_) (g:=(· - w)) λ_=>Int.sub_eq_add_neg,j0 h d (!_) (z:=w) λ_=>aa,o];unfold dD
 generalize(if e.a=a then(1:ah)else 0)=p;generalize(if e.b=a then(1:ah)else 0)=q;generalize(if e.a=b then(1:ah)else 0)=r;generalize(if e.b=b then(1:ah)else 0)=s;generalize(if N=b then(1:ah)else 0)=t;grind
def G5(h:gI N (N+1) rows)(a:gT N e)(w p:ah):gI N (N+1) (xF N rows e w p):=(((((h.a0 a.b _).a0 a.b _).a0 a.b _).a0 a.a _).a0 a.a _).a0 a.a _
def VX(N M a b:ag):gE (cg N<|cg M (0:ah)) a b=0:=by grind?[gE]
def J5(hb:b<=n.b.length):∀(l:af (ag×bB)),(∀q∈l,gT n.b.length q.2)->gE (t_ n ws hs l) a b=(l.map λq=>ws.getD q.1 0*(dD q.2 a*Cj n.b.length (hs.getD q.1 0) q.2 b)).sum:=by
 have d:∀(l:af (ag×bB)) (c:af (af ah)),(∀q∈l,gT n.b.length q.2)->gI n.b.length (n.b.length+1) c->gE (l.foldl (λc q=>xF n.b.length c q.2 (ws.getD q.1 0)<|ws.getD q.1 0*hs.getD q.1 0) c) a b=gE c a b+(l.map λq=>ws.getD q.1 0*(dD q.2 a*Cj n.b.length (hs.getD q.1 0) q.2 b)).sum:=by
  intro l;induction l with|nil=>intro c _ _;simp|cons q l g=>intro c h i;rw[fO,g _ (λx m=>h x (cO _ m)) (G5 i (h q gY) _ _),O8 i (h q gY) _ _ hb,eE,qW,Int.add_assoc]
 intro l f;unfold t_;rw[d l _ f ((),λr e=>by rw[(Ov.mp e).2];simp),VX];lia
def wX(f:α->ah):∀l:af α,(((l.map f).sum:ah):ak)=a_ l λa=>(f a:ak)
 |[]=>aa|a::l=>by rw[eE,qW,rQ,wX f l];rfl
def fL(e:bB):ak:=((en e).1:ak)/((en e).2:ak)
def Uj:∀(l:af (ah×ah)) (b:ah),b∣l.foldl (λb q=>b*q.2) b/\∀q∈l,q.2∣l.foldl (λb q=>b*q.2) b
 |[],b=>(Jk _,())|q::l,b=>by obtain⟨c,d⟩:=Uj l<|b*q.2;refine(yM (Int.dvd_mul_right _ _) c,λp a=>?_);rcases fq.mp a with rfl|a;exact yM (T0 _ _) c;symm
def SK(hp:∀q∈l,0<q.2)(h:l[i]?=ai q):(((rm l).a.getD i 0:ah):ak)=(rm l).b*((q.1:Rat)/(q.2:Rat)):=by
 have f:=eC h;have a:=hp q f;have e:(rm l).a.getD i 0=q.1*((rm l).b/q.2):=by simp[*,rm]
 obtain⟨k,c⟩:=(Uj l 1).2 q f;have d:(rm l).b=q.2*k:=c;have b:(q.2:ak)≠0:=λz=>by have:=sZ.mp z;nofun
 rw[e,d,wN _ (_),dF,dF];grind
def jN{l:af α}{q:ag×α}(h:q∈bj 0 l):l[q.1]?=ai q.2:=by obtain⟨j,a,e⟩:=iC h;have:=lu (n:=0) (l:=l) (i:=j) (p:=q) (by rw[<-e];exact cK a);nofun
def adY(h:bw n)(b:q∈bj 0 n.a):(((gk n).a.getD q.1 0:ah):ak)=(gk n).b*fL q.2:=SK (λp a=>(za h).a0 p a) (by rw[cV,jN b];rfl)
def zm(h:bw n)(d:e∈n.a):0<=fL e/\0<(en e).2:=by
 have b:=h.a e d;have c:=(oJ (a:=e.g.1*e.o.1)<|fQ b.d b.m).2.2;refine(xS ?_<|kU.mpr c,c);have:0<=(en e).1:=by show 0<=(bh<|aQ _ _).1;rw[xp<|fQ b.d b.m];exact Bb (Z0 (by have:=b.f;lia) b.q) (_)
 have z:((0:ah):ak)=0:=aa;rw[<-z];exact Ab.mpr this
def Gb:∀(n:ag) (l:af α),(bj n l).map (·.1)=pf n l.length
 |_,[]=>aa|n,a::l=>by show n::(bj (n+1) l).map (·.1)=_;rw[Gb (n+1) l];rfl
def le(n:aR):(cz n).Nodup:=by have h:(cz n).Sublist ((bj 0<|iV n).map (·.1)):=OE.map _;grind[Gb]
def KS:v∈cz n↔v<n.b.length/\(iV n).getD v 0≠v:=by
 constructor;intro h;refine(vC h,?_);obtain⟨q,d,rfl⟩:=cJ.mp h;grind[jN];rintro ⟨c,b⟩;have a:v<(iV n).length:=by simp[*,iV,vx]
 refine cJ.mpr ((v,(iV n)[v]),tr.mpr (?_,?_),aa);have:v<(bj 0<|iV n).length:=by rw[nI];exact a
 have g:=lu (n:=0) (l:=iV n) (i:=v)<|cK this;grind;grind
def dN(n:aR)(r:ag):ag:=(cz n).getD r 0
def BO(h:r<(cz n).length):dN n r∈cz n:=jo h
def FA(hr:r<(cz n).length)(a:s<(cz n).length)(h:dN n r=dN n s):r=s:=by unfold dN at h;(nofun;grind?[cz,OA,le])
def Ll(n:aR):cz n=(bP (cz n).length).map (dN n):=by refine uL () λi b a=>?_;rw[Ia,Oz];unfold dN;nofun
def vd(n:aR)(a:bF)(q:ag×bB):kB:=((en q.2).1,(en q.2).2,λj=>if j<(cz n).length then dD q.2 (dN n j)else-(a.a.getD q.1 0),λr=>dD q.2<|dN n r)
def ku(n:aR)(a:bF):af kB:=(bj 0 n.a).map<|vd n a
def ir(n:aR)(a:bF):ag->ag->ak:=λr j=>((0:ah):ak)+a_ (ku n a) λe=>e.w*((e.v j:ak)*(e.u r:ak))
def yP(n:aR)(a:bF):ag->ag->ah:=λr j=>gE (lh n a) (dN n r) (if j<(cz n).length then dN n j else n.b.length)
def eJ{n:aR}(h:q∈bj 0 n.a):q.2∈n.a:=eC<|jN h
def Ku:∀(l:af ah) (b:ah),l.foldl (· * ·) b=b*l.foldr (· * ·) 1
 |[],b=>by simp|a::l,b=>by rw[fO,Ku l];show _=b*(a*_);rw[Int.mul_assoc]
def LF(f:α->β):∀(n:ag) (l:af α),(bj n l).map (λq=>f q.2)=l.map f
 |_,[]=>aa|n,a::l=>by show f a::(bj (n+1) l).map (λq=>f q.2)=_;rw[LF f (n+1) l];rfl
def Fe(n:aR)(a:bF):gx (ku n a)=(gk n).b:=by
 have e:(gk n).b=((n.a.map en).map (·.2)).foldl (· * ·) 1:=by rw[Ig];rfl
 have b:(ku n a).map (·.d)=(n.a.map en).map (·.2):=by unfold ku;rw[eS,eS];exact LF (λe=>(en e).2) 0 n.a
 (simp[*,gx,Ku,QK])
def Kx(h:bw n)(a:bF):xU (cz n).length (ku n a) (λ_ _=>0) (ir n a):=by refine(λr j _ _=>aa,λe b=>?_);obtain⟨q,c,rfl⟩:=cJ.mp b;have:=(zm h<|eJ c).2;show(en q.2).2≠0;lia
def zE(n:aR)(a:bF)(r j:ag):ir n a r j=a_ (bj 0 n.a) λq=>fL q.2*(((if j<(cz n).length then dD q.2 (dN n j)else-(a.a.getD q.1 0):ah):ak)*(dD q.2 (dN n r):ak)):=by
 unfold ir ku;rw[pR];have:((0:ah):ak)=0:=aa;rw[this];have e:∀x:ak,0+x=x:=λx=>by grind
 rw[e];rfl
def Ri(h:bw n)(a:bF)(c:r<(cz n).length)(b:j<=(cz n).length):yP n a r j=((bj 0 n.a).map λq=>(gk n).a.getD q.1 0*(dD q.2 (dN n r)*(if j<(cz n).length then dD q.2 (dN n j)else-(a.a.getD q.1 0)))).sum:=by unfold yP lh;have d:∀j,j<(cz n).length->dN n j<n.b.length:=λj b=>vC<|BO b;rw[J5 () _ λq a=>h.a _<|eJ a];(split<;>simp_all[lK,Cj])
def adt(h:bw n)(a:bF)(b:r<(cz n).length)(c:j<=(cz n).length):(yP n a r j:ak)=(gk n).b*ir n a r j:=by rw[Ri h a b c,wX,zE,<-lC];refine fF λq d=>?_;rw[dF,dF,adY h d];grind
def Ga(h:bw n)(a:bF):rA n a=kM (yP n a) 0 (cz n).length:=by
 unfold rA kM;rw[<-HX];have e:(cz n).map (λj=>zy (cz n)<|(lh n a).getD j [])=((bP (cz n).length).map<|dN n).map λj=>zy (cz n)<|(lh n a).getD j []:=by rw[<-Ll]
 rw[e,eS];refine lK λr b=>?_;have b:=jz.mp b;have d:=SJ h a;have f:((lh n a).getD (dN n r) []).length=n.b.length+1:=d.a2 _<|jo (by rw[d.a1];exact vC<|BO b);show zy (cz n) ((lh n a).getD (dN n r) [])=f' _ _ _ _;unfold zy f';rw[<-HX,uG,eV];congr 1;have g:(cz n).map (λx=>((lh n a).getD (dN n r) []).getD x 0)=((bP (cz n).length).map<|dN n).map λx=>((lh n a).getD (dN n r) []).getD x 0:=by rw[<-Ll]
 rw[g,eS];refine lK λj c=>?_;have c:=jz.mp c;show _=gE _ _ _;rw[aG c];rfl;show [_]=[gE _ _ _];grind[gE]
def lk(he:gT N e)(v:ag):(v=e.b/\dD e v=1)\/(v=e.a/\dD e v= -1)\/(v≠e.b/\v≠e.a/\dD e v=0):=by have:=he.c;grind -lia -order[dD]
def B0{f:ag->ag}{a:da}(d:f m≠x)(s:a=ao↔∃i,i<m/\f i=x):a=ao↔∃i,i<m+1/\f i=x:=s.trans ⟨λ⟨i,p,q⟩=>(i,Nat.lt_succ_of_lt p,q),λ⟨i,p,q⟩=>(i,Nat.lt_of_le_of_ne (Nat.le_of_lt_succ p) (λe=>d (e▸q)),q)⟩
def UQ(he:gT N e)(f:ag->ag):∀(m:ag),(∀i j,i<m->j<m->f i=f j->i=j)-> (∃a b:da,(aS m λi=>(dD e (f i):ak))=(if a then 1 else 0)-(if b then 1 else 0)/\(a=ao↔∃i,i<m/\f i=e.b)/\(b=ao↔∃i,i<m/\f i=e.a))
 |0,_=>(aw,aw,by show(0:ak)=0- 0;grind,(),())|m+1,h=>by obtain⟨a,b,g,s,r⟩:=UQ he f m λi j q p=>h i j (_) (_);have n:=he.c;have k:(aS (m+1) λi=>(dD e (f i):ak))=(aS m λi=>(dD e (f i):ak))+(dD e (f m):ak):=aa;rcases lk he (f m)with⟨d,c⟩|⟨d,c⟩|⟨d,c,l⟩;have t:a=aw:=();refine(ao,b,?_,(λ_=>(m,(_),d),λ_=>aa),?_);rw[k,g,c,t];have:((1:ah):ak)=1:=aa;rw[this];simp;grind;exact B0 (by lia) r;have o:b=aw:=();refine(a,ao,?_,?_,(λ_=>(m,(_),d),λ_=>aa));rw[k,g,c,o];have:((-1:ah):ak)= -1:=aa;rw[this];simp;grind;exact B0 (by lia) s;refine(a,b,?_,?_,?_);rw[k,g,l];have:((0:ah):ak)=0:=aa;rw[this];grind;exact B0 (by lia) s;exact B0 (by lia) r
def m8(h:bw n)(k:bF):sW (cz n).length 0 (ir n k):=by
 refine(λl j _ m _ o p=>?_,λl _ m=>?_);rw[zE];have:=vV (l:=bj 0 n.a) (f:=λq=> -1*(fL q.2*(((if j<(cz n).length then dD q.2 (dN n j)else-(k.a.getD q.1 0):ah):ak)*(dD q.2 (dN n l):ak)))) λq F=>by have g:=h.a _<|eJ F;have E:=(zm h<|eJ F).1;have D:dN n l≠dN n j:=λe=>p<|FA m o e;have y:=g.c;rw[aG o];have t:((1:ah):ak)=1:=aa;have s:((-1:ah):ak)= -1:=aa;have w:((0:ah):ak)=0:=aa;rcases lk g (dN n j)with⟨x,v⟩|⟨x,v⟩|⟨x,C,v⟩<;>rcases lk g (dN n l)with⟨d,c⟩|⟨d,c⟩|⟨d,u,c⟩<;>rw[v,c]<;>simp only[t,s,w]<;>first|grind|(exfalso;omega)
 rw[lC]at this;left;have e:(aS ((cz n).length- 0) λi=>ir n k l<|0+i)=a_ (bj 0 n.a) λq=>fL q.2*((dD q.2 (dN n l):ak)*aS (cz n).length λi=>(dD q.2 (dN n i):ak)):=by
  rw[uD];have:(aS (cz n).length λi=>ir n k l<|0+i)=aS (cz n).length λi=>a_ (bj 0 n.a) λq=>fL q.2*((dD q.2 (dN n l):ak)*(dD q.2 (dN n i):ak)):=eP λi r=>by rw[HQ,zE];refine fF λq _=>?_;rw[aG r];grind
  (simp only[*,ue,fF,fD])
 rw[e];refine vV λq F=>mU (zm h<|eJ F).1 ?_;have g:=h.a _<|eJ F;obtain⟨a,b,B,A,z⟩:=UQ g (dN n) (cz n).length λi j r o=>FA r o;rw[B];have t:((1:ah):ak)=1:=aa;have s:((-1:ah):ak)= -1:=aa;have w:((0:ah):ak)=0:=aa;rcases lk g (dN n l)with⟨d,c⟩|⟨d,c⟩|⟨d,u,c⟩;rw[c,t,A.mpr (l,m,d)];(simp at*;((repeat' split)<;>grind?));rw[c,s,z.mpr (l,m,d)];(split<;>grind?);nofun
def JH(h:bw n)(a:bF):zG (cz n).length (gk n).b (ir n a) (yP n a):=((EE h).1,by rw[<-Fe n a];exact GQ<|Kx h a,m8 h a,λl j b c=>adt h a b c)
def bU(e:bB):dM:=(e.c,e.b,e.a,aQ e.g.1 e.g.2,aQ e.h.1 e.h.2,aQ e.o.1 e.o.2,aQ e.l.1 e.l.2,cG e.k)
def aW(n:aR):fY:=(n.b.map (·.map A_),n.a.map bU)
def ly(n:aR):cD (aW n)=n.b.length:=by simp[cD,aW]
def zb{a b:ah}(d:0<a)(c:0<b):(0:ak)<(a:ak)/(b:ak):=by simp[*,rR,uw,kU,Hl]
def FC{a:ah}(h:0<=a):(0:ak)<=(a:ak):=by have:((0:ah):ak)=0:=aa;rw[<-this];exact Ab.mpr h
def M8(h:gT N e):nR N (bU e):=(h.b,h.a,h.c,fE _ _,fE _ _,fE _ _,fE _ _,pQ _,by show 0<aN (aQ _ _);rw[fV];exact zb h.f h.d,by show 0<=aN (aQ _ _);rw[fV];exact xS (FC h.q)<|kU.mpr h.m)
def B_(h:bw n):∀e∈(aW n).edges,nR (cD<|aW n) e:=λe b=>by obtain⟨c,a,rfl⟩:=cJ.mp b;rw[ly];exact M8<|h.a c a
def vo(x:dq):((bh x).1:ak)/((bh x).2:ak)=aN x:=(rJ x).symm
def eZ{b:ah}(h:0<b):(b:ak)≠0:=λz=>by have:=sZ.mp z;nofun
def rF(h:gT N e):kW (bU e)=fL e:=by show aN (aQ _ _)*aN (aQ _ _)=((bh<|Fy e).1:ak)/((bh<|Fy e).2:ak);rw[vo];show _=aN (aQ _ _);rw[fV,fV,fV,dF,dF];(simp only[rR,Rat.inv_mul_rev];grind?)
def UJ(h:gT N e):fL e=((e.g.1:ak)/(e.g.2:ak))*((e.o.1:ak)/(e.o.2:ak)):=by rw[<-rF h];show aN (aQ _ _)*aN (aQ _ _)=_;simp[fV]
def TF(h:gT N e):kC (bU e)= !aT (e.o.1=0):=by
 have:=MW<|bU e;rw[rF h,UJ h]at this;have b:=zb h.f h.d;by_cases z:e.o.1=0;rw[z]at this ⊢;left;have a:0<e.o.1:=by have:=h.q;lia
 rw[this.mpr<|uw b<|zb a h.m];nofun
def BT(h:gT N e)(l:af ag):iy l (bU e)=if(!aT (e.o.1=0))=ao then kq l e else l:=by unfold iy;rw[TF h];rfl
def KY(h:bw n):iV n=gp (aW n):=by
 have c:∀(a:af bB) (l:af ag),(∀e∈a,gT n.b.length e)->(a.filter λe=> !aT (e.o.1=0)).foldl kq l=(a.map bU).foldl iy l:=by
  intro a;induction a with|nil=>intro l _;rfl|cons e a b=>intro l f;rw[eE,fO,BT<|f e (_),wz];(split<;>nofun)
 have d:∀k,kP n k=fw (aW n) k (bP n.b.length):=by
  intro k;induction k with|zero=>rfl|succ k b=>rw[ui,qK,<-b];exact c _ _ h.a
 unfold iV gp;rw[d,ly]
def rq(n:aR)(x:ag->ak)(v:ag):ak:=a_ (bj 0 n.a) λq=>fL q.2*((dD q.2 v:ak)*(x q.2.b- x q.2.a))
def sm(n:aR)(a:ag->ak)(v:ag):ak:=a_ (bj 0 n.a) λq=>fL q.2*((dD q.2 v:ak)*(-(a q.1)))
def xw(f:α->ak):∀(n:ag) (l:af α),a_ (bj n l) (λq=>f q.2)=a_ l f
 |_,[]=>aa|n,a::l=>by show f a+a_ (bj (n+1) l) _=f a+a_ l f;rw[xw f (n+1) l]
def K_(h:bw n)(x:ag->ak)(v:ag):rq n x v=kT (aW n).edges x v:=by
 unfold rq kT;rw[xw (λe=>fL e*((dD e v:ak)*(x e.b- x e.a))) 0 n.a];show _=a_ (n.a.map bU) _;rw[pR];refine fF λe g=>?_;have d:=h.a e g;unfold oU;rw[rF d];show _=if e.b=v then _ else if e.a=v then _ else _
 have k:((1:ah):ak)=1:=aa;have j:((-1:ah):ak)= -1:=aa;have i:((0:ah):ak)=0:=aa;have c:=d.c;rcases lk d v with⟨b,a⟩|⟨b,a⟩|⟨b,f,a⟩;subst b;rw[aG aa,a,k];show _=fL e*(x e.b- x e.a);nofun;subst b;rw[aE c,aG aa,a,j];show _=fL e*(x e.a- x e.b);grind;rw[aE<|λq=>b q.symm,aE<|λq=>f q.symm,a,i];nofun
def PG(h:bw n)(g:ag->ak)(i:∀q∈bj 0 n.a,g q.1=aN (aQ q.2.h.1 q.2.h.2))(v:ag):sm n g v=qJ (aW n).edges iY v:=by
 unfold sm qJ;rw[fF λq o=>by rw[i q o]];rw[xw (λe=>fL e*((dD e v:ak)*(-(aN<|aQ e.h.1 e.h.2)))) 0 n.a];show _=a_ (n.a.map bU) _;rw[pR];refine fF λe j=>?_;have d:=h.a e j;unfold uf iY;rw[rF d];show _=if e.b=v then-(fL e*aN (aQ e.h.1 e.h.2))else if e.a=v then fL e*aN (aQ e.h.1 e.h.2)else _
 have m:((1:ah):ak)=1:=aa;have l:((-1:ah):ak)= -1:=aa;have k:((0:ah):ak)=0:=aa;have c:=d.c;rcases lk d v with⟨b,a⟩|⟨b,a⟩|⟨b,f,a⟩;subst b;rw[aG aa,a,m];left;subst b;rw[aE c,aG aa,a,l];grind;rw[aE<|λq=>b q.symm,aE<|λq=>f q.symm,a,k];nofun
def pL(n:aR)(c:ag->ak)(v:ag):ak:=aS (cz n).length λr=>if dN n r=v then c r else 0
def C7(c:ag->ak)(b:r<(cz n).length):pL n c (dN n r)=c r:=by unfold pL;rw[kA b λi d a=>aE λq=>a<|FA d b q,aG aa]
def Lx(c:ag->ak)(h:v∉cz n):pL n c v=0:=mn λr a=>aE λq=>h (by rw[<-q];exact BO a)
def VQ(c:ag->ak)(f:gT N e):pL n c e.b- pL n c e.a=aS (cz n).length λr=>c r*(dD e (dN n r):ak):=by unfold pL;rw[<-vN];refine eP λr _=>?_;have g:=f.c;have j:((1:ah):ak)=1:=aa;have i:((-1:ah):ak)= -1:=aa;have h:((0:ah):ak)=0:=aa;rcases lk f (dN n r)with⟨b,a⟩|⟨b,a⟩|⟨b,d,a⟩;rw[aG b,aE ∅,a,j];grind;rw[aE !_,aG b,a,i];grind;rw[aE b,aE d,a,h];grind
def UH(h:bw n)(a:bF)(c:ag->ak)(e:j<(cz n).length):rq n (pL n c) (dN n j)=aS (cz n).length λr=>ir n a j r*c r:=by
 unfold rq;have b:(a_ (bj 0 n.a) λq=>fL q.2*((dD q.2 (dN n j):ak)*(pL n c q.2.b- pL n c q.2.a)))=a_ (bj 0 n.a) λq=>aS (cz n).length λr=>fL q.2*((dD q.2 (dN n j):ak)*(c r*(dD q.2 (dN n r):ak))):=fF λq e=>by rw[VQ c<|h.a _<|eJ e,<-fD,<-fD]
 rw[b,<-ue];refine eP λr d=>?_;rw[zE,Rat.mul_comm,<-lC];exact fF λq _=>by rw[aG d];grind
def M6(hs:bF)(a:r<(cz n).length)(b:j<(cz n).length):ir n hs r j=ir n hs j r:=by (simp_all[zE];grind?)
def ge(h:bw n):v∈cz n↔v<n.b.length/\cF (gp<|aW n) v≠v:=by rw[KS,KY h];rfl
def VR(h:v∈cz n):∃r,r<(cz n).length/\dN n r=v:=by obtain⟨r,a,e⟩:=iC h;exact(r,a,by unfold dN;nofun)
def RV(h:bw n)(a:bF):pE (rA n a) (gk n).b=ai (lX n a):=by
 unfold lX;cases e:pE (rA n a) (gk n).b with|some r=>rfl|none=>
  rw[Ga h]at e;obtain⟨c,k,i,m,l⟩:=(JH h a).a4 e;have z:=MR (B_ h) (x:=pL n c) (λv f q=>Lx c λb=>((ge h).mp b).2 q) (λv f=>by
   by_cases b:v∈cz n;right;obtain⟨j,d,rfl⟩:=VR b;rw[<-K_ h,UH h a c d,<-l j d];exact eP λr g=>by rw[M6 a d g];grind
   exact .inl<|Lx c b) (dN n k) (by rw[ly];exact vC<|BO i)
  simp_all[C7]
def Bk(h:bw n)(a:bF):∃t,Mz (cz n).length (gk n).b (ir n a) (lX n a) t:=by have e:=RV h a;rw[Ga h]at e;exact(JH h a).a3 e
def TE(f:ag->ag):∀(m:ag),(∀i j,i<m->j<m->f i=f j->i=j)->(∀i,i<m->f i<N)->∀v,(tK N ((bP m).map f)<|(bP m).map t).getD v 0=((bP m).map λi=>if f i=v then t i else 0).sum:=by
 intro m;unfold tK;induction m with|zero=>intro _ _ v;show(cg N (0:ah)).getD v 0=0;grind?|succ m c=>
  intro g k v;have c:=c (λi j a b=>g i j (_) (_))<|λi a=>k i (_);rw[uG,eV,eV,List.zip_append (),rV];show(ZO (uJ (λ(t:af ah) (q:ag×ah)=>t.set q.1 q.2) (cg N 0)<|((bP m).map f).zip<|(bP m).map t) (f m)<|t m).getD v 0=_;have h:f m<(((bP m).map f).zip ((bP m).map t)|>.foldl (λt q=>t.set q.1 q.2) (cg N 0)).length:=by have:=zf N ((bP m).map f)<|(bP m).map t;simp_all[tK]
  rw[vB h,c v,eV,DE];simp only[eE,oa,qW,HV,Jl];by_cases q:v=f m;subst q;rw[aG aa,aG aa];have z:((bP m).map λi=>if f i=f m then t i else 0).sum=0:=by
   have:(bP m).map (λi=>if f i=f m then t i else 0)=(bP m).map λ_=>(0:ah):=lK λi d=>aE λe=>by have:=jz.mp d;have:=g i m (_) (_) e;nofun
   rw[this];generalize bP m=l;induction l with|nil=>rfl|cons a l c=>rw[eE,qW,c];rfl
  nofun;lia
def RJ(f:ag->ah):∀m:ag,((((bP m).map f).sum:ah):ak)=aS m λi=>(f i:ak)
 |0=>aa|m+1=>by rw[uG,eV,DE,rQ,RJ f m];simp only[eE,oa,qW,HV,Jl];rfl
def Ff(F:Mz (cz n).length S (ir n hs) (lX n hs) t)(v:ag):(((dJ n hs).a.getD v 0:ah):ak)=pL n (λr=>(t r:ak)) v:=by show((tK n.b.length (cz n) (lX n hs).a).getD v 0:ak)=_;rw[F.a];have e:=TE (N:=n.b.length) (t:=t) (dN n) (cz n).length (λi j a b=>FA a b) (λi a=>vC<|BO a) v;rw[<-Ll]at e;rw[e,RJ];unfold pL;exact eP λr _=>by split<;>rfl
def Bz(h:bw n)(a:bF):0<(dJ n a).b/\∀v,v<n.b.length->if(iV n).getD v 0=v then(dJ n a).a.getD v 0=0 else rq n (λv=>(((dJ n a).a.getD v 0:ah):ak)) v=sm n (λi=>((a.a.getD i 0:ah):ak)) v*(dJ n a).b:=by obtain⟨t,F⟩:=Bk h a;refine(F.b,λv c=>?_);by_cases q:(iV n).getD v 0=v;rw[aG q];apply ya.mp;grind[Ff,Lx,KS];rw[aE q];obtain⟨j,b,rfl⟩:=VR<|KS.mpr (c,q);have e:(λv=>(((dJ n a).a.getD v 0:ah):ak))=pL n λr=>(t r:ak):=GH λv=>Ff F v;rw[e,UH h a _ b,F.e j b];congr 1;rw[zE];unfold sm;left
def Tg(e:kB):∀(a b:af kB),gx (a++e::b)=e.d*gx (a++b)
 |[],b=>aa|x::a,b=>by show x.d*gx (a++e::b)=e.d*(x.d*gx (a++b));rw[Tg e a b];grind
def LB(f:α->ak)(e:α):∀(a b:af α),a_ (a++e::b) f=a_ (a++b) f+f e
 |[],b=>by show f e+a_ b f=a_ b f+f e;grind|x::a,b=>by show f x+a_ (a++e::b) f=f x+a_ (a++b) f+f e;rw[LB f e a b];grind
def SA(h:zS k c=ai j):j<k:=by grind[zS]
def Zy(hk:k<=m)(h:vO k l m c=ai j):j<=m:=by grind[vO]
def TD(P:xU n a M A):iz ((gx a:ak)*br n (dW A n)):=by rw[He];obtain⟨W,d⟩:=CT a (λfs=>br n<|mR (zS n)<|sP M fs) λfs _=>CQ λc r _ _=>CH _ _ _ _ _;obtain⟨z,b,_⟩:=CI P (λc i e h=>uF<|SA h) d;exact(z,b)
def Uf(h:bw n)(g:bF)(u:q∈bj 0 n.a):∃f:ah,(en q.2).1*tJ (dJ n g) q.2 (g.a.getD q.1 0)=(en q.2).2*f:=by
 obtain⟨t,F⟩:=Bk h g;have P:=h.a _<|eJ u;obtain⟨d,l,Y⟩:=J1 u;let b:=(d++l).map<|vd n g;let a:ag->ag->ak:=λr j=>((0:ah):ak)+a_ b λe=>e.w*((e.v j:ak)*(e.u r:ak));let m:=(cz n).length;let e:=vd n g q;have E:xU m b (λ_ _=>0) a:=(λ_ _ _ _=>aa,λx K=>by obtain⟨y,C,rfl⟩:=cJ.mp K;have p:y∈bj 0 n.a:=();have:=(zm h<|eJ p).2;show(en y.2).2≠0;lia);have A:ku n g=d.map (vd n g)++e::l.map (vd n g):=by grind[ku]
 have o:b=d.map (vd n g)++l.map (vd n g):=eV;have B:∀r j,ir n g r j=a r j+e.w*((e.v j:ak)*(e.u r:ak)):=λr j=>by show _+a_ (ku n g) _=(_+a_ b _)+_;rw[A,o,LB];left
 have O:(gk n).b=e.d*gx b:=by grind[Fe,Tg]
 have M:∀c,c<m->e.v c=dD q.2 (dN n c):=λc k=>aG k;have L:e.v m= -(g.a.getD q.1 0):=aE !_;have D:=XF (n:=m) (λc r=>a r c) (λr=>a r m) (λr=>(e.u r:ak)) (λc=>(e.v c:ak)) e.w (e.v m:ak);have W:br m (λc i=>a i c+e.w*((e.v c:ak)*(e.u i:ak)))=br m (dW (ir n g) m):=jw λc r k _=>by unfold dW;rw[aG k,B]
 have V:∀c,c<m->br m (bR (λc i=>a i c+e.w*((e.v c:ak)*(e.u i:ak))) c λi=>a i m+e.w*((e.v m:ak)*(e.u i:ak)))=br m (bR (dW (ir n g) m) c λi=>ir n g i m):=λc _=>jw λi r s _=>by by_cases z:i=c;subst z;rw[fW,fW,B];rw[fX _ z,fX _ z];unfold dW;rw[aG s,B]
 have U:br m (λc r=>a r c)=br m (dW a m):=jw λc r k _=>by unfold dW;rw[aG k]
 have T:∀c,c<m->br m (bR (λc r=>a r c) c λr=>a r m)=br m (bR (dW a m) c λr=>a r m):=λc _=>jw λi r s _=>by by_cases z:i=c;subst z;rw[fW,fW];rw[fX _ z,fX _ z];unfold dW;rw[aG s]
 have H:(aS m λc=>(e.v c:ak)*br m (bR (λc i=>a i c+e.w*((e.v c:ak)*(e.u i:ak))) c λi=>a i m+e.w*((e.v m:ak)*(e.u i:ak))))=aS m λc=>(e.v c:ak)*br m (bR (dW (ir n g) m) c λi=>ir n g i m):=eP λc k=>by rw[V c k]
 have G:(aS m λc=>(e.v c:ak)*br m (bR (λc r=>a r c) c λr=>a r m))=aS m λc=>(e.v c:ak)*br m (bR (dW a m) c λr=>a r m):=eP λc k=>by rw[T c k]
 rw[W,U,H,G]at D;have v:iz ((gx b:ak)*((aS m λc=>(e.v c:ak)*br m (bR (dW a m) c λr=>a r m))-(e.v m:ak)*br m (dW a m))):=by
  have J:iz (aS m λc=>(e.v c:ak)*((gx b:ak)*br m (bR (dW a m) c λr=>a r m))):=iz.a2 λc k=>(zU _).a0<|GQ E m c m (b_ _) k<|b_ _;have I:iz ((-(e.v m):ah)*((gx b:ak)*br m (dW a m))):=(zU _).a0<|TD E;have X:=J.a1 I;have w:(aS m λc=>(e.v c:ak)*((gx b:ak)*br m (bR (dW a m) c λr=>a r m)))+(-(e.v m):ah)*((gx b:ak)*br m (dW a m))=(gx b:ak)*((aS m λc=>(e.v c:ak)*br m (bR (dW a m) c λr=>a r m))-(e.v m:ak)*br m (dW a m)):=by
   have:(aS m λc=>(e.v c:ak)*((gx b:ak)*br m (bR (dW a m) c λr=>a r m)))=(gx b:ak)*aS m λc=>(e.v c:ak)*br m (bR (dW a m) c λr=>a r m):=by rw[<-fD];exact eP λc _=>by grind
   left
  nofun
 obtain⟨y,C⟩:=v;refine((en q.2).1*y,?_);have N:((tJ (dJ n g) q.2 (g.a.getD q.1 0):ah):ak)=(e.d:ak)*y:=by
  unfold tJ;rw[rQ,qR,dF,Ff F,Ff F,VQ _ P];have S:(aS (cz n).length λr=>(t r:ak)*(dD q.2 (dN n r):ak))=((gk n).b:ak)*aS m λc=>(e.v c:ak)*br m (bR (dW (ir n g) m) c λi=>ir n g i m):=by rw[<-fD];refine eP λc k=>?_;rw[F.c c k,M c k];grind
  have R:((dJ n g).b:ak)=(gk n).b*br m (dW (ir n g) m):=F.d;have Q:((g.a.getD q.1 0:ah):ak)= -(e.v m:ak):=by nofun
  rw[S,R,Q,<-C,<-D,O,dF];grind
 apply ya.mp;rw[dF,dF,dF,N];show _=(e.d:ak)*_;grind
def O9(h:bw n)(a:bF)(i:q∈bj 0 n.a):(((xr (dJ n a) (a.a.getD q.1 0,q.2):ah)):ak)=fL q.2*((((dJ n a).a.getD q.2.b 0:ah):ak)-(((dJ n a).a.getD q.2.a 0:ah):ak)+((a.a.getD q.1 0:ah):ak)*((dJ n a).b:ak)):=by
 obtain⟨f,b⟩:=Uf h a i;have d:=(zm h<|eJ i).2;have e:xr (dJ n a) (a.a.getD q.1 0,q.2)=f:=by grind[xr,en,tJ,dJ,wN]
 have c:(((dJ n a).a.getD q.2.b 0:ah):ak)-(((dJ n a).a.getD q.2.a 0:ah):ak)+((a.a.getD q.1 0:ah):ak)*((dJ n a).b:ak)=(tJ (dJ n a) q.2 (a.a.getD q.1 0):ah):=by unfold tJ;nofun
 rw[e,c];have g:=fk (λz:ah=>(z:ak)) b;grind[dF,eZ,fL]
def Wm(hB:1<=B):∀{n m:ag},n<=m->mq B n<=mq B m:=by
 intro n m h;induction m with|zero=>have:n=0:=∅;subst this;exact b_ _|succ m a=>
  by_cases e:n=m+1;nofun;refine fx (a !_) ?_;show mq B m<=(m+1)*(B*mq B m)
  calc mq B m=1*(1*mq B m):=¬_
   _<=(m+1)*(B*mq B m):=uE ¬_<|p_ _ hB
def Jx{A B:ag}(h:gy A x)(e:A<=B):gy B x:=by have:((A:ag):ak)<=(B:ag):=XZ.mpr e;exact(by have:=h.1;grind,by have:=h.2;grind)
def Rq{B:ag}{f:α->ak}:∀{l:af α} {k:ag},(∀a∈l,gy B<|f a)->l.length<=k->gy (k*B:ag) (a_ l f)
 |[],k,_,_=>by refine Jx (A:=0) ?_<|mW _;have:((0:ag):ak)=0:=aa;rw[this];exact(by show-(0:ak)<=0;rfl,by show(0:ak)<=0;rfl)|a::l,0,_,c=>by simp at c|a::l,k+1,h,c=>by have d:=(h a (_)).a2<|Rq (l:=l) (k:=k) (λb g=>h b<|cO _ g) ∅;have e:((B:ag):ak)+((k*B:ag):ak)=(((k+1)*B:ag):ak):=();rw[e]at d;exact d
def ad6(h:aI k z):gy (2^k:ag) (z:ak):=MG.mpr<|uF h
def Th:∀(a:af kB),(∀e∈a,e.d.natAbs+2*e.c.natAbs<=2^k)->mS a<=2^(k*a.length)
 |[],_=>by show 1<=_;exact Dz|e::a,h=>by show(e.d.natAbs+2*e.c.natAbs)*mS a<=_;rw[ij,Nat.mul_succ,HR,DB];exact uE (Th a λx b=>h x<|cO _ b)<|h e (_)
def UP(he:gT N e)(v:ag):gy 1 (dD e v:ak):=by have f:((1:ah):ak)=1:=aa;have d:((-1:ah):ak)= -1:=aa;have c:((0:ah):ak)=0:=aa;rcases lk he v with⟨b,a⟩|⟨b,a⟩|⟨b,g,a⟩<;>rw[a]<;>simp only[f,d,c]<;>exact(aa,aa)
def TQ(h:bw n)(b:fs.Sublist (ku n hs)){B:ag}(c:∀q∈bj 0 n.a,gy B ((vd n hs q).v j:ak))(r:ag):gy (14*B:ag) (sP (λ_ _=>0) fs r j):=by
 unfold sP;have z:((0:ah):ak)=0:=aa;have e:∀x:ak,((0:ah):ak)+x=x:=λx=>by rw[z];grind
 rw[e];refine Rq (λa ha=>?_)<|fx b.length_le (by unfold ku;rw[cb,nI];exact h.c);obtain⟨q,f,rfl⟩:=cJ.mp<|b.subset ha;have:=(c q f).a0<|UP (h.a _<|eJ f)<|dN n r;have d:((B:ag):ak)*1=(B:ag):=();rw[d]at this;exact this
def Se(h:bw n)(b:fs.Sublist (ku n hs))(a:c<(cz n).length):gy 14 (dW (sP (λ_ _=>0) fs) (cz n).length c r):=by unfold dW;rw[aG a];refine TQ (B:=1) h b (λq d=>?_) r;show gy ((1:ag):ak) ((if c<(cz n).length then dD q.2 (dN n c)else _:ah):ak);rw[aG a];exact UP (h.a _<|eJ d) _
def Wk(hi:∀c r,c<n->r<n->iz (M c r))(b:gy (W:ag) (br n M)):uj W (br n M):=by obtain⟨z,a⟩:=CQ hi;rw[a]at b;exact(z,a,MG.mp b)
def zw(h:bw n):(cz n).length<=8:=fx (Vw n) h.d
def Ti(h:bw n)(a:bF):mS (ku n a)<=2^18508:=by
 have d:=Th (k:=1322) (ku n a) λe c=>by obtain⟨q,j,rfl⟩:=cJ.mp c;have b:=(za h).a1<|AA (f:=en)<|eJ j;have i:(en q.2).1.natAbs<2^1320:=b.2.1;have g:(en q.2).2.natAbs<2^1320:=b.2.2;show(en q.2).2.natAbs+2*(en q.2).1.natAbs<=2^1322;have:(2:ag)^1322=4*2^1320:=aa;rw[this];lia
 refine fx d<|yp ⋯ ?_;have:(ku n a).length<=14:=by unfold ku;rw[cb,nI];exact h.c
 lia
def Wn:mq 14 8<2^47:=⋯
def aeK(h:bw n)(a:bF):aI 20000 (lX n a).b:=by
 obtain⟨t,F⟩:=Bk h a;have f:uj (mS (ku n a)*mq 14 8) ((gx (ku n a):ak)*br (cz n).length (dW (ir n a) (cz n).length)):=by rw[He];refine CI (Kx h a) (λc i d e=>uF<|SA e) λfs g=>?_;refine Wk (λc r _ _=>CH _ _ _ _ _) ?_;rw[<-He];exact Jx (GZ λc r d _=>Se h g d)<|Wm ⋯<|zw h
 obtain⟨z,b,j⟩:=f;rw[Fe,<-F.d]at b;have:=ya.mp b;rw[this];unfold aI;have k:z.natAbs<=2^18508*2^47:=fx j<|uE (Ti h a)<|uF Wn;omega
def aeJ(h:bw n)(o:∀t∈hs.a,aI 2600 t):∀t∈(lX n hs).a,aI 24000 t:=by
 obtain⟨t,F⟩:=Bk h hs;rw[F.a];intro x j;obtain⟨l,b,rfl⟩:=cJ.mp j;have b:=jz.mp b;have a:∀i,aI 2600<|hs.a.getD i 0:=λi=>by by_cases q:i<hs.a.length;nofun;rw[gO,DK ∅];show(0:ah).natAbs<_;exact yo _
 have k:uj (mS (ku n hs)*(8*(14*2^2600*mq 14 8))) ((gx (ku n hs):ak)*br (cz n).length (bR (dW (ir n hs) (cz n).length) l λi=>ir n hs i (cz n).length)):=by rw[GN];refine CI (Kx h hs) (λc i g e=>Zy (b_ _) e) λfs f=>?_;refine Wk (λc r _ _=>CH _ _ _ _ _) ?_;rw[<-GN];refine Jx (XO (B:=14) (H:=14*2^2600) b ⋯ (λc r g _ _=>Se h f g) λr _=>?_)<|uE (zw h)<|Oi _<|Wm ⋯<|zw h;refine TQ h f (λq s=>?_) r;show gy _ ((if(cz n).length<(cz n).length then _ else-(hs.a.getD q.1 0):ah):ak);rw[aE ¬_];exact ad6 (a _).a6
 obtain⟨z,d,m⟩:=k;rw[Fe,<-F.c l b]at d;have:=ya.mp d;rw[this];unfold aI;have p:z.natAbs<=2^18508*(2^3*(2^4*2^2600*2^47)):=fx m<|uE (Ti h hs)<|uE ⋯<|uE (p_ _ ⋯)<|uF Wn;omega
def adI(h:bw n)(m:∀t∈hs.a,aI 2600 t)(g:r<(cz n).length)(i:j<=(cz n).length):aI 30000 (yP n hs r j):=by
 rw[Ri h hs g i];refine(EL (n:=22410) (λz f=>?_) (by rw[cb,nI];have:=h.c;symm)).a0 ⋯;obtain⟨q,o,rfl⟩:=cJ.mp f;have b:aI 2600 (hs.a.getD q.1 0):=by by_cases e:q.1<hs.a.length;nofun;rw[gO,DK ∅];show(0:ah).natAbs<_;decide
 have a:∀v,aI 1<|dD q.2 v:=λv=>by rcases lk (h.a _<|eJ o) v with⟨d,c⟩|⟨d,c⟩|⟨d,l,c⟩<;>rw[c]<;>exact aI.a2
 have p:aI 19801 ((gk n).a.getD q.1 0):=(EE h).2.2 _<|jo (by rw[JD];exact(eM.mp<|jN o).1);have k:aI 2600 (if j<(cz n).length then dD q.2 (dN n j)else-(hs.a.getD q.1 0)):=by split;exact(a _).a0 ⋯;exact b.a6
 exact(p.a1<|(a _).a1 k).a0 ⋯
def FR(h:bw n)(a:vI n hs):rH n hs:=by
 refine(h,a,((30000,?_,?_,(EE h).2.1.a0 ⋯),RV h hs),(?_,aeK h hs,aeJ h a.c));have:(rA n hs).length<=8:=by simp[*,Ga,y',zw]
 have:=yp (n:=2) ⋯ this;lia;rw[Ga h];refine(JH h hs).a5 (zw h) (λl j b c=>adI h a.c b c) ?_;have:=yp (n:=2) ⋯<|zw h;lia;obtain⟨t,F⟩:=Bk h hs;exact F.b
def KZ:∀(l:af (ah×ah)) (b c:ah),(∀q∈l,0<q.2)->0<b->b<=c->l.foldl jK b<=l.foldl (λb q=>b*q.2) c
 |[],b,c,_,_,h=>h|q::l,b,c,f,d,h=>by have e:=f q (_);refine KZ l _ _ (λx a=>f x<|cO _ a) (Fz d e) ?_;show b/((fJ b q.2:ag):ah)*q.2<=c*q.2;refine Int.mul_le_mul_of_nonneg_right (Int.le_trans ?_ h) !_;exact U0 _ !_
def UC:∀(l:af (ah×ah)) (b:ah),(∀q∈l,0<q.2)->0<b->b∣l.foldl jK b/\∀q∈l,q.2∣l.foldl jK b
 |[],b,_,_=>(Jk _,())|q::l,b,o,f=>by
  have g:=o q (_);obtain⟨c,n⟩:=UC l (jK b q) (λx e=>o x<|cO _ e)<|Fz f g;have m:q.2∣jK b q:=T0 _ _;have j:b∣jK b q:=by
   have i:((fJ b q.2:ag):ah)∣b:=wO b q.2;have h:((fJ b q.2:ag):ah)∣q.2:=QP b q.2;obtain⟨k,a⟩:=h;refine(k,?_);unfold jK;have:b/((fJ b q.2:ag):ah)*(((fJ b q.2:ag):ah)*k)=b/((fJ b q.2:ag):ah)*((fJ b q.2:ag):ah)*k:=()
   conv=>lhs;rw[a]
   rw[<-a]
   conv=>lhs;arg 2;rw[a]
   rw[this,Int.ediv_mul_cancel i]
  refine(yM j c,λp d=>?_);rcases fq.mp d with rfl|d;exact yM m c;symm
def vm(hp:∀q∈l,0<q.2)(h:l[i]?=ai q):(((gG l).a.getD i 0:ah):ak)=(gG l).b*((q.1:Rat)/(q.2:Rat)):=by
 have f:=eC h;have a:=hp q f;have e:(gG l).a.getD i 0=q.1*((gG l).b/q.2):=by simp[*,gG]
 obtain⟨k,c⟩:=(UC l 1 hp ⋯).2 q f;have d:(gG l).b=q.2*k:=c;have b:=eZ a;rw[e,d,wN _ (_),dF,dF];grind
def xn:∀(l:af (ah×ah)) (b:ah),(∀q∈l,0<q.2)->0<b->0<l.foldl jK b
 |[],b,_,h=>h|q::l,b,d,c=>xn l _ (λx a=>d x<|cO _ a)<|Fz c<|d q (_)
structure jR(r:bF)(l:af dq):Prop where
 a3:r.a.length=l.length
 a0:0<r.b
 a1:dI l
 a2:∀i,i<l.length->((r.a.getD i 0:ah):ak)=bM l i*r.b
def FQ{a b:ah}(d:0<b)(c:cM x)(h:(a:ak)=aN x*b):aQ a b=x:=by grind[cM.a0,fE,fV,eZ]
def adX(tops:af ah)(b:ah):iG tops b=tops.flatMap λt=>gn<|aQ t b:=aa
def jR.a6(h:jR r l):r.a.map (λt=>aQ t r.b)=l:=by
 refine uL (by rw[cb];exact h.a3) λi b a=>?_;rw[Ia];refine FQ h.a0 (h.a1 _<|ph a) ?_;have:=h.a2 i a;rw[cb]at b;have d:r.a.getD i 0=r.a[i]:=∅;have c:bM l i=aN l[i]:=by unfold bM;nofun
 nofun
def jR.a4(h:jR r l):iG r.a r.b=qM l:=by
 rw[adX];unfold qM
 conv=>rhs;rw[<-h.a6]
 rw[Ih]
def Vs:∀(l:af ah) (g:ah),l.foldl (λg t=>((fJ g t:ag):ah)) g∣g/\∀t∈l,l.foldl (λg t=>((fJ g t:ag):ah)) g∣t
 |[],g=>(Jk _,())|t::l,g=>by obtain⟨b,c⟩:=Vs l ((fJ g t:ag):ah);refine(yM b<|wO g t,λx a=>?_);rcases fq.mp a with rfl|a;exact yM b<|QP g x;symm
def Vr:∀(l:af ah) (g:ah),0<g->0<l.foldl (λg t=>((fJ g t:ag):ah)) g
 |[],_,h=>h|t::l,g,h=>Vr l _ (by have:0<fJ g t:=QO t !_;show 0<((fJ g t:ag):ah);nofun)
def x2{x y z w:ak}(s:x≠0)(v:x*y=z*(x*w)):y=z*w:=by grind
def jR.a5(h:jR (tops,b) l):jR (qo tops b) l:=by
 have m:0<b:=h.a0;have g:0<ll tops b:=Vr tops b m;obtain⟨a,p⟩:=Vs tops b;have a:ll tops b∣b:=a;obtain⟨k,d⟩:=a;have n:(qo tops b).b=k:=Int.ediv_eq_of_eq_mul_right (by lia) d
 refine(by show(tops.map _).length=_;rw[cb];exact h.a3,?_,h.a1,λi f=>?_);rw[n];rcases Int.lt_or_lt_of_ne (show k≠0 by rintro rfl;simp at d;ac_rfl)with q|q;have:=Int.mul_neg_of_pos_of_neg g q;lia;exact q;have c:i<tops.length:=by have:=h.a3;show i<_;simp at this;lia
 obtain⟨j,e⟩:ll tops b∣tops[i]:=p _<|ph c;have r:(qo tops b).a.getD i 0=j:=by show(tops.map _).getD i 0=_;simp[c];exact Int.ediv_eq_of_eq_mul_right (by lia) e
 rw[r,n];refine x2 (eZ g) ?_;rw[<-dF,<-e,<-dF,<-d,<-h.a2 i f];simp[c]
def SM(hp:∀q∈ps,0<q.2):jR (gG ps) (ps.map λq=>aQ q.1 q.2):=by refine(by unfold gG;simp,xn ps 1 hp ⋯,λx b=>?_,λi a=>?_);grind[fE];rw[cb]at a;rw[vm hp<|cK a];unfold bM;(nofun;grind?[cK,aN,fV])
def ut(h:bw n):jR (c_ n) ((aW n).edges.map (·.h)):=by
 have:=SM (ps:=n.a.map (·.h)) λq b=>by obtain⟨e,a,rfl⟩:=cJ.mp b;exact(h.a e a).j
 rw[eS]at this;have e:(aW n).edges.map (·.h)=n.a.map ((λq:ah×ah=>aQ q.1 q.2)∘λx=>x.h):=by show(n.a.map bU).map _=_;rw[eS];rfl
 rw[e];exact this
def tV(h:bw n):vI n (c_ n):=by
 have c:∀q∈n.a.map (·.h),0<q.2:=λq i=>by obtain⟨e,b,rfl⟩:=cJ.mp i;exact(h.a e b).j
 have a:=xn (n.a.map (·.h)) 1 c ⋯;have d:aI 1300 (c_ n).b:=by refine jg ?_ h.j;have g:=KZ (n.a.map (·.h)) 1 1 c ⋯ ⋯;show((n.a.map (·.h)).foldl jK 1).natAbs<=_;grind
 refine(by unfold c_ gG;simp,a,d,λt f=>?_);obtain⟨q,i,rfl⟩:=cJ.mp f;obtain⟨e,b,rfl⟩:=cJ.mp i;exact((h.a e b).k.1.a1<|d.a3 (h.a e b).j).a0 ⋯
def TM(h:bw n)(k:ag):vI n (f_ n k):=by refine(by unfold f_;simp,(by decide:(0:Int)<1),(aI.a2:aI 1 1).a0 ⋯,λt a=>?_);have a:t∈(cg n.a.length (0:ah)).set k 1:=a;grind[Az,yo,aI.a2]
def Op(n:aR)(k:ak)(x:ag->ak)(v:ag):rq n (λv=>k*x v) v=k*rq n x v:=by unfold rq;rw[<-lC];exact fF λq _=>by grind
def TG(n:aR)(k:ak)(x:ag->ak)(v:ag):sm n (λi=>k*x i) v=k*sm n x v:=by unfold sm;rw[<-lC];exact fF λq _=>by grind
def fv(n:aR)(a:bF)(v:ag):ak:=(((dJ n a).b:ak)*a.b)⁻¹ *(((dJ n a).a.getD v 0:ah):ak)
def Rm(h:bw n)(d:0<hs.b):∀v,v<n.b.length->if cF (gp<|aW n) v=v then fv n hs v=0 else rq n (fv n hs) v=sm n (λi=>(hs.b:ak)⁻¹ *((hs.a.getD i 0:ah):ak)) v:=λv a=>by obtain⟨b,c⟩:=Bz h hs;have:=c v a;rw[KY h]at this;have e:cF (gp<|aW n) v=(gp<|aW n).getD v 0:=aa;rw[e];split at this;rename_i q;rw[aG q];unfold fv;rw[this];have:((0:ah):ak)=0:=aa;rw[this];nofun;rename_i q;rw[aE q];have f:rq n (fv n hs) v=(((dJ n hs).b:ak)*hs.b)⁻¹ *rq n (λv=>(((dJ n hs).a.getD v 0:ah):ak)) v:=Op n _ _ v;rw[f,this,TG];have j:=eZ b;have g:=eZ d;grind
def Tn(h:bw n):zV (aW n) iY (fv n<|c_ n):=λv b=>by rw[ly]at b;have c:=tV h;have:=Rm h c.a v b;split at this;nofun;rename_i q;rw[aE q,<-K_ h,this];refine PG h _ (λq hq=>?_) v;have a:=vm (l:=n.a.map (·.h)) (λq hq=>by obtain⟨e,d,rfl⟩:=cJ.mp hq;exact(h.a e d).j) (i:=q.1) (q:=q.2.h) (by rw[cV,jN hq];rfl);have a:(((c_ n).a.getD q.1 0:ah):ak)=(c_ n).b*((q.2.h.1:ak)/(q.2.h.2:ak)):=a;rw[a,fV];have:=eZ c.a;grind
def Tj(h:bw n):pT (aW n)=(bP n.b.length).map λi=>nP<|fv n (c_ n) i:=by grind[MP,B_,Tn,ly]
def BV(l:af ag)(f:ag->ak):dI (l.map λi=>nP<|f i):=λx a=>by obtain⟨i,_,rfl⟩:=cJ.mp a;exact GW _
def vl(f:ag->ak)(h:i<m):bM ((bP m).map λi=>nP<|f i) i=f i:=by unfold bM;simp[*,S1,CF]
def SL(h:bw n):jR (ro n<|c_ n) (pT<|aW n):=by rw[Tj h];have c:=(tV h).a;have b:=(Bz h<|c_ n).1;refine jR.a5 (?_,fQ b c,BV _ _,λi a=>?_);show(tK _ _ _).length=_;simp[zf];simp at a;rw[vl _ a];show(((dJ n<|c_ n).a.getD i 0:ah):ak)=_*(((dJ n<|c_ n).b*(c_ n).b:ah):ak);unfold fv;rw[dF];(simp only[rR,Rat.inv_mul_rev];grind?[eZ])
def Lr(n:fY):(fi n).length=n.edges.length:=by simp[fi]
def Lg(n:fY):dI (fi n):=λx a=>by obtain⟨e,_,rfl⟩:=cJ.mp a;exact gK _ _
def Lu(hp:dI p)(c:cM e.h):aN (uu p e)=kW e*(bM p e.a- bM p e.b+aN e.h):=by unfold uu;rw[iw,vX,ud (vT _ _) c,qI (hp.a0 _)<|hp.a0 _];rfl
def VI(h:bw n)(c:vI n hs)(f:n.a[i]?=ai e):(((oK n hs).getD i 0:ah):ak)=fL e*(fv n hs e.b- fv n hs e.a+(hs.b:ak)⁻¹ *((hs.a.getD i 0:ah):ak))*(((dJ n hs).b*hs.b:ah):ak):=by
 have b:i<n.a.length:=(eM.mp f).1;have a:(i,e)∈bj 0 n.a:=by
  have:i<(bj 0 n.a).length:=by rw[nI];exact b
  have g:=lu (n:=0) (l:=n.a) (i:=i)<|cK this;grind
 have j:(oK n hs).getD i 0=xr (dJ n hs) (hs.a.getD i 0,e):=by
  have d:i<hs.a.length:=by rw[c.b];exact b
  (simp_all[oK];grind?)
 have:=O9 h hs a;rw[j,this,dF];unfold fv;have m:=eZ (Bz h hs).1;have k:=eZ c.a;(simp only[rR,Rat.inv_mul_rev]at*;grind?)
def VD(hh:vI n hs):(oK n hs).length=n.a.length:=by unfold oK;rw[cb,kG,hh.b];simp
def Ls(h:bw n)(a:n.a[i]?=ai e):bM (fi<|aW n) i=fL e*(fv n (c_ n) e.b- fv n (c_ n) e.a+((c_ n).b:ak)⁻¹ *(((c_ n).a.getD i 0:ah):ak)):=by have c:=h.a e<|eC a;unfold bM fi;rw[gO,cV];show aN ((HN _<|(n.a.map bU)[i]?).getD _)=_;rw[cV,a];show aN (uu (pT<|aW n)<|bU e)=_;have d:=Tj h;rw[d,Lu (BV _ _)<|fE _ _,rF c];show fL e*(bM _ e.b- bM _ e.a+aN (aQ _ _))=_;rw[vl _ c.b,vl _ c.a];have b:=vm (l:=n.a.map (·.h)) (λq g=>by obtain⟨e,f,rfl⟩:=cJ.mp g;exact(h.a e f).j) (i:=i) (q:=e.h) (by rw[cV,a];rfl);have b:(((c_ n).a.getD i 0:ah):ak)=(c_ n).b*((e.h.1:ak)/(e.h.2:ak)):=b;rw[b,fV];have:=eZ (tV h).a;grind
def O7(h:bw n):jR (hG n<|c_ n) (fi<|aW n):=by
 have c:=tV h;have b:=(Bz h<|c_ n).1;have d:(aW n).edges.length=n.a.length:=by simp[aW]
 refine jR.a5 (?_,fQ b c.a,Lg _,λi a=>?_);grind[oK,VD,Lr];rw[Lr,d]at a;rw[Ls h<|cK a];solve_by_elim[VI,cK]
def xE(wh:ah)(N:ag)(s:mJ)(a b:ag):ah:=if a=s.a then s.b*(if b<N then(if b=s.a then wh else 0)-(if b=s.c then wh- s.d else 0)else s.d*s.e)else 0
def P8(h:gI N (N+1) rows)(i:s.c<N)(c:s.a<N)(d:ah)(g:b<=N):gE (xk N d rows s) a b=gE rows a b+xE d N s a b:=by
 have e:=h.a0 (j:=s.a) c (· +s.b*d);have f:=e.a0 (j:=s.c) c (· - s.b*(d- s.d));unfold xk;rw[j0 f c (!_) (z:=s.b*s.d*s.e) λ_=>aa,j0 e c (!_) (g:=(· - s.b*(d- s.d))) λ_=>Int.sub_eq_add_neg,j0 h c (!_) (z:=s.b*d) λ_=>aa];unfold xE;by_cases u:a=s.a
 ·subst u;by_cases v:N=b
  ·subst v;simp[tq,kY c,kY i];grind
  ·simp[v,eq_comm,show b<N by lia];((repeat' split)<;>grind?)
 ·simp[u,dZ u]
def u7(wh:ah)(i:b<=N):∀(l:af mJ),(∀s∈l,s.c<N/\s.a<N)->gE (mD N wh l) a b=(l.map λs=>xE wh N s a b).sum:=by
 have j:∀(l:af mJ) (c:af (af ah)),(∀s∈l,s.c<N/\s.a<N)->gI N (N+1) c->gE (l.foldl (xk N wh) c) a b=gE c a b+(l.map λs=>xE wh N s a b).sum:=by
  intro l;induction l with|nil=>intro c _ _;simp|cons s l f=>intro c e h;have d:=e s (_);rw[fO,f (xk N wh c s) (λx g=>e x<|cO _ g)<|((h.a0 d.2 _).a0 d.2 _).a0 d.2 _,P8 h d.1 d.2 wh i,eE,qW];lia
 simp_all[mD,Bl,VX]
def hH(f:ah)(e:bB):ag:=if 0<f then e.b else e.a
def fc(f:ah)(e:bB):ag:=if 0<f then e.a else e.b
def zA(wh:ah)(N:ag)(f c:ah)(e:bB)(a b:ag):ah:=if a=fc f e then(f.natAbs:ah)*(if b<N then(if b=fc f e then wh else 0)-(if b=hH f e then wh- c else 0)else c*e.k)else 0
def E1(a b:af ah)(q:ag×bB):(a.getD q.1 0=0/\jF a b q=[])\/(a.getD q.1 0≠0/\jF a b q=[(q.1,hH (a.getD q.1 0) q.2,fc (a.getD q.1 0) q.2,((a.getD q.1 0).natAbs:ah),b.getD q.1 0,q.2.k)]):=by
 unfold jF hH fc;generalize a.getD q.1 0=x;rcases Int.lt_trichotomy 0 x with d|d|d
 ·have e:(x.natAbs:ah)=x:=!_;rw[aG d,aE !_,aG d,aG d,e];exact .inr (!_,aa)
 ·subst d;exact .inl (aa,aa)
 ·have e:(x.natAbs:ah)= -x:=!_;rw[aE !_,aG d,aE !_,aE !_,e];exact .inr (!_,aa)
def X8(wh:ah)(N:ag)(c g:af ah)(q:ag×bB)(a b:ag):((jF c g q).map λs=>xE wh N s a b).sum=zA wh N (c.getD q.1 0) (g.getD q.1 0) q.2 a b:=by rcases E1 c g q with⟨z,e⟩|⟨z,e⟩;rw[e,z];show 0=_;unfold zA;simp;rw[e];show xE _ _ _ _ _+0=_;rw[Int.add_zero];rfl
def RL(f:α->af β)(g:β->ah):∀l:af α,((l.flatMap f).map g).sum=(l.map λa=>((f a).map g).sum).sum
 |[]=>aa|a::l=>by rw[uK,eV,DE,RL f g l,eE,qW]
def LG(hn:bw n)(d:iu fr)(c:fr.a.length=n.a.length)(e:b<=n.b.length):gE (mD n.b.length (cj n).b<|iU n fr.a (cj n).a) a b=((bj 0 n.a).map λq=>zA (cj n).b n.b.length (fr.a.getD q.1 0) ((cj n).a.getD q.1 0) q.2 a b).sum:=by rw[u7 _ e _ (Bi hn d c).a];(simp only[iU,RL,lK,X8])
def jq(n:aR)(a:af (af ah))(k:ag):Prop:=(gw n k).isSome=ao\/gE a k k=0
instance (n:aR) (m1:af (af ah)) (k:ag):CA (jq n m1 k):=inferInstanceAs<|CA<|_\/_
def R9{l:af (af ah)}(b:i<l.length)(x:af ah)(a:ag):(l.set i x).getD a []=if a=i then x else l.getD a []:=vB b x [] a
def VF(n:aR)(b:ah)(h:gI n.b.length (n.b.length+1) m1):∀(k:ag),k<=n.b.length->∀a,((bP k).foldl (kQ n b) m1).getD a []=if a<k/\jq n m1 a then xt n b a else m1.getD a []
 |0,_,a=>by rw[aE ¬_];rfl|k+1,g,a=>by have c:=VF n b h k !_;have d:=FU n b (bP k) m1 h;rw[uG,rV];show(kQ n b ((bP k).foldl (kQ n b) m1) k).getD a []=_;have e:((bP k).foldl (kQ n b) m1).getD k []=m1.getD k []:=∅;generalize (bP k).foldl (kQ n b) m1=f at c d e;unfold kQ;rw[e];by_cases q:(gw n k).isSome=ao\/(m1.getD k []).getD k 0=0;rw[aG q,R9 (by rw[d.a1];symm),c a];have l:jq n m1 k:=q;by_cases j:a=k;nofun;lia;rw[aE q,c a];have l:¬jq n m1 k:=q;by_cases i:a<k/\jq n m1 a;left;grind
def Z7(n:aR)(a:ah)(c:k<n.b.length)(b:ag):(xt n a k).getD b 0=if b=n.b.length then a*(gw n k).getD 0 else if b=k then a else 0:=by
 unfold xt;rw[vB ¬_,vB (by simp;lia)];simp[List.getElem?_replicate];((repeat' split)<;>nofun)
def iq(n:aR)(a:bF):af (af ah):=mD n.b.length (cj n).b<|iU n a.a (cj n).a
def Ry(hn:bw n)(g:iu fr)(f:fr.a.length=n.a.length)(d:a<n.b.length)(b:ag):gE (lU n fr) a b=if jq n (iq n fr) a then(if b=n.b.length then(cj n).b*(gw n a).getD 0 else if b=a then(cj n).b else 0)else gE (iq n fr) a b:=by have c:gI n.b.length (n.b.length+1) (iq n fr):=BK n _ _ _ (λs d=>((Bi hn g f).a s d).2)<|Bl _ _;have e:=VF n (cj n).b c n.b.length (b_ _) a;grind[gE,lU,Fq,iq,jq,Z7]
def mH(e:bB):ak:=(e.l.1:ak)/(e.l.2:ak)
def Fu(h:bw n)(b:q∈bj 0 n.a):(((cj n).a.getD q.1 0:ah):ak)=(cj n).b*mH q.2:=SK (λp a=>(Kp h).a0 p a) (by rw[cV,jN b];rfl)
def adL(n:aR)(a:bF)(q:ag×bB):kB:=(q.2.l.1,q.2.l.2, λj=>((a.a.getD q.1 0).natAbs:ah)*(if j<n.b.length then(if j=hH (a.a.getD q.1 0) q.2 then 1 else 0)else q.2.k), λr=>if jq n (iq n a) r then 0 else if r=fc (a.a.getD q.1 0) q.2 then 1 else 0)
def xx(n:aR)(a:bF):af kB:=(bj 0 n.a).map<|adL n a
def Ft(n:aR)(a:bF)(r j:ag):ah:=if jq n (iq n a) r then(if j=n.b.length then(gw n r).getD 0 else if j=r then 1 else 0)else ((bj 0 n.a).map λq=>if r=fc (a.a.getD q.1 0) q.2 then((a.a.getD q.1 0).natAbs:ah)*(if j<n.b.length then(if j=fc (a.a.getD q.1 0) q.2 then 1 else 0)-(if j=hH (a.a.getD q.1 0) q.2 then 1 else 0)else 0)else 0).sum
def jt(n:aR)(a:bF)(r j:ag):ak:=(Ft n a r j:ak)+a_ (xx n a) λe=>e.w*((e.v j:ak)*(e.u r:ak))
def SC(h:bw n)(b:bF):xU n.b.length (xx n b) (Ft n b) (jt n b):=by refine(λr j _ _=>aa,λe a=>?_);obtain⟨q,c,rfl⟩:=cJ.mp a;have:=(h.a _<|eJ c).r;show q.2.l.2≠0;lia
def YF(n:aR)(b:bF):gx (xx n b)=(cj n).b:=by
 have e:(cj n).b=((n.a.map (·.l)).map (·.2)).foldl (· * ·) 1:=by rw[Ig];rfl
 have a:(xx n b).map (·.d)=(n.a.map (·.l)).map (·.2):=by unfold xx;rw[eS,eS];exact LF (λe=>e.l.2) 0 n.a
 (simp[*,gx,Ku,QK])
def xG(h:jq n (iq n fr) r)(j:ag):jt n fr r j=((if j=n.b.length then(gw n r).getD 0 else if j=r then 1 else 0:ah):ak):=by unfold jt Ft xx;rw[aG h,pR,GX λq _=>by show _*(_*((if jq n (iq n fr) r then 0 else _:ah):ak))=0;rw[aG h];have:((0:ah):ak)=0:=aa;rw[this];nofun];grind
def nM(N:ag)(f:ah)(e:bB)(r j:ag):ak:=if r=fc f e then(f.natAbs:ak)*(if j<N then(if j=fc f e then 1 else 0)-(if j=hH f e then 1- mH e else 0)else mH e*e.k)else 0
def Co(h:¬jq n (iq n fr) r)(j:ag):jt n fr r j=a_ (bj 0 n.a) λq=>nM n.b.length (fr.a.getD q.1 0) q.2 r j:=by unfold jt Ft xx;rw[aE h,pR,wX,<-GY];refine fF λq _=>?_;show _+mH q.2*(((_*(if j<n.b.length then _ else _):ah):ak)*((if jq n (iq n fr) r then 0 else _:ah):ak))=_;rw[aE h];unfold nM;have d:((1:ah):ak)=1:=aa;have c:((0:ah):ak)=0:=aa;have e:((((fr.a.getD q.1 0).natAbs:ag):ah):ak)=(((fr.a.getD q.1 0).natAbs:ag):ak):=aa;by_cases b:r=fc (fr.a.getD q.1 0) q.2;rw[aG b,aG b,aG b,d,dF,dF,e];by_cases a:j<n.b.length;rw[aG a,aG a,aG a,qR];split<;>split<;>simp only[d,c]<;>grind;rw[aE a,aE a,aE a,c];grind;rw[aE b,aE b,aE b,c];grind
def WM(hn:bw n){e:bF}(f:q∈bj 0 n.a)(r j:ag):((zA (cj n).b n.b.length (e.a.getD q.1 0) ((cj n).a.getD q.1 0) q.2 r j:ah):ak)=(cj n).b*nM n.b.length (e.a.getD q.1 0) q.2 r j:=by unfold zA nM;have d:((0:ah):ak)=0:=aa;have c:((((e.a.getD q.1 0).natAbs:ag):ah):ak)=(((e.a.getD q.1 0).natAbs:ag):ak):=aa;by_cases b:r=fc (e.a.getD q.1 0) q.2;rw[aG b,aG b,dF,c];by_cases a:j<n.b.length;rw[aG a,aG a,qR];split<;>split<;>simp only[d,qR,Fu hn f]<;>grind;rw[aE a,aE a,dF,Fu hn f];grind;nofun
def ri(n:aR)(a:bF):ag->ag->ah:=λr j=>gE (lU n a) r j
def adK(hn:bw n)(b:iu g)(a:g.a.length=n.a.length)(c:r<n.b.length)(d:j<=n.b.length):(ri n g r j:ak)=(cj n).b*jt n g r j:=by
 unfold ri;rw[Ry hn b a c j];have f:((0:ah):ak)=0:=aa;have e:((1:ah):ak)=1:=aa;by_cases h:jq n (iq n g) r
 ·rw[aG h,xG h];split;·nofun
  ·split;all_goals nofun
 ·rw[aE h,Co h];unfold iq;rw[LG hn b a d,wX,<-lC];exact fF λq c=>WM hn c r j
def Be(hn:bw n)(d:iu fr)(c:fr.a.length=n.a.length):lU n fr=kM (ri n fr) 0 n.b.length:=by
 have b:gI n.b.length (n.b.length+1) (lU n fr):=Um<|Bi hn d c;refine uL (by rw[b.a1,y']) λr f k=>?_;have a:((lU n fr)[r]).length=n.b.length+1:=b.a2 _<|ph f;have e:(kM (ri n fr) 0 n.b.length)[r]=f' (ri n fr) 0 (n.b.length+1) r:=by simp[kM]
 rw[e];refine uL (by simp[a,f']) λj i h=>?_;have g:(f' (ri n fr) 0 (n.b.length+1) r)[j]=ri n fr r j:=by simp[f']
 rw[g];unfold ri gE;left
def Cf(he:gT N e)(f:ah):hH f e≠fc f e/\hH f e<N/\fc f e<N:=by have c:=he.c;have b:=he.b;have a:=he.a;(simp[hH,fc];(split<;>lia))
def V_(he:gT N e):0<=mH e/\mH e<=1:=by refine(xS (FC he.v)<|kU.mpr he.r,?_);have b:=kU.mpr he.r;have f:(e.l.1:ak)<=(e.l.2:ak):=Ab.mpr he.u;have c:=xS (a:=(e.l.2:ak)- e.l.1) (d:=(e.l.2:ak)) () b;grind[mH]
def Ue(k:ag):(0:ak)<=(k:ak):=()
def l8(hn:bw n)(w:bF):sW n.b.length 0 (jt n w):=by
 have t:((0:ah):ak)=0:=aa;have v:((1:ah):ak)=1:=aa;refine(λl j _ m _ o a=>?_,λl _ m=>?_)
 ·by_cases h:jq n (iq n w) l;·rw[xG h,aE !_,aE<|λq=>a q.symm,t];exact Hk
  ·rw[Co h];have:=vV (l:=bj 0 n.a) (f:=λq=> -1*nM n.b.length (w.a.getD q.1 0) q.2 l j) λq x=>by
    have b:=hn.a _<|eJ x;have k:=V_ b;have c:=Ue (w.a.getD q.1 0).natAbs;unfold nM;by_cases d:l=fc (w.a.getD q.1 0) q.2
    ·rw[aG d,aG o,aE !_];split;·have:=mU c (show(0:ak)<=1- mH q.2 by grind);grind
     ·grind
    ·nofun
   rw[lC]at this;grind
 ·rw[uD,eP (g:=λi=>jt n w l i) λi _=>by rw[HQ]];by_cases h:jq n (iq n w) l;·refine MN λi p=>?_;rw[xG h,aE (by left)];split;all_goals rfl
  ·rw[eP λi _=>Co h i,ue];refine vV λq x=>?_;have b:=hn.a _<|eJ x;have k:=V_ b;have c:=Ue (w.a.getD q.1 0).natAbs;obtain⟨u,s,r⟩:=Cf b<|w.a.getD q.1 0;by_cases d:l=fc (w.a.getD q.1 0) q.2
   ·have e:(aS n.b.length λi=>nM n.b.length (w.a.getD q.1 0) q.2 l i)=((w.a.getD q.1 0).natAbs:ak)*((aS n.b.length λi=>if i=fc (w.a.getD q.1 0) q.2 then 1 else 0)- aS n.b.length λi=>if i=hH (w.a.getD q.1 0) q.2 then 1- mH q.2 else 0):=by rw[<-vN,<-fD];refine eP λi p=>?_;unfold nM;nofun
    rw[e,kA r λi _ a=>aE a,kA s λi _ a=>aE a,aG aa,aG aa];have:=mU c k.1;grind
   ·rw[mn λi _=>by unfold nM;rw[aE d]];exact Hk
def JI(hn:bw n)(d:iu fr)(b:fr.a.length=n.a.length):zG n.b.length (cj n).b (jt n fr) (ri n fr):=((tS hn).1,by rw[<-YF n fr];exact GQ<|SC hn fr,l8 hn fr,λl j a c=>adK hn d b a c)
def adJ(hn:bw n)(b:iu fr)(c:fr.a.length=n.a.length)(o:r<n.b.length)(p:j<=n.b.length):aI 31000 (ri n fr r j):=by
 obtain⟨i,a,g⟩:=tS hn;unfold ri;rw[Ry hn b c o j];have f:∀k,aI k (0:ah):=λk=>yo _;by_cases h:jq n (iq n fr) r;rw[aG h];split;have u:aI 20 ((gw n r).getD 0):=by
  unfold gw;cases q:(n.d.zip n.e).lookup ((r:ag):ah)with
  |none=>exact f _|some v=>obtain⟨i,a,e,_⟩:=List.lookup_eq_some_iff.mp q;have:((r:ah),v)∈n.d.zip n.e:=∅;exact hn.f v (gd this).2
 exact(a.a1 u).a0 ⋯;split;exact a.a0 ⋯;symm;rw[aE h];unfold iq;rw[LG hn b c p];refine(EL (n:=30900) (λz l=>?_) (by rw[cb,nI];have:=hn.c;symm)).a0 ⋯;obtain⟨q,B,rfl⟩:=cJ.mp l;have t:=hn.a _<|eJ B;have s:=(eM.mp<|jN B).1;have y:aI 30000 (((fr.a.getD q.1 0).natAbs:ag):ah):=by have:aI 30000 (fr.a.getD q.1 0):=b.a _<|jo ∅;unfold aI at*;symm
 have d:aI 301 ((cj n).a.getD q.1 0):=g _<|jo (by rw[Fv];exact s);have A:aI 321 ((cj n).a.getD q.1 0*q.2.k):=(d.a1 t.s).a0 ⋯;have x:aI 301 (if j=fc (fr.a.getD q.1 0) q.2 then(cj n).b else 0):=by split;exact a.a0 ⋯;symm
 have w:aI 310 (if j=hH (fr.a.getD q.1 0) q.2 then(cj n).b-(cj n).a.getD q.1 0 else 0):=by split;exact(a.a4 d).a0 ⋯;symm
 unfold zA;split;refine(y.a1 (m:=321) ?_).a0 ⋯;split;exact(x.a4 w).a0 ⋯;symm;symm
def adP(hn:bw n)(c:iu fr)(b:fr.a.length=n.a.length):∃m,2^(lU n fr).length*(m+1)<=10000000/\mK m (lU n fr) (cj n).b/\aI m (cj n).b:=by
 have e:2^n.b.length*(31000+1)<=10000000:=by have:=yp (n:=2) ⋯ hn.d;lia
 refine(31000,?_,?_,(tS hn).2.1.a0 ⋯);simp[*,Be,y'];rw[Be hn c b];exact(JI hn c b).a5 hn.d (λl j a d=>adJ hn c b a d) e
def EB:aN (cG 1)=1:=by rw[vM];rfl
def mG(N v:ag)(r:gc)(q:dM×ag×dq):gc:=gu N (dS q.2.2<|dS q.1.gives q.1.room)<|gu q.2.1 (dS (cG (-1))<|dS q.2.2<|gW (cG 1) q.1.gives)<|gu v q.2.2 r
def VH(hv:v<N)(x:ag->ak):∀(F:af (dM×ag×dq)) (r:gc),(∀q∈F,cM q.1.gives/\cM q.2.2/\q.2.1<N)->dI r->r.length=N+1-> dI (F.foldl (mG N v) r)/\(F.foldl (mG N v) r).length=N+1/\dP N (F.foldl (mG N v) r) x=dP N r x+a_ F (λq=>aN q.2.2*(x v-(1- aN q.1.gives)*x q.2.1))/\bM (F.foldl (mG N v) r) N=bM r N+a_ F (λq=>aN q.2.2*(aN q.1.gives*aN q.1.room))
 |[],r,_,a,e=>(a,e,by show dP N r x=dP N r x+0;grind,by show bM r N=bM r N+0;grind)|q::F,r,d,a,e=>by
  obtain⟨o,f,n⟩:=d q (_);have c:=sU (j:=v) (x:=q.2.2) a;have b:=sU (j:=q.2.1) (x:=dS (cG (-1))<|dS q.2.2<|gW (cG 1) q.1.gives) c;have s:=sU (j:=N) (x:=dS q.2.2<|dS q.1.gives q.1.room) b;have w:=sS v q.2.2 r;have u:=sS q.2.1 (dS (cG (-1))<|dS q.2.2<|gW (cG 1) q.1.gives)<|gu v q.2.2 r;have t:=sS N (dS q.2.2<|dS q.1.gives q.1.room)<|gu q.2.1 (dS (cG (-1))<|dS q.2.2<|gW (cG 1) q.1.gives)<|gu v q.2.2 r;obtain⟨k,i,h,g⟩:=VH hv x F (mG N v r q) (λp l=>d p<|cO _ l) s (by show _=_;unfold mG;nofun);have m:aN (gW (cG 1) q.1.gives)=1- aN q.1.gives:=by rw[qI (pQ _) o,EB]
  refine(k,i,?_,?_);rw[fO,h];unfold mG;rw[sQ b (gK _ _) ∅<|b_ _,aE ¬_,sQ c (gK _ _) ∅ !_,aG n,sQ a f () !_,aG hv,iw,iw,uh,m];show _=_+(_+a_ F _);grind;rw[fO,g];unfold mG;rw[rL b (gK _ _) ∅,aG aa,rL c (gK _ _) !_,aE !_,rL a f !_,aE !_,iw,iw];show _=_+(_+a_ F _);grind
def KI{a:Type}(f:a->ak):aJ a->ak
 |none=>0|some b=>f b
def LC(g:α->aJ β)(f:β->ak):∀l:af α,a_ (l.filterMap g) f=a_ l λa=>KI f<|g a
 |[]=>aa|a::l=>by
  show _=KI f (g a)+a_ l _;rw[Ii];cases e:g a with|none=>rw[LC g f l];show _=(0:ak)+_;grind|some b=>show f b+a_ (l.filterMap g) f=f b+_;rw[LC g f l]
def FZ(d:β)(G:α×β->ak):∀(c:af α) (m:af β) (k:ag),c.length=m.length->a_ (c.zip m) G=a_ (bj k c) λq=>G (q.2,m.getD (q.1- k) d)
 |[],_,_,_=>aa|a::c,[],_,h=>by simp at h|a::c,b::m,k,h=>by show G (a,b)+a_ (c.zip m) G=G (a,(b::m).getD (k- k) d)+a_ (bj (k+1) c) _;rw[FZ d G c m (k+1) (by simpa using h),Oh];show _=G (a,b)+_;congr 1;refine fF λq o=>?_;obtain⟨j,f,e⟩:=iC o;have:=lu (n:=k+1) (l:=c) (i:=j) (p:=q) (by rw[<-e];exact cK f);have g:q.1- k=(q.1-(k+1))+1:=(by left);rw[g,Ie]
def BY(v:ag)(q:dM×dq):aJ (dM×ag×dq):=if gA q.2=ao then aq else if(pU q.1 q.2).2.1=v then ai (q.1,(pU q.1 q.2).1,(pU q.1 q.2).2.2)else aq
def Lv(n:fY)(a:af dq)(v:ag):kD n a v=(n.edges.zip a).filterMap (BY v):=aa
structure ic(n:aR)(fr:bF)(fs:af dq):Prop where
 a4:iu fr
 is:jR fr fs
 a2:fs.length=n.a.length
def ic.tl(h:ic n fr fs):fr.a.length=n.a.length:=by rw[h.is.a3,h.a2]
def ic.at(h:ic n fr fs)(d:q∈bj 0 n.a):cM (fs.getD q.1 aU)/\((fr.a.getD q.1 0:ah):ak)=aN (fs.getD q.1 aU)*fr.b/\(gA (fs.getD q.1 aU)=ao↔fr.a.getD q.1 0=0)/\(xY (fs.getD q.1 aU)=ao↔0<fr.a.getD q.1 0):=by have c:=(eM.mp<|jN d).1;have b:cM (fs.getD q.1 aU):=h.is.a1.a0 q.1;have a:=h.is.a2 q.1 (by rw[h.a2];exact c);have a:((fr.a.getD q.1 0:ah):ak)=aN (fs.getD q.1 aU)*fr.b:=a;have d:=kU.mpr h.is.a0;refine(b,a,?_,?_);grind[nQ,sZ,aN,ux];rw[ug b,<-kU,a];constructor;(solve_by_elim[uw]);intro z;by_cases w:0<aN (fs.getD q.1 aU);exact w;have:=CK (x_ d) (show aN (fs.getD q.1 aU)<=0 by grind);grind
def R7(hn:bw n)(h:ic n fr fs)(t:q∈bj 0 n.a)(v:ag)(T:dM×ag×dq->ak)(b:ak->ag->ak)
  (hT:∀(c:ag) (x:dq),cM x->T (bU q.2,c,x)=b (aN x) c)(r:∀c,b 0 c=0)(m:∀y c,b (y*fr.b) c=b y c*fr.b):
  KI T (BY v (bU q.2,fs.getD q.1 aU))*fr.b=if v=fc (fr.a.getD q.1 0) q.2 then b (((fr.a.getD q.1 0).natAbs:ag):ak) (hH (fr.a.getD q.1 0) q.2)else 0:=by
 obtain⟨o,k,i,j⟩:=h.at t;unfold BY;by_cases z:fr.a.getD q.1 0=0;rw[aG<|i.mpr z];show(0:ak)*_=_;nofun;rw[aE<|λe=>z<|i.mp e];by_cases p:0<fr.a.getD q.1 0;have d:pU (bU q.2) (fs.getD q.1 aU)=(q.2.b,q.2.a,fs.getD q.1 aU):=aG<|j.mpr p;have g:fc (fr.a.getD q.1 0) q.2=q.2.a:=aG p;have f:hH (fr.a.getD q.1 0) q.2=q.2.b:=aG p;have a:(((fr.a.getD q.1 0).natAbs:ag):ak)=((fr.a.getD q.1 0:ah):ak):=by
  have:(((fr.a.getD q.1 0).natAbs:ag):ah)=fr.a.getD q.1 0:=!_
  conv=>rhs;rw[<-this]
  rfl
 rw[d,g,f,a,k];dsimp only;by_cases e:q.2.a=v;rw[aG e,aG e.symm];show T (bU q.2,q.2.b,fs.getD q.1 aU)*_=_;(simp only[*]);rw[aE e,aE λq=>e q.symm];show(0:ak)*_=0;nofun;have d:pU (bU q.2) (fs.getD q.1 aU)=(q.2.a,q.2.b,dS (cG (-1))<|fs.getD q.1 aU):=aE<|λe=>p<|j.mp e;have g:fc (fr.a.getD q.1 0) q.2=q.2.b:=aE p;have f:hH (fr.a.getD q.1 0) q.2=q.2.a:=aE p;have a:(((fr.a.getD q.1 0).natAbs:ag):ak)=(-1*aN (fs.getD q.1 aU))*fr.b:=by
  have l:(((fr.a.getD q.1 0).natAbs:ag):ah)= -(fr.a.getD q.1 0):=();have s:(((fr.a.getD q.1 0).natAbs:ag):ak)=((-(fr.a.getD q.1 0):ah):ak):=by rw[<-l];rfl
  left
 rw[d,g,f,a];dsimp only;by_cases e:q.2.b=v;rw[aG e,aG e.symm];show T (bU q.2,q.2.a,dS (cG (-1))<|fs.getD q.1 aU)*_=_;(simp only[*,gK,iw,uh]);rw[aE e,aE λq=>e q.symm];show(0:ak)*_=0;lia
def FV(hn:bw n)(h:ic n fr fs)(v:ag)(T:dM×ag×dq->ak)(b:bB->ak->ag->ak)
  (hT:∀q∈bj 0 n.a,∀(c:ag) (x:dq),cM x->T (bU q.2,c,x)=b q.2 (aN x) c)(i:∀e c,b e 0 c=0)(g:∀e y c,b e (y*fr.b) c=b e y c*fr.b):
  a_ (kD (aW n) fs v) T*fr.b=a_ (bj 0 n.a) λq=>if v=fc (fr.a.getD q.1 0) q.2 then b q.2 (((fr.a.getD q.1 0).natAbs:ag):ak) (hH (fr.a.getD q.1 0) q.2)else 0:=by
 rw[Lv,LC];have m:(aW n).edges.length=fs.length:=by rw[h.a2];simp[aW]
 rw[FZ aU _ _ _ 0 m];have e:∀x:ak,x*(fr.b:ak)=(fr.b:ak)*x:=λx=>by grind
 rw[e,<-lC];have j:∀G:ag×dM->ak,a_ (bj 0 (aW n).edges) G=a_ (bj 0 n.a) λq=>G (q.1,bU q.2):=by
  have d:∀(l:af bB) (k:ag) (G:ag×dM->ak),a_ (bj k<|l.map bU) G=a_ (bj k l) λq=>G (q.1,bU q.2):=by
   intro l;induction l with|nil=>intro _ _;rfl|cons a l f=>intro k G;show G (k,bU a)+a_ (bj (k+1)<|l.map bU) G=_;rw[f];rfl
  exactλG=>d n.a 0 G
 rw[j];refine fF λq o=>?_;rw[<-e];dsimp only;rw[uD];exact R7 hn h o v T (b q.2) (hT q o) (i q.2)<|g q.2
def VG(hn:bw n)(h:ic n fr fs)(v:ag):∀q∈kD (aW n) fs v,cM q.1.gives/\cM q.2.2/\q.2.1<n.b.length:=λq a=>by rw[Lv]at a;obtain⟨p,g,e⟩:=H_.mp a;obtain⟨f,d⟩:=gd (show (Prod.mk p.1 p.2)∈_ from g);have c:=B_ hn p.1 f;rw[ly]at c;unfold BY at e;split at e;cases e;split at e;cases e;refine(c.i,?_,?_);show cM (pU p.1 p.2).2.2;unfold pU;split;exact h.is.a1 _ d;exact gK _ _;show(pU p.1 p.2).1<_;unfold pU;split;exact c.a;exact c.b;cases e
def Gg(e:bB):aN (bU e).gives=mH e:=by show aN (aQ _ _)=_;rw[fV];rfl
def Km(e:bB):aN (bU e).room=e.k:=by show aN (cG _)=_;rw[vM]
def S7(hn:bw n)(h:ic n fr fs)(m:v<n.b.length):kD (aW n) fs v=[]↔gE (iq n fr) v v=0:=by
 have c:=FV hn h v (λq=>aN q.2.2) (λ_ y _=>y) (λ_ _ _ _ _=>aa) (λ_ _=>aa)<|λ_ _ _=>aa;have f:((gE (iq n fr) v v:ah):ak)=(cj n).b*(a_ (kD (aW n) fs v) (λq=>aN q.2.2)*fr.b):=by unfold iq;rw[LG hn h.a4 h.tl !_,wX,c,<-lC];refine fF λq hq=>?_;obtain⟨t,_,_⟩:=Cf (hn.a _<|eJ hq)<|fr.a.getD q.1 0;rw[WM hn hq];unfold nM;(split<;>grind?)
 have r:=kU.mpr (tS hn).1;have o:=kU.mpr h.is.a0;constructor;intro e;rw[e]at f;have:((gE (iq n fr) v v:ah):ak)=0:=by rw[f];show _*((0:ak)*_)=0;nofun
 (simp at*;omega);intro e;rw[e]at f;have z:a_ (kD (aW n) fs v) (λq=>aN q.2.2)=0:=by grind[cj,a_,aW,aN,ux]
 have g:∀q∈kD (aW n) fs v,0<aN q.2.2:=λq hq=>by rw[Lv]at hq;obtain⟨p,b,e⟩:=H_.mp hq;obtain⟨k,j⟩:=gd (show (Prod.mk p.1 p.2)∈_ from b);have d:=h.is.a1 _ j;unfold BY at e;split at e;cases e;rename_i i;split at e;cases e;show 0<aN (pU p.1 p.2).2.2;unfold pU;rw[nQ d]at i;split;rename_i b;exact(ug d).mp b;rename_i b;rw[ug d]at b;show 0<aN (dS _ _);rw[iw,uh];grind;cases e
 cases s:kD (aW n) fs v with|nil=>rfl|cons a l=>grind[CP,x_]
structure zO(n:aR)(bs:Hi):Prop where
 a:∀v,v<n.b.length->mT bs v=(gw n v).map cG
def oG(n:aR)(a:bF)(v:ag):ak:=if jq n (iq n a) v then 1 else a.b
def UM(h:ic n fr fs)(v:ag):0<oG n fr v:=by unfold oG;split;decide;exact kU.mpr h.is.a0
def BJ(hn:bw n)(h:ic n fr fs)(z:zO n bs)(f:v<n.b.length)(x:ag->ak):
  dI (nS (aW n) fs bs v)/\(nS (aW n) fs bs v).length=n.b.length+1/\(aS n.b.length λj=>jt n fr v j*x j)=oG n fr v*dP n.b.length (nS (aW n) fs bs v) x/\jt n fr v n.b.length=oG n fr v*bM (nS (aW n) fs bs v) n.b.length:=by
 have G:((0:ah):ak)=0:=aa;have F:((1:ah):ak)=1:=aa;have d:∀b:jq n (iq n fr) v,(aS n.b.length λj=>jt n fr v j*x j)=x v:=λb=>by rw[kA f λj r i=>by rw[xG b,aE (by lia),aE i,G];nofun,xG b,aE !_,aG aa,F];nofun
 have s:dI ((cg (n.b.length+1) aU).set v<|cG 1):=CL (CM _)<|pQ _;unfold nS;rw[ly,z.a v f];dsimp only;cases p:gw n v with
 |some t=>
  have b:jq n (iq n fr) v:=.inl (by rw[p];rfl);show dI (((cg (n.b.length+1) aU).set v<|cG 1).set n.b.length<|cG t)/\_;refine(CL s<|pQ _,(),?_,?_)
  ·rw[d b];unfold oG;rw[aG b];have:dP n.b.length (((cg (n.b.length+1) aU).set v<|cG 1).set n.b.length<|cG t) x=dP n.b.length ((cg (n.b.length+1) aU).set v<|cG 1) x:=eP λj r=>by rw[vP (),aE ()]
   (nofun;grind?[dP,GU])
  all_goals simp[*,oG,xG,vP,vM]
 |none=>
  show dI (match kD (aW n) fs v with|[]=>_|l=>_)/\_;have k:=S7 hn h f;cases g:kD (aW n) fs v with
  |nil=>
   have b:jq n (iq n fr) v:=.inr<|k.mp g;show dI ((cg (n.b.length+1) aU).set v<|cG 1)/\_;refine(s,(),?_,?_);·grind[oG,dP,GU]
   ·unfold oG;rw[aG b,xG b,aG aa,p];show _=1*bM ((cg (n.b.length+1) aU).set v<|cG 1) _;rw[vP (by simp;symm),aE !_,vQ];nofun
  |cons a l=>
   have b:¬jq n (iq n fr) v:=by rintro (q|q);all_goals nofun
   obtain⟨D,C,B,A⟩:=VH f x (kD (aW n) fs v) (cg (n.b.length+1) aU) (VG hn h v) (CM _) ();rw[<-g];have H:(match a::l with|[]=>(cg (n.b.length+1) aU).set v (cG 1)|l=>l.foldl (mG n.b.length v)<|cg (n.b.length+1) aU)=(kD (aW n) fs v).foldl (mG n.b.length v) (cg (n.b.length+1) aU):=by rw[g]
   have o:(match kD (aW n) fs v with|[]=>(cg (n.b.length+1) aU).set v (cG 1)|l=>l.foldl (mG n.b.length v)<|cg (n.b.length+1) aU)=(kD (aW n) fs v).foldl (mG n.b.length v) (cg (n.b.length+1) aU):=by rw[g]
   show dI (match kD (aW n) fs v with|[]=>(cg (n.b.length+1) aU).set v (cG 1)|l=>l.foldl (mG n.b.length v)<|cg (n.b.length+1) aU)/\(match kD (aW n) fs v with|[]=>(cg (n.b.length+1) aU).set v (cG 1)|l=>l.foldl (mG n.b.length v)<|cg (n.b.length+1) aU).length=_/\_=oG n fr v*dP _ (match kD (aW n) fs v with|[]=>(cg (n.b.length+1) aU).set v (cG 1)|l=>l.foldl (mG n.b.length v)<|cg (n.b.length+1) aU) x/\_=oG n fr v*bM (match kD (aW n) fs v with|[]=>(cg (n.b.length+1) aU).set v (cG 1)|l=>l.foldl (mG n.b.length v)<|cg (n.b.length+1) aU) _;rw[o];have w:dP n.b.length (cg (n.b.length+1) aU) x=0:=mn λj _=>by rw[vQ];lia
   refine(D,C,?_,?_)
   ·unfold oG;rw[aE b,B,w];have m:=FV hn h v (λq=>aN q.2.2*(x v-(1- aN q.1.gives)*x q.2.1)) (λe y c=>y*(x v-(1- mH e)*x c)) (λq _ c y _=>by show _*(_-(1- aN (bU q.2).gives)*_)=_;rw[Gg]) (λ_ _=>())<|λ_ _ _=>();have e:∀y:ak,(fr.b:ak)*(0+y)=y*fr.b:=λy=>by grind
    rw[e,m];have E:(aS n.b.length λj=>jt n fr v j*x j)=aS n.b.length λj=>a_ (bj 0 n.a) λq=>nM n.b.length (fr.a.getD q.1 0) q.2 v j*x j:=eP λj _=>by
     rw[Co b];have u:∀y:ak,y*x j=x j*y:=λy=>by grind
     rw[u,<-lC];exact fF λq _=>u _▸aa
    rw[E,ue];refine fF λq M=>?_;obtain⟨L,K,J⟩:=Cf (hn.a _<|eJ M)<|fr.a.getD q.1 0;by_cases e:v=fc (fr.a.getD q.1 0) q.2
    ·rw[aG e];have I:(aS n.b.length λj=>nM n.b.length (fr.a.getD q.1 0) q.2 v j*x j)=(((fr.a.getD q.1 0).natAbs:ag):ak)*((aS n.b.length λj=>if j=fc (fr.a.getD q.1 0) q.2 then x j else 0)- aS n.b.length λj=>if j=hH (fr.a.getD q.1 0) q.2 then(1- mH q.2)*x j else 0):=by rw[<-vN,<-fD];refine eP λj r=>?_;unfold nM;grind
     grind[kA]
    ·rw[aE e];exact mn λj _=>by unfold nM;rw[aE e];lia
   ·unfold oG;rw[aE b,A,vQ];have m:=FV hn h v (λq=>aN q.2.2*(aN q.1.gives*aN q.1.room)) (λe y c=>y*(mH e*e.k)) (λq _ c y _=>by show _*(aN (bU q.2).gives*aN (bU q.2).room)=_;rw[Gg,Km]) (λ_ _=>())<|λ_ _ _=>();have e:∀y:ak,(fr.b:ak)*(0+y)=y*fr.b:=λy=>by grind
    rw[e,m,Co b];refine fF λq _=>?_;unfold nM;lia
def Ul(hn:bw n)(h:ic n fr fs)(c:zO n bs):((bP n.b.length).map<|nS (aW n) fs bs).length=n.b.length/\∀r∈(bP n.b.length).map (nS (aW n) fs bs),dI r/\r.length=n.b.length+1:=by refine((),λr b=>?_);obtain⟨v,a,rfl⟩:=cJ.mp b;obtain⟨e,d,_,_⟩:=BJ hn h c (jz.mp a) λ_=>0;symm
def EA(hn:bw n)(h:ic n fr fs)(c:zO n bs)(e:jf n fr=ai r):∃b,xW (aW n) fs bs=ai b/\jR r b/\b.length=n.b.length:=by
 unfold jf at e;rw[Be hn h.a4 h.tl]at e;obtain⟨t,F⟩:=(JI hn h.a4 h.tl).a3 e;obtain⟨g,f⟩:=Ul hn h c;have o:=eZ F.b;have k:=Xn g f (λv m=>F.f v λi a=>by
  obtain⟨_,_,d,_⟩:=BJ hn h c a v;rw[d,m _<|cJ.mpr (i,jz.mpr a,aa)];nofun) (x:=λl=>(t l:ak)/r.b) λq y=>by
   obtain⟨i,a,rfl⟩:=cJ.mp y;have a:=jz.mp a;obtain⟨_,_,d,u⟩:=BJ hn h c a λl=>(t l:ak)/r.b;have w:=UM h i;have s:=F.e i a;have p:(aS n.b.length λj=>jt n fr i j*((t j:ak)/r.b))=jt n fr i n.b.length:=by
    have:(aS n.b.length λj=>jt n fr i j*((t j:ak)/r.b))=(r.b:ak)⁻¹ *aS n.b.length λj=>jt n fr i j*t j:=by rw[<-fD];exact eP λj _=>by rw[rR];grind
    rw[this,s];have:(r.b:ak)*(r.b:ak)⁻¹ =1:=X' _ o;grind
   rw[d,u]at p;unfold iN;have:oG n fr i*(dP n.b.length (nS (aW n) fs bs i) (λl=>(t l:ak)/r.b)- bM (nS (aW n) fs bs i) n.b.length)=0:=();rcases ux.mp this with q|q;nofun;symm
 refine((bP n.b.length).map λi=>nP<|(t i:ak)/r.b,?_,(?_,F.b,BV _ _,λi a=>?_),());unfold xW;simp[*,ly];rw[F.a];simp;simp at a;rw[vl _ a,F.a,gO,cV,S1 a];grind
def Rx(hn:bw n)(h:ic n fr fs)(l:zO n bs)(e:jf n fr=aq):xW (aW n) fs bs=aq:=by
 unfold jf at e;rw[Be hn h.a4 h.tl]at e;obtain⟨c,k,o,J,G⟩:=(JI hn h.a4 h.tl).a4 e;obtain⟨w,m⟩:=Ul hn h l;cases q:xW (aW n) fs bs with|none=>rfl|some I=>
  exfalso;unfold xW at q;rw[ly]at q;obtain⟨_,_,_,g⟩:=GJ w m q;let d:=(bP n.b.length).map λv=>(nS (aW n) fs bs v).set n.b.length (if v=k then cG 1 else aU);have B:∀v,v<n.b.length->dI (nS (aW n) fs bs v)/\(nS (aW n) fs bs v).length=n.b.length+1:=λv a=>m _<|cJ.mpr (v,jz.mpr a,aa);have s:∀v,v<n.b.length->∀x,dP n.b.length ((nS (aW n) fs bs v).set n.b.length (if v=k then cG 1 else aU)) x=dP n.b.length (nS (aW n) fs bs v) x:=λv a x=>eP λj p=>by rw[vP ∅,aE !_]
  obtain⟨b,_,_,_,F⟩:=MJ (n:=n.b.length) (rows:=d) () (λr f=>by obtain⟨v,a,rfl⟩:=cJ.mp f;have:=B v<|jz.mp a;refine(CL this.1 (by split;exact pQ _;exact qL),by rw[j'];exact this.2)) λx A=>(g x).mp λr f=>by obtain⟨v,a,rfl⟩:=cJ.mp f;have a:=jz.mp a;rw[<-s v a x];exact A _<|cJ.mpr (v,jz.mpr a,aa)
  have E:=(F<|bM b).mpr λ_ _=>aa;have D:∀v,v<n.b.length->dP n.b.length (nS (aW n) fs bs v) (bM b)=if v=k then 1 else 0:=λv a=>by have:=E _<|cJ.mpr (v,jz.mpr a,aa);unfold iN at this;rw[s v a,vP (by ac_rfl),aG aa]at this;split at this;rename_i z;rw[aG z];rw[EB]at this;grind;rename_i z;rw[aE z];rw[pO]at this;left
  have t:(aS n.b.length λj=>(aS n.b.length λr=>c r*jt n fr r j)*bM b j)=0:=mn λj p=>by rw[G j p];nofun
  have C:(aS n.b.length λj=>(aS n.b.length λr=>c r*jt n fr r j)*bM b j)=aS n.b.length λr=>c r*aS n.b.length λj=>jt n fr r j*bM b j:=by
   have H:(aS n.b.length λj=>(aS n.b.length λr=>c r*jt n fr r j)*bM b j)=aS n.b.length λj=>aS n.b.length λr=>c r*(jt n fr r j*bM b j):=eP λj _=>by
    have:∀y:ak,y*bM b j=bM b j*y:=λy=>by grind
    rw[this,<-fD];exact eP λr _=>by grind
   rw[H,RX];simp_all[eP,fD]
  rw[C]at t;rw[kA o λr f i=>by obtain⟨_,_,u,_⟩:=BJ hn h l f<|bM b;rw[u,D r f,aE i];nofun]at t;obtain⟨_,_,u,_⟩:=BJ hn h l o<|bM b;(nofun;grind?[UM,oG,ux])
def vA(wr:bF)(f a:ah)(e:bB):ah:=(f.natAbs:ah)*a*(wr.a.getD (hH f e) 0- e.k*wr.b)
def zB(wr:bF)(b f a:ah)(e:bB):ah:=(f.natAbs:ah)*b*(wr.a.getD (fc f e) 0- wr.a.getD (hH f e) 0)+vA wr f a e
def xb(n:aR)(v:ag):da:=(gw n v).isSome
def q0{q:ag×bB}{l:af (ag×bB)}(d:q.1∉l.map (·.1)):l.find? (λx=>x.1==q.1)=aq:=List.find?_eq_none.mpr λx m=>by simp;exact λe=>d (cJ.mpr (x,m,e))
def At(hn:bw n)(y:bF)(b:ah)(a c:af ah):∀(l:af (ag×bB)) (t:af ah×af ah),(∀q∈l,q.1<t.1.length/\gT n.b.length q.2)->(l.map (·.1)).Nodup->t.2.length=n.b.length->
  (∀i,((l.flatMap<|jF a c).foldl (jn n y b) t).1.getD i 0=match l.find? (λq=>q.1==i)with|none=>t.1.getD i 0|some q=>if a.getD q.1 0=0 then t.1.getD i 0 else vA y (a.getD q.1 0) (c.getD q.1 0) q.2)/\
  (∀v,((l.flatMap<|jF a c).foldl (jn n y b) t).2.getD v 0=t.2.getD v 0+if xb n v=ao then(l.map λq=>if v=fc (a.getD q.1 0) q.2 then zB y b (a.getD q.1 0) (c.getD q.1 0) q.2 else 0).sum else 0):=by
 intro l;induction l with|nil=>intro t _ _ _;exact(λi=>aa,λv=>())|cons q l k=>
  intro t A r j;have h:=A q (_);have d:q.1∉l.map (·.1)/\(l.map (·.1)).Nodup:=();rw[uK,rV];rcases E1 a c q with⟨z,e⟩|⟨z,e⟩
  ·rw[e];obtain⟨p,m⟩:=k t (λx g=>A x<|cO _ g) d.2 j;refine(λi=>?_,λv=>?_)
   ·show(uJ (jn n y b) t (l.flatMap<|jF a c)).1.getD i 0=_;rw[p i,List.find?_cons];by_cases g:q.1=i
    ·subst g;rw[q0 d.1,beq_self_eq_true];exact(aG z).symm
    ·simp only[beq_false_of_ne g]
   ·show(uJ (jn n y b) t (l.flatMap<|jF a c)).2.getD v 0=_;have w:zB y b 0 (c.getD q.1 0) q.2=0:=by simp[zB,vA]
    rw[m v,eE,qW,z,w,ite_self,Int.zero_add]
  ·rw[e];show(∀i,(uJ (jn n y b) (jn n y b t _) _).1.getD i 0=_)/\_;have f:(jn n y b t (q.1,hH (a.getD q.1 0) q.2,fc (a.getD q.1 0) q.2,((a.getD q.1 0).natAbs:ah),c.getD q.1 0,q.2.k)).1.length=t.1.length/\(jn n y b t (q.1,hH (a.getD q.1 0) q.2,fc (a.getD q.1 0) q.2,((a.getD q.1 0).natAbs:ah),c.getD q.1 0,q.2.k)).2.length=t.2.length:=by grind[jn]
   obtain⟨p,m⟩:=k (jn n y b t (q.1,hH (a.getD q.1 0) q.2,fc (a.getD q.1 0) q.2,((a.getD q.1 0).natAbs:ah),c.getD q.1 0,q.2.k)) (λx g=>by rw[f.1];exact A x<|cO _ g) d.2 (by simp only[*]);obtain⟨_,_,w⟩:=Cf h.2<|a.getD q.1 0;refine(λi=>?_,λv=>?_)
   ·have s:(jn n y b t (q.1,hH (a.getD q.1 0) q.2,fc (a.getD q.1 0) q.2,((a.getD q.1 0).natAbs:ah),c.getD q.1 0,q.2.k)).1.getD i 0=if i=q.1 then vA y (a.getD q.1 0) (c.getD q.1 0) q.2 else t.1.getD i 0:=vB h.1 _ _ _
    rw[p i,s,List.find?_cons];by_cases g:q.1=i
    ·subst g;rw[q0 d.1,beq_self_eq_true,aG aa];exact(aE z).symm
    ·simp only[beq_false_of_ne g,aE (dZ g)]
   ·show(uJ (jn n y b) (jn n y b t _) _).2.getD v 0=_;rw[m v,eE,qW];have u:(jn n y b t (q.1,hH (a.getD q.1 0) q.2,fc (a.getD q.1 0) q.2,((a.getD q.1 0).natAbs:ah),c.getD q.1 0,q.2.k)).2.getD v 0=t.2.getD v 0+if xb n v=ao then(if v=fc (a.getD q.1 0) q.2 then zB y b (a.getD q.1 0) (c.getD q.1 0) q.2 else 0)else 0:=by
     unfold jn;dsimp only;by_cases o:(gw n (fc (a.getD q.1 0) q.2:ag)).isSome=ao
     ·rw[aG o,vB (by (repeat' split)<;>nofun)];by_cases s:v=fc (a.getD q.1 0) q.2;·subst s;have:xb n (fc (a.getD q.1 0) q.2)=ao:=o;rw[aG aa,aG this,aG aa];rfl
      ·rw[aE s,aE s];simp
     ·rw[aE o];by_cases s:v=fc (a.getD q.1 0) q.2
      ·subst s;have:¬xb n (fc (a.getD q.1 0) q.2)=ao:=o;rw[aE this];simp
      ·rw[aE s];simp
    rw[u,Int.add_assoc];split<;>simp
def tU(n:aR)(b a:af dq)(c:Hi):af dq:=((aW n).edges.zip b).map (λq=>wb a q.1 q.2)++(bP n.b.length).map λv=>if(mT c v).isSome=ao then wd (aW n) b a v else aU
def Vp(h:dI l):cM (CW l)/\aN (CW l)=a_ l aN:=by
 have c:∀(l:af dq) (a:dq),dI l->cM a->cM (l.foldl iP a)/\aN (l.foldl iP a)=aN a+a_ l aN:=by
  intro l;induction l with|nil=>intro a _ ha;exact(ha,by show aN a=aN a+0;grind)|cons x l f=>intro a d ha;obtain⟨b,e⟩:=f (iP a x) (λy g=>d y<|cO _ g)<|vS _ _;refine(b,?_);rw[fO,e,ud ha<|d x (_)];(simp only[aN,a_];grind?)
 obtain⟨b,e⟩:=c l aU h qL;refine(b,?_);unfold CW;grind?[pO]
def QW(hl:fs.length=n.a.length)(a:n.a[i]?=ai e):((aW n).edges.zip fs)[i]?=ai (Prod.mk (bU e)<|fs.getD i aU):=by have b:=(eM.mp a).1;refine DI.mpr (?_,?_);show(n.a.map bU)[i]?=_;nofun;nofun
def xl{l:af α}{a:α}(h:l[i]?=ai a):(i,a)∈bj 0 l:=by
 have b:=(eM.mp h).1;have:i<(bj 0 l).length:=by rw[nI];exact b
 have g:=lu (n:=0) (l:=l) (i:=i)<|cK this;grind
def T9(hn:bw n)(h:ic n fr fs)(t:jR wr ts)(c:ts.length=n.b.length)(u:q∈bj 0 n.a):
  cM (wb ts (bU q.2)<|fs.getD q.1 aU)/\((if fr.a.getD q.1 0=0 then 0 else vA wr (fr.a.getD q.1 0) ((cj n).a.getD q.1 0) q.2:ah):ak)=aN (wb ts (bU q.2)<|fs.getD q.1 aU)*((fr.b*wr.b*(cj n).b:ah):ak):=by
 obtain⟨s,i,l,j⟩:=h.at u;have k:=hn.a _<|eJ u;have m:=eZ t.a0;unfold wb;by_cases z:fr.a.getD q.1 0=0;simp_all[qL,pO];rw[aE<|λe=>z<|l.mp e,aE z];refine(gK _ _,?_);have d:cM (bU q.2).room:=pQ _;have o:=Fu hn u;rw[iw,iw,qI (t.a1.a0 _) d,Gg,Km];unfold vA;rw[dF,dF,dF,dF,qR,dF,o];by_cases p:0<fr.a.getD q.1 0;have f:pU (bU q.2) (fs.getD q.1 aU)=(q.2.b,q.2.a,fs.getD q.1 aU):=aG<|j.mpr p;have g:hH (fr.a.getD q.1 0) q.2=q.2.b:=aG p;have b:((((fr.a.getD q.1 0).natAbs:ag):ah):ak)=((fr.a.getD q.1 0:ah):ak):=();have a:=t.a2 q.2.b (by rw[c];exact k.b);rw[f,g,b,i];dsimp only;rw[a];show _=aN (fs.getD q.1 aU)*(mH q.2*(bM ts q.2.b- _))*_;grind;have f:pU (bU q.2) (fs.getD q.1 aU)=(q.2.a,q.2.b,dS (cG (-1))<|fs.getD q.1 aU):=aE<|λe=>p<|j.mp e;have g:hH (fr.a.getD q.1 0) q.2=q.2.a:=aE p;have b:((((fr.a.getD q.1 0).natAbs:ag):ah):ak)=(-1*aN (fs.getD q.1 aU))*fr.b:=by have r:(((fr.a.getD q.1 0).natAbs:ag):ah)= -(fr.a.getD q.1 0):=();rw[r,Dg,i];grind
 have a:=t.a2 q.2.a (by rw[c];exact k.a);rw[f,g,b];dsimp only;rw[a,iw,uh];show _=(-1*aN (fs.getD q.1 aU))*(mH q.2*(bM ts q.2.a- _))*_;grind
def N5(hn:bw n)(h:ic n fr fs)(z:jR wr ts)(d:ts.length=n.b.length)(r:v<n.b.length):
  cM (wd (aW n) fs ts v)/\((((bj 0 n.a).map λq=>if v=fc (fr.a.getD q.1 0) q.2 then zB wr (cj n).b (fr.a.getD q.1 0) ((cj n).a.getD q.1 0) q.2 else 0).sum:ah):ak)=aN (wd (aW n) fs ts v)*((fr.b*wr.b*(cj n).b:ah):ak):=by
 have f:=VG hn h v;have a:dI ((kD (aW n) fs v).map λq=>dS q.2.2<|gW (ts.getD v aU)<|gW (ts.getD q.2.1 aU)<|dS q.1.gives<|gW (ts.getD q.2.1 aU) q.1.room):=λx b=>by obtain⟨q,_,rfl⟩:=cJ.mp b;exact gK _ _
 obtain⟨k,j⟩:=Vp a;refine(k,?_);have m:aN (wd (aW n) fs ts v)=a_ (kD (aW n) fs v) λq=>aN<|dS q.2.2<|gW (ts.getD v aU)<|gW (ts.getD q.2.1 aU)<|dS q.1.gives<|gW (ts.getD q.2.1 aU) q.1.room:=by show aN (CW _)=_;rw[j,pR]
 have g:=FV hn h v (λq=>aN<|dS q.2.2<|gW (ts.getD v aU)<|gW (ts.getD q.2.1 aU)<|dS q.1.gives<|gW (ts.getD q.2.1 aU) q.1.room) (λe y c=>y*(bM ts v-(bM ts c- mH e*(bM ts c- e.k)))) (λq _ c y p=>by show aN (dS y<|gW (ts.getD v aU)<|gW (ts.getD c aU)<|dS (bU q.2).gives<|gW (ts.getD c aU) (bU q.2).room)=_;rw[iw,qI (z.a1.a0 _)<|vT _ _,qI (z.a1.a0 _)<|gK _ _,iw,qI (z.a1.a0 _) (show cM (bU q.2).room from pQ _),Gg,Km];rfl) (λ_ _=>())<|λ_ _ _=>();rw[m,dF,dF];have l:∀y:ak,y*((fr.b:ak)*wr.b*(cj n).b)=(wr.b*(cj n).b:ak)*(y*fr.b):=λy=>by grind
 rw[l,g,wX,<-lC];refine fF λq A=>?_;have i:=hn.a _<|eJ A;obtain⟨_,u,t⟩:=Cf i<|fr.a.getD q.1 0;have s:=Fu hn A;by_cases e:v=fc (fr.a.getD q.1 0) q.2;rw[aG e,aG e];unfold zB vA;rw[<-e];have B:=z.a2 v ∅;have o:=z.a2 (hH (fr.a.getD q.1 0) q.2) ∅;have w:((((fr.a.getD q.1 0).natAbs:ag):ah):ak)=(((fr.a.getD q.1 0).natAbs:ag):ak):=aa;left;nofun
def V7{l:af α}{a:α}(h:l[i]?=ai a):(bj 0 l).find? (λq=>q.1==i)=ai (i,a):=by
 have b:=xl h;cases e:(bj 0 l).find? (λq=>q.1==i)with
 |none=>left|some q=>grind?[ZT,jN,kX]
def UT(hn:bw n)(h:ic n fr fs)(o:zO n bs)(w:jR wr ts)(d:ts.length=n.b.length):jR (mF n fr wr) (tU n fs ts bs):=by
 have a:∀N i:ag,(cg N (0:ah)).getD i 0=0:=λN i=>by rw[gO,DJ];split<;>rfl
 obtain⟨r,p⟩:=At hn wr (cj n).b fr.a (cj n).a (bj 0 n.a) (cg n.a.length 0,cg n.b.length 0) (λq y=>(by simp;exact(eM.mp<|jN y).1,hn.a _<|eJ y)) (by rw[Gb];exact ZQ) ();have b:=FE n wr (cj n).b (iU n fr.a (cj n).a) (cg n.a.length 0,cg n.b.length 0);have l:(jL n wr (cj n).b<|iU n fr.a (cj n).a).1.length=n.a.length:=by rw[jL,b.1];simp
 have t:(jL n wr (cj n).b<|iU n fr.a (cj n).a).2.length=n.b.length:=by rw[jL,b.2];simp
 have s:((aW n).edges.zip fs).length=n.a.length:=by rw[kG,h.a2];simp[aW]
 have z:(tU n fs ts bs).length=n.a.length+n.b.length:=by simp[*,tU,hU,cb]
 have c:∀i,i<(tU n fs ts bs).length->cM ((tU n fs ts bs).getD i aU)/\(((mF n fr wr).a.getD i 0:ah):ak)=bM (tU n fs ts bs) i*(mF n fr wr).b:=λi e=>by
  rw[z]at e;unfold bM tU;show _/\(((_++_:af ah).getD i 0:ah):ak)=aN _*((fr.b*wr.b*(cj n).b:ah):ak);by_cases q:i<n.a.length
  ·have f:=cK q;have j:(((aW n).edges.zip fs).map (λq=>wb ts q.1 q.2)++(bP n.b.length).map λv=>if(mT bs v).isSome=ao then wd (aW n) fs ts v else aU).getD i aU=wb ts (bU n.a[i]) (fs.getD i aU):=by rw[gO,yr ∅,cV,QW h.a2 f];rfl
   have g:((jL n wr (cj n).b<|iU n fr.a (cj n).a).1++(jL n wr (cj n).b<|iU n fr.a (cj n).a).2).getD i 0=if fr.a.getD i 0=0 then 0 else vA wr (fr.a.getD i 0) ((cj n).a.getD i 0) n.a[i]:=by rw[gO,yr ∅,<-gO];have:=r i;rw[V7 f]at this;dsimp only at this;rw[a]at this;exact this
   rw[j,g];exact T9 hn h w d<|xl f
  ·have k:i- n.a.length<n.b.length:=!_;have j:(((aW n).edges.zip fs).map (λq=>wb ts q.1 q.2)++(bP n.b.length).map λv=>if(mT bs v).isSome=ao then wd (aW n) fs ts v else aU).getD i aU=if(mT bs<|i- n.a.length).isSome=ao then wd (aW n) fs ts (i- n.a.length)else aU:=∅
   have g:((jL n wr (cj n).b<|iU n fr.a (cj n).a).1++(jL n wr (cj n).b<|iU n fr.a (cj n).a).2).getD i 0=if xb n (i- n.a.length)=ao then((bj 0 n.a).map λq=>if i- n.a.length=fc (fr.a.getD q.1 0) q.2 then zB wr (cj n).b (fr.a.getD q.1 0) ((cj n).a.getD q.1 0) q.2 else 0).sum else 0:=by rw[gO,OB ∅,l,<-gO];have:=p<|i- n.a.length;dsimp only at this;rw[a,Int.zero_add]at this;exact this
   rw[j,g,o.a _ k];have m:(HN cG<|gw n (i- n.a.length:ag)).isSome=xb n (i- n.a.length):=by unfold xb;cases gw n (i- n.a.length:ag)<;>rfl
   rw[m];split;·exact N5 hn h w d k
   ·refine(qL,?_);rw[pO];have:((0:ah):ak)=0:=aa;rw[this];nofun
 refine(?_,fQ (fQ h.is.a0 w.a0) (tS hn).1,λx u=>?_,λi e=>(c i e).2);·show(_++_:af ah).length=_;nofun
 all_goals grind[iC,qa]
def Mj(P:α×β->da)(d:β)(Q:ag×α->da):∀(c:af α) (r:af β) (k:ag),c.length=r.length->(∀q∈bj k c,P (q.2,r.getD (q.1- k) d)=Q q)->(c.zip r).all P=(bj k c).all Q
 |[],_,_,_,_=>aa|a::c,[],_,h,_=>by simp at h|a::c,b::r,k,h,g=>by have f:=g (k,a) (by show (Prod.mk k a)∈(k,a)::_;simp);dsimp only at f;rw[Oh]at f;have f:P (a,b)=Q (k,a):=f;show(P (a,b)&&(c.zip r).all P)=(Q (k,a)&&(bj (k+1) c).all Q);rw[f,Mj P d Q c r (k+1) ∅ λq s=>?_];rw[<-g q<|cO _ s];obtain⟨j,m,e⟩:=iC s;have:=lu (n:=k+1) (l:=c) (i:=j) (p:=q) (by rw[<-e];exact cK m);have o:q.1- k=(q.1-(k+1))+1:=(by nofun;lia);rw[o,Ie]
def WH(hl:fs.length=n.a.length)(P:dM×dq->da)(Q:ag×bB->da)(h:∀q∈bj 0 n.a,P (bU q.2,fs.getD q.1 aU)=Q q):((aW n).edges.zip fs).all P=(bj 0 n.a).all Q:=by
 have e:((aW n).edges.zip fs)=(n.a.zip fs).map λq=>(bU q.1,q.2):=by show(n.a.map bU).zip fs=_;rw[ZL];rfl
 rw[e,wB];exact Mj _ aU Q n.a fs 0 hl.symm λq a=>by rw[uD];exact h q a
def Jm:∀(a:af α) (b:af β),a.zip b=(b.zip a).map λq=>(q.2,q.1)
 |[],[]=>aa|[],_::_=>aa|_::_,[]=>aa|x::a,y::b=>by show (Prod.mk x y)::a.zip b=(x,y)::(b.zip a).map _;rw[Jm a b]
def Mi{n:aR}{a:af ah}(b:a.length=n.a.length)(P:ah×bB->da)(Q:ag×bB->da)(h:∀q∈bj 0 n.a,P (a.getD q.1 0,q.2)=Q q):(a.zip n.a).all P=(bj 0 n.a).all Q:=by
 have e:(a.zip n.a).all P=(n.a.zip a).all λq=>P (q.2,q.1):=by rw[Jm,wB];rfl
 rw[e];exact Mj _ 0 Q n.a a 0 b.symm λq c=>by rw[uD];exact h q c
def B7{n:aR}{a:af ah}(b:a.length=n.a.length)(G:ah×bB->ak):a_ (a.zip n.a) G=a_ (bj 0 n.a) λq=>G (a.getD q.1 0,q.2):=by
 have e:a_ (a.zip n.a) G=a_ (n.a.zip a) λq=>G (q.2,q.1):=by rw[Jm,pR]
 rw[e,FZ 0 _ _ _ 0 b.symm];exact fF λq _=>by rw[uD]
def Lz(hl:fs.length=n.a.length)(G:dM×dq->ak):a_ ((aW n).edges.zip fs) G=a_ (bj 0 n.a) λq=>G (bU q.2,fs.getD q.1 aU):=by
 have e:((aW n).edges.zip fs)=(n.a.zip fs).map λq=>(bU q.1,q.2):=by show(n.a.map bU).zip fs=_;rw[ZL];rfl
 rw[e,pR,FZ aU _ _ _ 0 hl.symm];exact fF λq _=>by rw[uD]
def Vt(v:ag):∀(l:af (ah×bB)) (g:af ah),(∀q∈l,gT N q.2)->g.length=N->(((l.foldl lp g).getD v 0:ah):ak)=((g.getD v 0:ah):ak)+a_ l λq=> -((q.1:ak)*(dD q.2 v:ak))
 |[],g,_,_=>by show _=_+(0:ak);show((g.getD v 0:ah):ak)=_;grind|q::l,g,h,j=>by
  have d:=h q (_);have p:=d.b;have o:=d.a;have a:=d.c;rw[fO,Vt v l (lp g q) (λx i=>h x<|cO _ i) (by unfold lp;simp[j])];have e:(((lp g q).getD v 0:ah):ak)=((g.getD v 0:ah):ak)+ -((q.1:ak)*(dD q.2 v:ak)):=by unfold lp;rw[vB ∅,vB ∅,vB (by ac_rfl)];have n:((1:ah):ak)=1:=aa;have m:((-1:ah):ak)= -1:=aa;have k:((0:ah):ak)=0:=aa;rcases lk d v with⟨c,b⟩|⟨c,b⟩|⟨c,f,b⟩;subst c;rw[aE a,aG aa,b,n,qR];grind;subst c;rw[aG aa,aE<|λz=>a z.symm,b,m,rQ];grind;rw[aE f,aE c,b,k];grind
  rw[e];show _=_+(_+a_ l _);grind
def Ly(hn:bw n)(t:dI fs)(c:fs.length=n.a.length)(v:ag):cM (C_ (aW n) fs v)/\aN (C_ (aW n) fs v)=a_ (bj 0 n.a) λq=> -(aN (fs.getD q.1 aU)*(dD q.2 v:ak)):=by
 have p:∀(l:af (dM×dq)) (a:dq),(∀q∈l,cM q.2)->cM a->cM (l.foldl (λx q=>if q.1.b=v then iP x q.2 else if q.1.a=v then gW x q.2 else x) a)/\aN (l.foldl (λx q=>if q.1.b=v then iP x q.2 else if q.1.a=v then gW x q.2 else x) a)=aN a+a_ l λq=>if q.1.b=v then aN q.2 else if q.1.a=v then-(aN q.2)else 0:=by
  intro l;induction l with|nil=>intro a _ ha;exact(ha,by show aN a=aN a+0;grind)|cons q l m=>intro a c ha;have b:=c q (_);rw[fO];by_cases h:q.1.b=v;rw[aG h];obtain⟨f,d⟩:=m (iP a q.2) (λx g=>c x<|cO _ g)<|vS _ _;refine(f,?_);rw[d,ud ha b];show _=aN a+((if q.1.b=v then aN q.2 else _)+a_ l _);rw[aG h];grind;rw[aE h];by_cases k:q.1.a=v;rw[aG k];obtain⟨f,d⟩:=m (gW a q.2) (λx g=>c x<|cO _ g)<|vT _ _;refine(f,?_);rw[d,qI ha b];show _=aN a+((if q.1.b=v then aN q.2 else if q.1.a=v then _ else _)+a_ l _);rw[aE h,aG k];grind;rw[aE k];obtain⟨f,d⟩:=m a (λx g=>c x<|cO _ g) ha;refine(f,?_);rw[d];show _=aN a+((if q.1.b=v then aN q.2 else if q.1.a=v then _ else _)+a_ l _);rw[aE h,aE k];grind
 obtain⟨w,u⟩:=p ((aW n).edges.zip fs) aU (λq b=>t _ (gd (show (Prod.mk q.1 q.2)∈_ from b)).2) qL;refine(w,?_);unfold C_;rw[u,pO,Lz c];have e:∀x:ak,0+x=x:=λx=>by grind
 rw[e];refine fF λq b=>?_;have s:=hn.a _<|eJ b;show(if q.2.a=v then _ else if q.2.b=v then _ else _)=_;have o:=s.c;have B:((1:ah):ak)=1:=aa;have A:((-1:ah):ak)= -1:=aa;have y:((0:ah):ak)=0:=aa;rcases lk s v with⟨j,i⟩|⟨j,i⟩|⟨j,r,i⟩;subst j;rw[aE<|λz=>o z.symm,aG aa,i,B];lia;subst j;rw[aG aa,i,A];grind;rw[aE<|λz=>r z.symm,aE<|λz=>j z.symm,i,y];nofun
def Cm(hn:bw n)(h:jR r fs):jP n r.a=jV (aW n) fs:=by
 unfold jP jV;have w:(aW n).edges.length=n.a.length:=by simp[aW]
 rw[h.a3,w,ly];by_cases d:fs.length=n.a.length;congr 1;have m:(qx n r.a).length=n.b.length:=by
  have s:∀(l:af (ah×bB)) (g:af ah),(l.foldl lp g).length=g.length:=by
   intro l;induction l with|nil=>intro g;rfl|cons q l k=>intro g;rw[fO,k];unfold lp;simp
  unfold qx;rw[s];simp
 have D:qx n r.a=(bP n.b.length).map λv=>(qx n r.a).getD v 0:=by refine uL () λi p B=>?_;simp[qa,p]
 rw[D,wB];rw[xM,mw,mw];have j:∀v,aT ((qx n r.a).getD v 0=0)=gA (C_ (aW n) fs v):=λv=>by
  obtain⟨u,t⟩:=Ly hn h.a1 d v;have c:=Vt (N:=n.b.length) v (r.a.zip n.a) (cg n.b.length 0) (λq C=>hn.a _ (gd (show (Prod.mk q.1 q.2)∈_ from C)).2) ();have z:(cg n.b.length (0:ah)).getD v 0=0:=(by grind?);have f:((0:ah):ak)=0:=aa;rw[z,f,B7 (by rw[h.a3];exact d)]at c;have a:(((qx n r.a).getD v 0:ah):ak)=aN (C_ (aW n) fs v)*r.b:=by
   rw[t];have e:∀x:ak,x*(r.b:ak)=(r.b:ak)*x:=λx=>by grind
   rw[e,<-lC];have y:∀x:ak,0+x=x:=λx=>by grind
   rw[y]at c;unfold qx;rw[c];refine fF λq C=>?_;have A:=(eM.mp<|jN C).1;have b:=h.a2 q.1 (by simp[*]);have b:((r.a.getD q.1 0:ah):ak)=aN (fs.getD q.1 aU)*r.b:=b;dsimp only;rw[b];grind
  have o:=eZ h.a0;rw[xM,xN,nQ u];constructor;intro q;rw[q,f]at a;rcases ux.mp a.symm with q|q;exact q;exact bG q o;intro q;rw[q]at a;exact sZ.mp (by rw[a];simp)
 constructor;grind;grind;nofun
def RT(ha:0<a.b)(c:0<b.b):aN (sj a b)*((a.b:ak)*b.b)=a_ (a.a.zip b.a) λq=>(q.1:ak)*q.2:=by unfold sj;rw[fV,dF,wX];have e:=eZ ha;have d:=eZ c;have:(a_ (a.a.zip b.a) λq=>((q.1*q.2:ah):ak))=a_ (a.a.zip b.a) λq=>(q.1:ak)*q.2:=fF λq _=>dF _ _;rw[this];grind
def VS{n:aR}{a b:af ah}(t:a.length=n.a.length)(o:b.length=n.a.length)(G:ah×ah->ak):a_ (a.zip b) G=a_ (bj 0 n.a) λq=>G (a.getD q.1 0,b.getD q.1 0):=by
 have g:∀(c:af bB) (a b:af ah) (k:ag),a.length=c.length->b.length=c.length->a_ (a.zip b) G=a_ (bj k c) λq=>G (a.getD (q.1- k) 0,b.getD (q.1- k) 0):=by
  intro c;induction c with|nil=>intro a b k d f;have:a=[]:=DL d;subst this;rfl|cons e c h=>
   intro a b k d f
   match a,b,d,f with|x::a,y::b,d,f=>show G (x,y)+a_ (a.zip b) G=G ((x::a).getD (k- k) 0,(y::b).getD (k- k) 0)+a_ (bj (k+1) c) _;rw[h a b (k+1) ∅ ∅,Oh];show _=G (x,y)+_;congr 1;refine fF λq s=>?_;obtain⟨j,m,e⟩:=iC s;have:=lu (n:=k+1) (l:=c) (i:=j) (p:=q) (by rw[<-e];exact cK m);have r:q.1- k=(q.1-(k+1))+1:=(by left);rw[r,Ie,Ie]
 rw[g n.a a b 0 t o];exact fF λq _=>by rw[uD]
def Jw(hn:bw n)(h:jR r fs)(g:fs.length=n.a.length):nj n r=rP (aW n) fs:=by
 have o:dI (((aW n).edges.zip fs).map λq=>dS q.1.h q.2):=λx k=>by obtain⟨q,_,rfl⟩:=cJ.mp k;exact gK _ _
 obtain⟨t,p⟩:=Vp o;refine cM.a0 (fE _ _) t ?_;have j:=ut hn;have f:(c_ n).a.length=n.a.length:=(tV hn).b;have s:=RT (a:=c_ n) (b:=r) j.a0 h.a0;show aN (sj (c_ n) r)=aN (CW _);rw[p,pR,Lz g];rw[VS f (by rw[h.a3];exact g)]at s;have e:(a_ (bj 0 n.a) λq=>((((c_ n).a.getD q.1 0,r.a.getD q.1 0):ah×ah).1:ak)*((((c_ n).a.getD q.1 0,r.a.getD q.1 0):ah×ah).2:ak))=(a_ (bj 0 n.a) λq=>aN<|dS (bU q.2).h<|fs.getD q.1 aU)*(((c_ n).b:ak)*r.b):=by
  have e:∀x y:ak,x*y=y*x:=λx y=>by grind
  rw[e,<-lC];refine fF λq z=>?_;have u:=(eM.mp<|jN z).1;have d:=h.a2 q.1 ∅;have d:((r.a.getD q.1 0:ah):ak)=aN (fs.getD q.1 aU)*r.b:=d;have c:=vm (l:=n.a.map (·.h)) (λq z=>by obtain⟨e,m,rfl⟩:=cJ.mp z;exact(hn.a e m).j) (i:=q.1) (q:=q.2.h) (by rw[cV,jN z];rfl);have c:(((c_ n).a.getD q.1 0:ah):ak)=(c_ n).b*((q.2.h.1:ak)/(q.2.h.2:ak)):=c;dsimp only;rw[iw,d,c];show _=_*(aN (aQ _ _)*_);rw[fV];grind
 rw[e]at s;have w:=eZ j.a0;have v:=eZ h.a0;have:(aN (sj (c_ n) r)- a_ (bj 0 n.a) λq=>aN<|dS (bU q.2).h<|fs.getD q.1 aU)*(((c_ n).b:ak)*r.b)=0:=();rcases ux.mp this with q|q;grind;grind
def re(b:af (dM×dq))(o:∀q∈b,cM q.2):∀(y:dq),cM y->
  if(b.all λq=>gA q.2||kC q.1)=ao then ∃x,b.foldl (λx q=>x.bind λy=>if gA q.2=ao then ai y else if kC q.1=ao then ai (iP y<|jU (dS q.2 q.2)<|i_ q.1)else aq) (ai y)=ai x/\cM x/\aN x=aN y+a_ b λq=>aN q.2*aN q.2/kW q.1
  else b.foldl (λx q=>x.bind λy=>if gA q.2=ao then ai y else if kC q.1=ao then ai (iP y<|jU (dS q.2 q.2)<|i_ q.1)else aq) (ai y)=aq:=by
 induction b with|nil=>intro y e;rw[List.all_nil,aG aa];exact(y,aa,e,by show aN y=aN y+0;grind)|cons q b d=>
  intro y e;have hq:=o q (_);have d:=d λx r=>o x<|cO _ r;rw[AF,fO];have c:∀x:ak,(0:ak)*0/x=0:=λx=>by rw[rR];nofun
  show if _ then(∃x,uJ _ (if gA q.2=ao then ai y else if kC q.1=ao then ai (iP y<|jU (dS q.2 q.2)<|i_ q.1)else aq) b=ai x/\_)else uJ _ (if gA q.2=ao then ai y else if kC q.1=ao then ai (iP y<|jU (dS q.2 q.2)<|i_ q.1)else aq) b=aq
  by_cases f:gA q.2=ao;rw[aG f,f,S0,MC];have:=d y e;split at this;rename_i g;rw[aG g];obtain⟨x,n,m,k⟩:=this;refine(x,n,m,?_);rw[k];show _=_+(aN q.2*aN q.2/kW q.1+a_ b _);rw[(nQ hq).mp f,c];grind;simp[*];rw[aE f];have j:gA q.2=aw:=∅;rw[j,Q0];by_cases i:kC q.1=ao;rw[aG i,i,MC];have:=d (iP y<|jU (dS q.2 q.2)<|i_ q.1)<|vS _ _;split at this;rename_i g;rw[aG g];obtain⟨x,n,m,k⟩:=this;refine(x,n,m,?_);rw[k,ud e<|GV _ _,xP (show cM (i_ q.1)from gK _ _),iw,vX];show _=_+(aN q.2*aN q.2/kW q.1+a_ b _);grind;simp[*];have h:kC q.1=aw:=∅;rw[aE i,h,P0,aE ⋯];have p:∀l:af (dM×dq),l.foldl (λx q=>x.bind λy=>if gA q.2=ao then ai y else if kC q.1=ao then ai (iP y<|jU (dS q.2 q.2)<|i_ q.1)else aq) (aq:aJ dq)=aq:=by
   intro l;induction l with|nil=>rfl|cons a l d=>rw[fO];exact d
  exact p b
def adZ(hn:bw n)(h:ic n r fs):vD n r=((aW n).edges.zip fs).all λq=>gA q.2||kC q.1:=by unfold vD;rw[Mi (Q:=λq=>gA (fs.getD q.1 aU)||kC (bU q.2)) h.tl _ λq b=>?_,WH h.a2 _ _ λq b=>aa];obtain⟨_,_,a,_⟩:=h.at b;rw[TF<|hn.a _<|eJ b];dsimp only;have:aT (r.a.getD q.1 0=0)=gA (fs.getD q.1 aU):=();rw[this,Bool.or_comm]
def UI(h:gT N e):e.o.1=0↔fL e=0:=by rw[UJ h];have b:=zb h.f h.d;have a:=eZ h.m;constructor;intro z;rw[z];have:((0:ah):ak)=0:=aa;rw[this,rR (0:ak)];nofun;intro z;rcases ux.mp z with z|z;nofun;have:(e.o.1:ak)=0:=();exact sZ.mp this
def SN(h:gT N e)(t:ah):0<(kh (t,e)).2/\((kh (t,e)).1:ak)/((kh (t,e)).2:ak)=(fL e)⁻¹ :=by
 unfold kh;dsimp only;have c:=(oJ (a:=e.g.1*e.o.1)<|fQ h.d h.m).2.2;by_cases z:e.o.1=0;rw[aG z,(UI h).mp z];refine(⋯,?_);show((0:ah):ak)/((1:ah):ak)=_;have f:((0:ah):ak)=0:=aa;rw[f,rR,Rat.inv_zero];nofun;rw[aE z];have d:0<e.o.1:=by have:=h.q;lia
 have b:0<(en e).1:=by show 0<(bh<|aQ _ _).1;rw[xp<|fQ h.d h.m];exact Jj (fQ h.f d) (_)<|wO _ _
 refine(b,?_);show((en e).2:ak)/((en e).1:ak)=(((en e).1:ak)/((en e).2:ak))⁻¹;have j:=eZ b;have i:((en e).2:ak)≠0:=eZ c;(simp only[rR,Rat.inv_mul_rev];grind?)
def Lk(hn:bw n)(h:ic n r fs):mh n r=Hg (aW n) fs:=by
 have l:=re ((aW n).edges.zip fs) (λq H=>h.is.a1 _ (gd (show (Prod.mk q.1 q.2)∈_ from H)).2) aU qL;unfold mh Hg;rw[<-adZ hn h]at l;by_cases w:vD n r=ao;rw[aG w]at l ⊢;obtain⟨x,E,D,C⟩:=l;rw[E];congr 1;refine cM.a0 (fE _ _) D ?_;have d:∀q∈(r.a.zip n.a).map kh,0<q.2:=λq H=>by obtain⟨p,A,rfl⟩:=cJ.mp H;exact(SN (hn.a _ (gd (show (Prod.mk p.1 p.2)∈_ from A)).2) p.1).1
 have f:0<(nu n r).b:=xn _ 1 d ⋯;have j:=h.is.a0;have s:=RT (a:=ow r) (b:=nu n r) (fQ j j) f;have t:(ow r).a.length=n.a.length:=by show(r.a.map _).length=_;rw[cb];exact h.tl
 have o:(nu n r).a.length=n.a.length:=by unfold nu gG;rw[cb,cb,kG,h.tl];simp
 rw[VS t o]at s;have e:(a_ (bj 0 n.a) λq=>((((ow r).a.getD q.1 0,(nu n r).a.getD q.1 0):ah×ah).1:ak)*((((ow r).a.getD q.1 0,(nu n r).a.getD q.1 0):ah×ah).2:ak))=(a_ (bj 0 n.a) λq=>aN (fs.getD q.1 aU)*aN (fs.getD q.1 aU)/kW (bU q.2))*(((ow r).b:ak)*(nu n r).b):=by
  have e:∀x y:ak,x*y=y*x:=λx y=>by grind
  rw[e,<-lC];refine fF λq H=>?_;have m:=hn.a _<|eJ H;have B:=(eM.mp<|jN H).1;obtain⟨_,v,_,_⟩:=h.at H;have c:q.1<r.a.length:=by rw[h.tl];exact B
  have u:(r.a.zip n.a)[q.1]?=ai (r.a.getD q.1 0,q.2):=DI.mpr (by nofun,jN H);have g:=vm d (i:=q.1) (q:=kh (r.a.getD q.1 0,q.2)) (by rw[cV,u];rfl);rw[(SN m _).2]at g;have g:(((nu n r).a.getD q.1 0:ah):ak)=(nu n r).b*(fL q.2)⁻¹ :=g;have z:(ow r).a.getD q.1 0=r.a.getD q.1 0*r.a.getD q.1 0:=by show(r.a.map _).getD q.1 0=_;rw[gO,cV,cK c];nofun
  have k:((ow r).b:ak)=(r.b:ak)*r.b:=by show((r.b*r.b:ah):ak)=_;rw[dF]
  dsimp only;rw[z,dF,v,g,rF m,k,rR];grind
 rw[e]at s;rw[C,pO,Lz h.a2];have G:((ow r).b:ak)≠0:=eZ<|fQ j j;have F:=eZ f;have:(aN (sj (ow r)<|nu n r)- a_ (bj 0 n.a) λq=>aN (fs.getD q.1 aU)*aN (fs.getD q.1 aU)/kW (bU q.2))*(((ow r).b:ak)*(nu n r).b)=0:=();rcases ux.mp this with q|q;grind;grind;nofun
def zc(a b:ah):aQ (bh<|aQ a b).1 (bh<|aQ a b).2=aQ a b:=by refine cM.a0 (fE _ _) (fE _ _) ?_;rw[fV,vo]
def Fd(h:cM x):aQ (bh x).1 (bh x).2=x:=by refine cM.a0 (fE _ _) h ?_;rw[fV,vo]
def VZ(hn:bw n)(h:ic n r fs):kR n r=(zZ (aW n) fs).map bh:=by
 unfold kR zZ;rw[Lk hn h,Jw hn h.is h.a2,Option.map_map];cases e:Hg (aW n) fs with|none=>rfl|some x=>
  have b:cM x:=by rw[<-Lk hn h]at e;unfold mh at e;split at e;cases e;exact fE _ _;nofun
  show ai (pC (bh x)<|nA (-2,1)<|bh<|rP (aW n) fs)=ai (bh<|gW x<|dS (cG 2)<|rP (aW n) fs);congr 1;unfold pC;congr 1;have j:cM (rP (aW n) fs):=by rw[<-Jw hn h.is h.a2];exact fE _ _
  refine cM.a0 (fE _ _) (vT _ _) ?_;rw[fV,qI b<|gK _ _,iw,vM,rQ,dF,dF,dF];have f:((bh x).1:ak)/((bh x).2:ak)=aN x:=vo x;have d:((nA (-2,1)<|bh<|rP (aW n) fs).1:ak)/((nA (-2,1)<|bh<|rP (aW n) fs).2:ak)= -2*aN (rP (aW n) fs):=by unfold nA;rw[vo,fV,dF,dF,<-vo<|rP (aW n) fs];show((-2:ah):ak)*_/(((1:ah):ak)*_)=_;have c:((1:ah):ak)=1:=aa;have a:((-2:ah):ak)= -2:=aa;rw[c,a];have:((bh<|rP (aW n) fs).2:ak)≠0:=xT j;grind
  have i:((bh x).2:ak)≠0:=xT b;have g:((nA (-2,1)<|bh<|rP (aW n) fs).2:ak)≠0:=xT<|fE _ _;have a:((2:ah):ak)=2:=aa;rw[a];(simp only[rR,Rat.inv_mul_rev]at*;grind?)
def S6(hn:bw n)(h:jR r fs)(b:jR p ps):sD n r p=Nr (aW n) fs ps:=by
 unfold sD Nr;rw[Cm hn h,b.a3,ly];by_cases c:jV (aW n) fs=ao;by_cases a:ps.length=n.b.length;have f:fs.length=n.a.length:=by unfold jV at c;simp[aW]at c;exact c.1
 rw[c,vL a];simp only[MC];rw[Mi (Q:=λq=>aT<|fs.getD q.1 aU=uu ps (bU q.2)) (by rw[h.a3];exact f) _ λq c=>?_,WH f _ _ λq c=>aa];have d:=hn.a _<|eJ c;have t:=(eM.mp<|jN c).1;have e:=h.a2 q.1 ∅;have e:((r.a.getD q.1 0:ah):ak)=aN (fs.getD q.1 aU)*r.b:=e;have g:cM (fs.getD q.1 aU):=h.a1.a0 _;have u:=eZ h.a0;have i:=eZ b.a0;have j:=eZ d.j;unfold ze nA;dsimp only;have l:aQ (r.a.getD q.1 0) r.b=fs.getD q.1 aU:=FQ h.a0 g e;have k:aQ ((en q.2).1*(pC (pK p q.2) q.2.h).1) ((en q.2).2*(pC (pK p q.2) q.2.h).2)=uu ps (bU q.2):=by
  refine cM.a0 (fE _ _) (gK _ _) ?_;rw[Lu b.a1 (show cM (bU q.2).h from fE _ _),rF d,fV,dF,dF];have s:((pC (pK p q.2) q.2.h).1:ak)/((pC (pK p q.2) q.2.h).2:ak)=bM ps q.2.b- bM ps q.2.a+(q.2.h.1:ak)/q.2.h.2:=by unfold pC;rw[vo,fV];unfold pK;dsimp only;rw[rQ,dF,dF,dF,qR,b.a2 _ (by rw[a];exact d.b),b.a2 _ (by rw[a];exact d.a)];(simp only[rR,Rat.inv_mul_rev];grind?)
  show _=fL q.2*(bM ps q.2.b- bM ps q.2.a+aN (aQ _ _));rw[fV,<-s];have o:=eZ (zm hn<|eJ c).2;have m:((pC (pK p q.2) q.2.h).2:ak)≠0:=xT<|fE _ _;unfold fL;(simp only[rR,Rat.inv_mul_rev];grind?)
 rw[l,k,xM,xN,xN];constructor;intro q;have:=fk (λz:ah×ah=>aQ z.1 z.2) q;have this:aQ (bh _).1 (bh _).2=aQ (bh _).1 (bh _).2:=this;rw[Fd g,Fd (show cM (uu ps<|bU _)from gK _ _)]at this;exact this;symm;nofun;nofun
def Vx:∀(k:ag) (l:af ah),l.length<=k->sY l=(kO l).map λc=>c.map λq=>aQ q.1 q.2:=by
 intro k;induction k with|zero=>intro l h;have:l=[]:=DL ∅;subst this;rfl|succ k d=>
  intro l h
  match l with|[]=>rfl|[a]=>rfl|a::b::r=>unfold sY kO;by_cases e:b<1;left;rw[aE e,aE !_,d r (by left)];cases kO r<;>rfl
def Ts:∀(k:ag) (l:af ah) (c:af (ah×ah)),l.length<=k->kO l=ai c->∀q∈c,0<q.2:=by
 intro k;induction k with
 |zero=>intro l c h e;have:l=[]:=DL (by ac_rfl);subst this;cases e;simp
 |succ k g=>
  intro l c h e
  match l,e with
  |[],e=>cases e;simp
  |[a],e=>cases e
  |a::b::r,e=>unfold kO at e;split at e;nofun;obtain⟨f,d,rfl⟩:=p'.mp e;intro q i;rcases fq.mp i with rfl|i;nofun;left
def BX(h:fM l=aq):sY l=aq:=by unfold fM at h;rw[Of]at h;rw[Vx l.length l<|b_ _,h];rfl
def zv(h:fM l=ai r):∃c,sY l=ai c/\jR r c:=by unfold fM at h;obtain⟨b,a,rfl⟩:=p'.mp h;exact(_,by rw[Vx l.length l<|b_ _,a];rfl,SM<|Ts l.length l b (b_ _) a)
def VT(G:ag×dM->ak):a_ (bj 0 (aW n).edges) G=a_ (bj 0 n.a) λq=>G (q.1,bU q.2):=by
 have b:∀(l:af bB) (k:ag) (G:ag×dM->ak),a_ (bj k<|l.map bU) G=a_ (bj k l) λq=>G (q.1,bU q.2):=by
  intro l;induction l with|nil=>intro _ _;rfl|cons a l c=>intro k G;show G (k,bU a)+a_ (bj (k+1)<|l.map bU) G=_;rw[c];rfl
 exact b n.a 0 G
def LA(f:α->α)(g:α->ak):∀(l:af α) (i k:ag),a_ (l.modify i f) g=a_ (bj k l) λq=>if q.1=k+i then g (f q.2)else g q.2
 |[],i,k=>by cases i<;>rfl
 |a::l,0,k=>by
  show g (f a)+a_ l g=(if k=k+0 then g (f a)else g a)+a_ (bj (k+1) l) _;rw[aG (_)];congr 1;have:a_ (bj (k+1) l) (λq=>if q.1=k+0 then g (f q.2)else g q.2)=a_ (bj (k+1) l) λq=>g q.2:=fF λq c=>by obtain⟨j,b,e⟩:=iC c;have:=lu (n:=k+1) (l:=l) (i:=j) (p:=q) (by rw[<-e];exact cK b);rw[aE (by left)]
  rw[this,xw]
 |a::l,i+1,k=>by show g a+a_ (l.modify i f) g=(if k=k+(i+1)then g (f a)else g a)+a_ (bj (k+1) l) _;rw[aE ¬_,LA f g l i<|k+1];congr 1;exact fF λq _=>by rw[show k+1+i=k+(i+1) by lia]
def Vy(f:α->α)(s:β->α->β)(h:∀b a,s b (f a)=s b a):∀(l:af α) (i:ag) (b:β),(l.modify i f).foldl s b=l.foldl s b
 |[],i,b=>by cases i<;>rfl
 |a::l,0,b=>by show(l).foldl s (s b<|f a)=l.foldl s (s b a);rw[h]|a::l,i+1,b=>by show(l.modify i f).foldl s (s b a)=l.foldl s (s b a);exact Vy f s h l i _
def V9(n:fY)(i:ag)(f:dM->dM)(h:∀l e,iy l (f e)=iy l e):gp {n with edges:=n.edges.modify i f}=gp n:=by
 have a:∀k l,fw {n with edges:=n.edges.modify i f} k l=fw n k l:=by
  intro k;induction k with|zero=>intro l;rfl|succ k b=>intro l;show fw _ k (nT _ l)=fw n k (nT n l);grind[qK,Vy,iy]
 exact a _ _
def oI(e:dM):dM:={e with h:=iP e.h<|cG 1}
def Rr(n:fY)(i:ag):vZ n i (cG 1)={n with edges:=n.edges.modify i oI}:=aa
def TN(n:aR)(a:i<n.a.length):(f_ n i).a.getD k 0=if k=i then 1 else 0:=by show((cg n.a.length (0:ah)).set i 1).getD k 0=_;grind?
def Uo{f:α->α}{a:α}:∀{l:af α} {i:ag},a∈l.modify i f->a∈l\/∃b∈l,a=f b
 |[],i,h=>by cases i<;>simp at h
 |x::l,0,h=>by have h:a∈f x::l:=h;rcases fq.mp h with h|h;nofun;symm
 |x::l,i+1,h=>by have h:a∈x::l.modify i f:=h;rcases fq.mp h with h|h;nofun;rcases Uo h with h|⟨b,c,e⟩;ac_rfl;grind
def WF(hn:bw n)(p:i<n.a.length):zV (vZ (aW n) i<|cG 1) iY λv=>fv n (c_ n) v+fv n (f_ n i) v:=by
 rw[Rr];have s:gp {aW n with edges:=(aW n).edges.modify i oI}=gp (aW n):=V9 _ _ _ λ_ _=>aa;intro v b;rw[s];have b:v<cD (aW n):=b;have o:=Tn hn v b;rw[ly]at b;have m:=Rm hn (hs:=f_ n i) (by decide:(0:Int)<1) v b;split at o;left;rename_i q;rw[aE q]at m ⊢;show kT ((aW n).edges.modify i oI) _ v=qJ ((aW n).edges.modify i oI) iY v;have A:kT ((aW n).edges.modify i oI) (λv=>fv n (c_ n) v+fv n (f_ n i) v) v=kT (aW n).edges (fv n<|c_ n) v+kT (aW n).edges (fv n<|f_ n i) v:=by unfold kT;rw[LA oI _ _ _ 0,<-xw (oU (fv n<|c_ n) v) 0,<-xw (oU (fv n<|f_ n i) v) 0,<-GY];refine fF λq _=>?_;have:∀x,oU x v (oI q.2)=oU x v q.2:=λ_=>aa;(nofun;grind?[oU])
 have y:qJ ((aW n).edges.modify i oI) iY v=qJ (aW n).edges iY v+sm n (λk=>((1:ah):ak)⁻¹ *(((f_ n i).a.getD k 0:ah):ak)) v:=by
  unfold qJ sm;rw[LA oI _ _ _ 0,<-xw (uf iY v) 0,VT,VT,<-GY];refine fF λq g=>?_;have f:=hn.a _<|eJ g;dsimp only;rw[TN n p];have t:kW (oI<|bU q.2)=fL q.2:=by rw[<-rF f];rfl
  have r:iY (oI<|bU q.2)=iY (bU q.2)+1:=by show aN (iP (bU q.2).h<|cG 1)=_;rw[ud (show cM (bU q.2).h from fE _ _)<|pQ _,EB];rfl
  have l:((1:ah):ak)=1:=aa;have w:((-1:ah):ak)= -1:=aa;have j:((0:ah):ak)=0:=aa;have u:(1:ak)⁻¹ =1:=();have c:=f.c;by_cases z:q.1=i;rw[aG ∅,aG z,l,u];unfold uf;rw[t,r,rF f];show(if q.2.b=v then _ else if q.2.a=v then _ else _)=(if q.2.b=v then _ else if q.2.a=v then _ else _)+_;rcases lk f v with⟨a,d⟩|⟨a,d⟩|⟨a,e,d⟩;subst a;rw[aG aa,aG aa,d,l];left;subst a;rw[aE c,aG aa,aE c,aG aa,d,w];left;rw[aE<|λz=>a z.symm,aE<|λz=>e z.symm,aE<|λz=>a z.symm,aE<|λz=>e z.symm,d,j];left;rw[aE ∅,aE z,j];left
 simp_all[K_,f_]
def N8(hn:bw n)(i:ag):∀e∈(vZ (aW n) i<|cG 1).edges,nR (cD<|vZ (aW n) i<|cG 1) e:=λe c=>by show nR (cD<|aW n) e;rcases Uo (f:=oI) c with h|⟨b,d,rfl⟩;exact B_ hn e h;have:=B_ hn b d;exact(this.a,this.b,this.j,this.n,vS _ _,this.m,this.i,this.l,this.g,this.o)
def N7(hn:bw n)(b:vI n hs)(f:n.a[j]?=ai e)(l:cM x)(h:aN x=fL e*(fv n hs e.b- fv n hs e.a+(hs.b:ak)⁻¹ *((hs.a.getD j 0:ah):ak))):aQ ((hG n hs).a.getD j 0) (hG n hs).b=x:=by
 have c:=(Bz hn hs).1;have m:j<n.a.length:=(eM.mp f).1;have a:jR (hG n hs) ((bP n.a.length).map λk=>nP<|(((oK n hs).getD k 0:ah):ak)/(((dJ n hs).b*hs.b:ah):ak)):=by refine jR.a5 (by show(oK _ _).length=_;rw[VD b];simp,fQ c b.a,BV _ _,λi g=>?_);simp at g;rw[vl _ g];have:=eZ<|fQ c b.a;grind
 refine FQ a.a0 l ?_;have d:=a.a2 j ∅;rw[vl _ m,VI hn b f]at d;rw[d,h];have:=eZ<|fQ c b.a;grind
def T6(hn:bw n)(r:i<n.a.length)(t:j<n.a.length):aQ ((hG n<|f_ n i).a.getD j 0) (hG n<|f_ n i).b=gW ((fi<|vZ (aW n) i<|cG 1).getD j aU) ((fi<|aW n).getD j aU):=by
 have d:=cK t;have k:=hn.a _<|eC d;refine N7 hn (TM hn i) d (vT _ _) ?_;rw[qI ((Lg _).a0 _)<|(Lg _).a0 _];have o:=Ls hn d;have o:aN ((fi<|aW n).getD j aU)=_:=o;rw[o];have p:=MP (N8 hn i)<|WF hn r;have c:cD (vZ (aW n) i<|cG 1)=n.b.length:=ly n;rw[c]at p;have w:aN ((fi<|vZ (aW n) i<|cG 1).getD j aU)=fL n.a[j]*((fv n (c_ n) n.a[j].b+fv n (f_ n i) n.a[j].b)-(fv n (c_ n) n.a[j].a+fv n (f_ n i) n.a[j].a)+(aN (aQ n.a[j].h.1 n.a[j].h.2)+if j=i then 1 else 0)):=by
  unfold fi;rw[p,gO,cV,Rr];show aN ((HN _<|((n.a.map bU).modify i oI)[j]?).getD _)=_;rw[Ic,cV,d];have s:∀f:dM,f.a=n.a[j].b->f.b=n.a[j].a->kW f=fL n.a[j]->cM f.h->aN f.h=(aN (aQ n.a[j].h.1 n.a[j].h.2)+if j=i then 1 else 0)->aN (uu ((bP n.b.length).map λg=>nP<|fv n (c_ n) g+fv n (f_ n i) g) f)=fL n.a[j]*((fv n (c_ n) n.a[j].b+fv n (f_ n i) n.a[j].b)-(fv n (c_ n) n.a[j].a+fv n (f_ n i) n.a[j].a)+(aN (aQ n.a[j].h.1 n.a[j].h.2)+if j=i then 1 else 0)):=λf F E D C B=>by rw[Lu (BV _ _) C,F,E,D,B,vl (λv=>fv n (c_ n) v+fv n (f_ n i) v) k.b,vl (λv=>fv n (c_ n) v+fv n (f_ n i) v) k.a]
  by_cases z:i=j;subst z;show aN (uu _ (if i=i then oI (bU n.a[i])else _))=_;rw[aG aa];refine s _ aa aa (by rw[<-rF k];rfl) (vS _ _) ?_;show aN (iP (aQ _ _)<|cG 1)=_;rw[ud (fE _ _)<|pQ _,EB,aG aa];show aN (uu _ (if i=j then _ else bU n.a[j]))=_;rw[aE z];refine s _ aa aa (rF k) (fE _ _) ?_;show aN (aQ _ _)=_;grind
 rw[w,TN n r];have m:=vm (l:=n.a.map (·.h)) (λq a=>by obtain⟨e,u,rfl⟩:=cJ.mp a;exact(hn.a e u).j) (i:=j) (q:=n.a[j].h) (by rw[cV,d];rfl);have m:(((c_ n).a.getD j 0:ah):ak)=(c_ n).b*((n.a[j].h.1:ak)/(n.a[j].h.2:ak)):=m;rw[m,fV];have:=eZ (tV hn).a;show _=fL n.a[j]*(fv n (f_ n i) n.a[j].b- fv n (f_ n i) n.a[j].a+((1:ah):ak)⁻¹ *_);have A:((1:ah):ak)=1:=aa;have y:((0:ah):ak)=0:=aa;have x:(1:ak)⁻¹ =1:=();split<;>simp only[A,y,x]<;>grind
def pD(e:dM):dM:={e with gives:=aU,room:=aU}
def VB(n:fY):fi n=fi {n with edges:=n.edges.map pD}:=by
 have c:gp n=gp {n with edges:=n.edges.map pD}:=by
  have a:∀k l,fw n k l=fw {n with edges:=n.edges.map pD} k l:=by
   intro k;induction k with|zero=>intro l;rfl|succ k f=>
    intro l;show fw n k (nT n l)=fw _ k (nT _ l);have:nT n l=nT {n with edges:=n.edges.map pD} l:=by rw[qK,qK];show _=(n.edges.map pD).foldl iy l;rw[Ig];rfl
    nofun
  exact a _ _
 have b:pT n=pT {n with edges:=n.edges.map pD}:=by
  unfold pT;rw[<-c];have d:∀v,oW n (gp n) v=oW {n with edges:=n.edges.map pD} (gp n) v:=λv=>by unfold oW;dsimp only;split;rfl;rw[Ig];rfl
  have:(bP<|cD n).map (oW n<|gp n)=(bP<|cD {n with edges:=n.edges.map pD}).map (oW {n with edges:=n.edges.map pD} (gp n)):=lK λv _=>d v;rw[this];rfl
 unfold fi;rw[<-b,eS];exact lK λe _=>aa
def AG(n:aR):lZ n=(bP (aW n).edges.length).filter λi=>((aW n).edges[i]?).any λe=>e.kind==2:=by
 have b:∀(l:af bB) (k:ag),((bj k l).filter λq=>aT<|(q.2.c:Int)=2).map (·.1)=(pf k l.length).filter λi=>(l[i- k]?).any λe=>e.c==2:=by
  intro l;induction l with|nil=>intro k;rfl|cons a l d=>
   intro k;have t:(pf (k+1) l.length).filter (λi=>((a::l)[i- k]?).any λe=>e.c==2)=(pf (k+1) l.length).filter λi=>(l[i-(k+1)]?).any λe=>e.c==2:=OG λi m=>by have:=List.mem_range'_1.mp m;rw[<-Nat.succ_pred_eq_of_pos (Nat.sub_pos_of_lt this.1)];rfl
   show(List.filter _ ((k,a)::bj (k+1) l)).map _=_;rw[ij,DG,List.filter_cons,List.filter_cons,t,<-d (k+1),Oh];by_cases h:a.c=2<;>simp[h];lia
 unfold lZ;rw[b n.a 0];have c:(aW n).edges.length=n.a.length:=by simp[aW]
 rw[c,HX];refine OG λi _=>?_;show _=((n.a.map bU)[i]?).any _;rw[uD,cV];cases n.a[i]?<;>rfl
def Fl(n:aR):fC n=ur (aW n):=by
 unfold fC ur;rw[<-AG];cases lZ n with|nil=>rfl|cons a l=>cases l<;>rfl
def zk(h:fC n=ai k):∃e,n.a[k]?=ai e/\e.c=2:=by
 unfold fC at h;split at h;rename_i c;cases b:lZ n with
 |nil=>rw[b]at c;cases c
 |cons a l=>rw[b]at h;cases (h);have:a∈lZ n:=(by simp[*]);obtain⟨q,hq,rfl⟩:=cJ.mp this;grind[jN]
 nofun
def Vv(hn:bw n)(h:ic n (hG n<|c_ n) (fi<|aW n)):∃x,mh n (hG n<|c_ n)=ai x:=by
 unfold mh;have:vD n (hG n<|c_ n)=ao:=by
  unfold vD;rw[Mi (Q:=λ_=>ao) h.tl _ λq d=>?_];simp;have a:=hn.a _<|eJ d;by_cases z:q.2.o.1=0;obtain⟨_,_,b,_⟩:=h.at d;have:=Ls hn<|jN d;rw[(UI a).mp z]at this;have c:gA ((fi<|aW n).getD q.1 aU)=ao:=by rw[nQ<|h.is.a1.a0 _];show bM _ _=0;nofun
  lia;nofun
 nofun
def fK(B:ah)(z:ah):dq:=nP<|(z:ak)/B
def tY(B:ah)(s:gF):ag×ag×dq:=(s.1,s.2.1,fK B s.2.2)
def oB(B z:ah):aN (fK B z)=(z:ak)/B:=CF _
def qs(B z:ah):cM (fK B z):=GW _
def Tp(hB:0<B)(h:fK B a=fK B b):a=b:=by grind[aN,oB,eZ,ya]
def To(hB:0<B)(a b:ah):iP (fK B a) (fK B b)=fK B (a+b):=by refine cM.a0 (vS _ _) (qs _ _) ?_;rw[ud (qs _ _)<|qs _ _,oB,oB,oB,rQ];grind
def GE(hB:0<B)(a b:ah):gW (fK B a) (fK B b)=fK B (a- b):=by grind[cM.a0,vT,qs,qI,oB,qR]
def Fg(B:ah):fK B 0=aU:=by grind[cM.a0,qs,qL,oB,pO,rR]
def CE(hB:0<B)(a b:ah):Vbbcao.less (fK B a) (fK B b)=aT (a<b):=by rw[xM,Xx (qs _ _)<|qs _ _,oB,oB,xN];grind?[kU,Hl,rR,Rat.lt_of_mul_lt_mul_right,x_,X_,Rat.mul_lt_mul_of_pos_right]
def wE(hB:0<B)(a:ah):gA (fK B a)=aT (a=0):=by rw[xM,nQ<|qs _ _,xN];constructor;intro h;rw[<-pO]at h;have:=cM.a0 (qs _ _) qL h;rw[<-Fg B]at this;solve_by_elim[Tp];grind[Fg,pO]
def gv(B:ah)(f:af (aJ ah)):af (aJ dq):=f.map<|HN<|fK B
def BA(B:ah)(f:af (aJ ah))(i:ag):(gv B f).getD i aq=(f.getD i aq).map (fK B):=by (simp_all[gv];grind?)
def Tq(hB:0<B):∀{f g:af (aJ ah)},gv B f=gv B g->f=g
 |[],[],_=>aa|[],_::_,h=>by cases h
 |_::_,[],h=>by cases h
 |a::f,b::g,h=>by
  have h:a.map (fK B)::gv B f=b.map (fK B)::gv B g:=h;obtain⟨c,d⟩:=List.cons.inj h;rw[Tq hB d];congr 1;cases a with
  |none=>cases b with|none=>rfl|some b=>cases c
  |some a=>cases b with
   |none=>cases c
   |some b=>exact fk ai<|Tp hB<|kX c
def HT(hB:0<B)(f:af (aJ ah))(s:gF)(b:s.2.1<f.length):
  (gv B f).set (tY B s).2.1 (Hh ((gv B f).getD (tY B s).2.1 aq)<|((gv B f).getD (tY B s).1 aq).map λx=>iP x (tY B s).2.2)=gv B (dE f s):=by
 unfold tY;dsimp only;rw[BA,BA];unfold dE;cases d:f.getD s.1 aq with
 |none=>
  show(gv B f).set s.2.1 (Hh ((f.getD s.2.1 aq).map<|fK B) aq)=gv B f;have:Hh ((f.getD s.2.1 aq).map<|fK B) aq=(gv B f).getD s.2.1 aq:=by rw[BA];cases f.getD s.2.1 aq<;>rfl
  rw[this];have a:s.2.1<(gv B f).length:=by simp[*,gv,cb]
  nofun
 |some x=>
  show(gv B f).set s.2.1 (Hh ((f.getD s.2.1 aq).map<|fK B)<|ai<|iP (fK B x)<|fK B s.2.2)=gv B (f.set s.2.1 _);unfold gv;rw[n_,To hB];congr 1;cases c:f.getD s.2.1 aq with|none=>rfl|some y=>show(if Vbbcao.less (fK B y) (fK B<|x+s.2.2)=ao then ai (fK B<|x+s.2.2)else ai<|fK B y)=ai (fK B<|mX y<|x+s.2.2);grind[CE]
def VN(hB:0<B):∀(b:af gF) (f:af (aJ ah)),(∀s∈b,s.2.1<f.length)->Nq (b.map<|tY B) (gv B f)=gv B (b.foldl dE f):=by
 intro b;unfold Nq;induction b with|nil=>intro f _;rfl|cons s l a=>intro f h;rw[eE,fO,fO,HT hB f s<|h s (_)];grind?[dE]
def BP(steps:af gF):ag->af (aJ ah)->af (aJ ah)
 |0,f=>f|k+1,f=>BP steps k<|steps.foldl dE f
def xq(l:af gF)(f:af (aJ ah)):(l.foldl dE f).length=f.length:=by
 induction l generalizing f with|nil=>rfl|cons s l a=>rw[fO,a];unfold dE;split<;>simp
def UN(steps:af gF):∀(k:ag) (f:af (aJ ah)),BP steps (k+1) f=steps.foldl dE (BP steps k f)
 |0,_=>aa|k+1,f=>UN steps k<|steps.foldl dE f
def VM(N a:ag)(b:af gF):∀k,de N a b k=BP b k ((cg N aq).set a<|ai 0)
 |0=>aa|k+1=>by rw[UN,<-VM N a b k];rfl
def WI(hB:0<B)(a:af gF):∀(k:ag) (f:af (aJ ah)),(∀s∈a,s.2.1<f.length)->Vbbcao.fallAll (a.map<|tY B) k (gv B f)=gv B (BP a k f)
 |0,_,_=>aa|k+1,f,h=>by show Vbbcao.fallAll _ k (Nq _<|gv B f)=_;rw[VN hB a f h];exact WI hB a k _ (by rw[xq];exact h)
def et(f:af (aJ ah))(v:ag):da:=(f.getD v aq).isSome
def zt{l:af (aJ ah)}(b:i<l.length)(x:aJ ah)(a:ag):(l.set i x).getD a aq=if a=i then x else l.getD a aq:=vB b x aq a
def Kn(h:s.2.1<f.length)(v:ag):et (dE f s) v=(et f v||(et f s.1&&aT (v=s.2.1))):=by
 unfold dE et;cases f.getD s.1 aq with
 |none=>simp
 |some x=>dsimp only;rw[zt h];by_cases u:v=s.2.1<;>simp[u]
def l0(g:af (aJ ah))(s:gF):(dE g s).length=g.length:=by unfold dE;split<;>simp
def Ko{l:af gF}:∀{f:af (aJ ah)},(∀s∈l,s.2.1<f.length)->∀{v:ag},et f v=ao->et (l.foldl dE f) v=ao:=by
 induction l with|nil=>intro f _ v h;exact h|cons s l a=>intro f c v h;exact a (λt b=>by rw[l0];exact c t (cO _ b)) (by rw[Kn (c s gY),h];rfl)
def lw{l:af gF}:∀{f:af (aJ ah)},(∀s∈l,s.2.1<f.length)->∀s∈l,et f s.1=ao->et (l.foldl dE f) s.2.1=ao:=by
 induction l with|nil=>intro f _ s a;simp at a|cons t l b=>
  intro f c s a h;have d:∀t_1∈l,t_1.2.1<(dE f t).length:=λu b=>by rw[l0];exact c u (cO _ b)
  rw[fO];rcases fq.mp a with rfl|a;exact Ko d (by rw[Kn (c _ gY),h];simp);exact b d s a (by rw[Kn (c _ gY),h];rfl)
def vJ(steps:af gF)(f:af (aJ ah)):Prop:=∀s∈steps,et f s.1=ao->et f s.2.1=ao
def T8(h:vJ steps f)(k:∀s∈steps,s.2.1<f.length):∀v,et (steps.foldl dE f) v=et f v:=by
 have j:∀(l:af gF),(∀s∈l,s∈steps)->∀g:af (aJ ah),g.length=f.length->(∀v,et g v=et f v)->∀v,et (l.foldl dE g) v=et f v:=by
  intro l;induction l with|nil=>intro _ g _ h v;exact h v|cons s l c=>
   intro b g m a v;have i:=b s (_);have e:(dE g s).length=g.length:=by unfold dE;split<;>simp
   refine c (λx d=>b x<|cO _ d) (dE g s) ∅ (λu=>?_) v;rw[Kn (by simp only[*]),a,a];cases q:(et f s.1&&aT (u=s.2.1))with
   |false=>simp|true=>simp at q;rw[q.2,h s i q.1];rfl
 simp[*]
def S8(hst:st'<N)(e:∀s∈steps,s.1<N/\s.2.1<N):vJ steps (de N st' steps N):=by
 have b:∀k,(de N st' steps k).length=N:=λk=>by
  induction k with|zero=>simp[de]|succ k c=>rw[de,xq,c]
 have d:∀k,∀s∈steps,s.2.1<(de N st' steps k).length:=λk s a=>by rw[b];exact(e s a).2
 have o:∀k,vJ steps (de N st' steps k)->vJ steps (de N st' steps<|k+1):=λk h s a q=>by rw[de,T8 h<|d k]at q ⊢;exact h s a q
 have j:∀k,vJ steps (de N st' steps k)\/k+1<=((bP N).filter<|et<|de N st' steps k).length:=by
  intro k;induction k with|zero=>right;have:st'∈(bP N).filter (et<|de N st' steps 0):=tr.mpr (jz.mpr hst,by unfold et de;rw[zt ∅,aG aa];rfl);grind|succ k c=>
   rcases c with h|h;symm;by_cases q:vJ steps (de N st' steps k);ac_rfl;right;have:∃s,s∈steps/\et (de N st' steps k) s.1=ao/\et (de N st' steps k) s.2.1=aw:=by refine Xe λn=>q λs a i=>?_;grind
   obtain⟨s,a,i,m⟩:=this;have:=Nj (N:=N) (f:=et<|de N st' steps k) (g:=et<|de N st' steps<|k+1) (λv l=>Ko (d k) l) (e s a).2 m<|lw (d k) s a i;lia
 grind?
def RP(h2:s.2.1<f.length):dE f s=f↔(f.getD s.1 aq=aq\/∃x y,f.getD s.1 aq=ai x/\f.getD s.2.1 aq=ai y/\x+s.2.2<=y):=by
 have z:∀v,f.set s.2.1 v=f↔f.getD s.2.1 aq=v:=λv=>⟨λh=>by rw[<-h];simp[h2],λh=>by subst h;simp[h2]⟩
 unfold dE;cases f.getD s.1 aq with
 |none=>simp
 |some x=>dsimp only;rw[z];cases f.getD s.2.1 aq<;>simp;(constructor<;>intros<;>grind?)
def K0{g:af (aJ ah)}{s:gF}(m:s.2.1<g.length)(j:g.getD v aq=ai x):∃y,(dE g s).getD v aq=ai y/\x<=y:=by
 unfold dE;cases g.getD s.1 aq with
 |none=>exact(x,j,QM _)
 |some z=>
  dsimp only;rw[zt m];by_cases q:v=s.2.1
  ·subst q;rw[aG aa,j];exact(_,aa,Int.le_max_left ..)
  ·rw[aE q];exact(x,j,QM _)
def C0{l:af gF}:∀{g:af (aJ ah)}{x},(∀s∈l,s.2.1<g.length)->g.getD v aq=ai x->∃y,(l.foldl dE g).getD v aq=ai y/\x<=y:=by
 induction l with
 |nil=>intro g x _ h;exact(_,h,QM _)
 |cons s l i=>intro g x h j;obtain⟨y,a,b⟩:=K0 (h s gY) j;obtain⟨z,c,d⟩:=i (λt m=>by rw[l0];exact h t (cO _ m)) a;exact(z,c,Int.le_trans b d)
def xd:∀{l:af gF},(∀s∈l,s.2.1<f.length)->(l.foldl dE f=f↔∀s∈l,dE f s=f):=by
 intro l;induction l with
 |nil=>intro _;simp
 |cons s l i=>
  intro n;have c:∀t∈l,t.2.1<f.length:=λt b=>n t<|cO _ b;rw[fO];constructor
  ·intro h;have C:dE f s=f:=by
    refine uL (l0 f s) λv u k=>?_;have p:(dE f s).getD v aq=(dE f s)[v]:=∅;have o:f.getD v aq=f[v]:=∅;have E:∀t∈l,t.2.1<(dE f s).length:=λt b=>by rw[l0];exact c t b
    rw[<-p,<-o];cases r:f.getD v aq with
    |none=>
     cases q:(dE f s).getD v aq with
     |none=>rfl
     |some y=>obtain⟨z,w,_⟩:=C0 E q;rw[h,r]at w;cases w
    |some x=>obtain⟨y,a,b⟩:=K0 (n s gY) r;obtain⟨z,w,d⟩:=C0 E a;rw[h,r]at w;rw[a,Int.le_antisymm d (kX w▸b),kX w]
   rw[C]at h;intro t b;rcases fq.mp b with rfl|b;exact C;exact(i c).mp h t b
  ·intro h;rw[h s gY];exact(i c).mpr λt b=>h t (cO _ b)
def L0{α:Type}{l:af α}{i:ag}{e:α}(h:l[i]?=ai e):(bj 0 l)[i]?=ai (Prod.mk i e):=by have k:=(eM.mp h).1;have z:=cK (l:=bj 0 l) (i:=i) (by rw[nI];exact k);obtain⟨x,y⟩:=lu z;rw[z];exact congrArg ai (Prod.ext (x.trans (Nat.zero_add _)) (kX (y.symm.trans h)))
def QY(hl:fs.length=n.a.length):(aW n).edges.zip fs=(bj 0 n.a).map λq=>(bU q.2,fs.getD q.1 aU):=by
 refine yt λi=>?_;rw[cV];cases h:n.a[i]? with|none=>simp_all[R1,DK,nI,aW]|some e=>rw[L0 h,QW hl h];rfl
def Ew{n:aR}{a:af ah}(b:a.length=n.a.length):a.zip n.a=(bj 0 n.a).map λq=>(a.getD q.1 0,q.2):=by
 refine yt λi=>?_;rw[cV];cases h:n.a[i]? with|none=>simp_all[R1,DK,nI]|some e=>rw[L0 h];have k:=(eM.mp h).1;exact DI.mpr (by simp[b,k],h)
def vE(hn:bw n)(h:ic n r fs):0<(bC n r).b/\(bC n r).a.length=n.a.length/\∀q∈bj 0 n.a,fK (bC n r).b ((bC n r).a.getD q.1 0)=jU (fs.getD q.1 aU) (bU q.2).g:=by
 have b:∀p∈(r.a.zip n.a).map (jr r),0<p.2:=λp c=>by obtain⟨q,g,rfl⟩:=cJ.mp c;have d:=hn.a _ (gd (show (Prod.mk q.1 q.2)∈_ from g)).2;unfold jr nA;exact(oJ (a:=q.1*q.2.g.2)<|fQ h.is.a0 d.f).2.2
 have c:0<(bC n r).b:=xn _ 1 b ⋯;refine(c,?_,λq g=>?_);unfold bC gG;rw[cb,cb,kG,h.tl];ac_rfl;have d:=hn.a _<|eJ g;have l:=(eM.mp<|jN g).1;obtain⟨u,k,_,_⟩:=h.at g;have f:q.1<r.a.length:=by rw[h.tl];exact l
 have j:(r.a.zip n.a)[q.1]?=ai (r.a.getD q.1 0,q.2):=DI.mpr (by nofun,jN g);have e:=vm b (i:=q.1) (q:=jr r (r.a.getD q.1 0,q.2)) (by rw[cV,j];rfl);have e:(((bC n r).a.getD q.1 0:ah):ak)=(bC n r).b*(((jr r (r.a.getD q.1 0,q.2)).1:ak)/((jr r (r.a.getD q.1 0,q.2)).2:ak)):=e;refine cM.a0 (qs _ _) (GV _ _) ?_;rw[oB,xP (show cM (bU q.2).g from fE _ _),e];unfold jr nA;rw[vo,fV,dF,dF];show _=_/aN (aQ _ _);rw[fV];dsimp only;rw[k];have t:=eZ c;have s:=eZ d.d;have o:=eZ d.f;have m:=eZ h.is.a0;(simp only[rR,Rat.inv_mul_rev,Rat.inv_inv]at*;grind -order -lia)
def LE(B z:ah):dS (cG (-1)) (fK B z)=fK B (-z):=by grind[cM.a0,gK,qs,iw,uh,oB,Dg,rR]
def zx(hn:bw n)(h:ic n r fs)(g:q∈bj 0 n.a):((bC n r).a.getD q.1 0=0↔gA (fs.getD q.1 aU)=ao)/\(0<(bC n r).a.getD q.1 0↔xY (fs.getD q.1 aU)=ao):=by
 obtain⟨m,_,l⟩:=vE hn h;have j:=hn.a _<|eJ g;obtain⟨i,_,_,_⟩:=h.at g;have e:=fk aN<|l q g;have a:aN (bU q.2).g=(q.2.g.1:ak)/q.2.g.2:=fV _ _;rw[oB,xP (show cM (bU q.2).g from fE _ _),a]at e;have b:=zb j.f j.d;have c:=kU.mpr m;have d:(((bC n r).a.getD q.1 0:ah):ak)=aN (fs.getD q.1 aU)*(((q.2.g.1:ak)/q.2.g.2)⁻¹ *(bC n r).b):=();have f:=uw (Hl.mpr b) c;generalize (((q.2.g.1:ak)/q.2.g.2)⁻¹ *(bC n r).b)=k at d f;constructor
 ·rw[nQ i];constructor;·intro z;rw[z]at d;grind
  ·intro z;nofun
 ·rw[ug i,<-kU,d];constructor
  ·intro z;by_cases w:0<aN (fs.getD q.1 aU);·symm
   ·have:=CK (x_ f) (show aN (fs.getD q.1 aU)<=0 by grind);grind
  all_goals (solve_by_elim[uw])
def K7(hn:bw n)(h:ic n r fs):Vbbcao.falls (aW n) fs=(df n (bC n r).a).map (tY (bC n r).b):=by
 obtain⟨A,t,v⟩:=vE hn h;unfold Vbbcao.falls df;rw[QY h.a2,Ew t,Ih,Ih,List.map_flatMap];have b:∀{j o:Type} (l:af j) (f g:j->af o),(∀a∈l,f a=g a)->l.flatMap f=l.flatMap g:=λl f g u=>by rw[N1,N1,lK u]
 refine b _ _ _ λq B=>?_;have w:=hn.a _<|eJ B;obtain⟨k,i⟩:=zx hn h B;have y:=w.n;have c:=v q B;generalize x:(bC n r).a.getD q.1 0=z at c k i;dsimp only;unfold mI;dsimp only;show(if q.2.c=2 then []else if q.2.c=0 then [(Prod.mk q.2.b<|Prod.mk q.2.a<|jU _ (bU q.2).g),(Prod.mk q.2.a<|Prod.mk q.2.b<|dS (cG (-1))<|jU _ (bU q.2).g)]else if gA _=ao then []else if xY _=ao then [(Prod.mk q.2.b<|Prod.mk q.2.a<|jU _ (bU q.2).g)]else [(Prod.mk q.2.a<|Prod.mk q.2.b<|dS (cG (-1))<|jU _ (bU q.2).g)])=_;rw[<-c,LE];by_cases s:q.2.c=2;nofun;rw[aE s];by_cases d:q.2.c=0;rw[aG d,aG<|.inl d,aG<|.inl d];rfl;have m:q.2.c=1:=!_;rw[aE d];by_cases p:z=0;nofun;rw[aE λq=>p<|k.mpr q];by_cases e:0<z;rw[aG<|i.mp e,aG<|.inr (m,e),aE (by nofun;lia)];rfl;rw[aE λq=>e<|i.mpr q,aE ∅,aG<|.inr (m,!_)];rfl
def m2{q:ah×bB}:s∈mI q↔(s=(q.2.b,q.2.a,q.1)/\(q.2.c=0\/(q.2.c=1/\0<q.1)))\/(s=(q.2.a,q.2.b,-q.1)/\(q.2.c=0\/(q.2.c=1/\q.1<0))):=by unfold mI;rw[nZ];split<;>split<;>simp[*]
def nq(hl:tops.length=n.a.length):s∈df n tops↔∃q∈bj 0 n.a,(s=(q.2.b,q.2.a,tops.getD q.1 0)/\(q.2.c=0\/(q.2.c=1/\0<tops.getD q.1 0)))\/(s=(q.2.a,q.2.b,-tops.getD q.1 0)/\(q.2.c=0\/(q.2.c=1/\tops.getD q.1 0<0))):=by unfold df;rw[Ew hl,List.flatMap_map,List.mem_flatMap];simp only[m2]
structure zI(n:aR)(r:bF)(fs:af dq)(k:ag)(e:bB):Prop where
 c:bw n
 a:ic n r fs
 g:jV (aW n) fs=ao
 d:fC n=ai k
 b:n.a[k]?=ai e
 f:0<r.a.getD k 0
def BD(h:fC n=ai k)(hq:q∈bj 0 n.a)(d:q.2.c=2):q.1=k:=by
 unfold fC at h;split at h;rename_i b;have e:q.1∈lZ n:=cJ.mpr (q,tr.mpr (hq,by rw[d];rfl),aa);cases c:lZ n with
 |nil=>rw[c]at b;cases b
 |cons a l=>nofun
 nofun
def o0(H:zI n r fs k e)(a:ag->ak):(a_ (bj 0 n.a) λq=>aN (fs.getD q.1 aU)*(a q.2.a- a q.2.b))=0:=by
 have o:=H.c;have h:=H.a;have u:∀v,v<n.b.length->(a_ (bj 0 n.a) λq=> -(aN (fs.getD q.1 aU)*(dD q.2 v:ak)))=0:=λv K=>by obtain⟨g1,g2⟩:=Ly o h.is.a1 h.a2 v;have:=H.g;unfold jV at this;rw[qH,mw]at this;have:=this.2 v<|jz.mpr (by rw[ly];exact K);rw[<-g2];exact(nQ g1).mp this
 have R:(aS n.b.length λv=>a v*a_ (bj 0 n.a) λq=> -(aN (fs.getD q.1 aU)*(dD q.2 v:ak)))=0:=mn λv K=>by rw[u v K];nofun
 have e2:(aS n.b.length λv=>a v*a_ (bj 0 n.a) λq=> -(aN (fs.getD q.1 aU)*(dD q.2 v:ak)))=aS n.b.length λv=>a_ (bj 0 n.a) λq=>a v* -(aN (fs.getD q.1 aU)*(dD q.2 v:ak)):=eP λv _=>(lC _ _ _).symm;rw[e2,ue]at R;rw[<-R];refine fF λq hq=>?_;have d:=o.a _<|eJ hq;have c1:((1:ah):ak)=1:=aa;have c2:((-1:ah):ak)= -1:=aa;have c3:((0:ah):ak)=0:=aa;rw[CG d.b d.a d.c λc _ g x=>by
  rcases lk d c with⟨i,j⟩|⟨i,j⟩|⟨i,J,j⟩;·symm
  ·symm
  ·rw[j,c3];nofun]
 have i1:dD q.2 q.2.b=1:=by
  rcases lk d q.2.b with⟨i,j⟩|⟨i,j⟩|⟨i,J,j⟩;·symm
  ·exact bG i d.c
  ·symm
 have i2:dD q.2 q.2.a= -1:=by
  rcases lk d q.2.a with⟨i,j⟩|⟨i,j⟩|⟨i,J,j⟩;·exact bG i.symm d.c
  all_goals symm
 rw[i1,i2,c1,c2];grind
def lm(H:zI n r fs k e)(K:vJ (df n (bC n r).a) f)(I:et f e.a=ao):∀s∈df n (bC n r).a,et f s.2.1=ao->0<s.2.2->et f s.1=ao:=by
 have l:=H.c;have h:=H.a;obtain⟨hB,F,hd⟩:=vE l h
 let i:ag->ak:=λv=>if et f v=ao then 1 else 0
 have o:=o0 H i
 have D:∀q∈bj 0 n.a,0<=aN (fs.getD q.1 aU)*(i q.2.a- i q.2.b):=λq hq=>by
  have a:=l.a _<|eJ hq;obtain⟨u,t⟩:=zx l h hq;obtain⟨y,x,hz,J⟩:=h.at hq;rw[nQ y]at u;rw[ug y]at t J;have hk:=a.n;show 0<=_*((if et f q.2.a=ao then(1:ak)else 0)-(if et f q.2.b=ao then 1 else 0));cases A:et f q.2.b with
  |true=>
   cases j:et f q.2.a with|true=>simp;grind|false=>
    have R:aN (fs.getD q.1 aU)<=0:=by
     by_cases w:0<aN (fs.getD q.1 aU)
     ·exfalso;by_cases B:q.2.c=2;·have:=BD H.d hq B;have M:=jN hq;rw[this,H.b]at M;have:=kX M;rw[this]at I;rw[I]at j;cases j
      ·have E:(q.2.b,q.2.a,(bC n r).a.getD q.1 0)∈df n (bC n r).a:=(nq F).mpr (q,hq,.inl (aa,by
        by_cases O:q.2.c=0;·symm
        ·exact .inr (!_,t.mpr w)))
       have:=K _ E A;rw[show et f q.2.a=ao from this]at j;cases j
     ·grind
    simp;grind
  |false=>
   cases j:et f q.2.a with|false=>simp;grind|true=>
    have S:0<=aN (fs.getD q.1 aU):=by
     by_cases w:aN (fs.getD q.1 aU)<0
     ·exfalso;by_cases B:q.2.c=2;·have:=BD H.d hq B;have g:=H.f;rw[<-this]at g;have:=J.mpr g;grind
      ·have E:(q.2.a,q.2.b,-(bC n r).a.getD q.1 0)∈df n (bC n r).a:=(nq F).mpr (q,hq,.inr (aa,by
        by_cases O:q.2.c=0;·symm
        ·refine .inr ((by left),?_);have n1:¬(bC n r).a.getD q.1 0=0:=λz=>by have:=u.mp z;nofun
         have Z:¬0<(bC n r).a.getD q.1 0:=λz=>by have:=t.mp z;grind
         lia))
       have:=K _ E j;rw[show et f q.2.b=ao from this]at A;cases A
     ·grind
    simp;grind
 have L:=CP D o;intro s C j hw;obtain⟨q,hq,G⟩:=(nq F).mp C;have a:=l.a _<|eJ hq;obtain⟨u,t⟩:=zx l h hq;obtain⟨y,_,_,_⟩:=h.at hq;rw[nQ y]at u;have z:=L q hq;rcases G with⟨rfl,_⟩|⟨rfl,_⟩<;>grind?
def Do(H:zI n r fs k e)(E:f=de n.b.length e.a (df n (bC n r).a) n.b.length):
  qv (df n (bC n r).a) (f.map (·.getD 0))=ao↔((df n (bC n r).a).foldl dE f=f/\∀s∈df n (bC n r).a,et f s.1=ao\/s.2.2=0):=by
 have t:=H.c;have B:=t.a e<|eC H.b;obtain⟨I,u,G⟩:=vE t H.a;have d:∀s∈df n (bC n r).a,s.1<n.b.length/\s.2.1<n.b.length:=λs a=>by
  obtain⟨q,J,i⟩:=(nq u).mp a;have o:=t.a _<|eJ J;rcases i with⟨e,_⟩|⟨e,_⟩<;>subst e;·exact(o.b,o.a)
  ·exact(o.a,o.b)
 have g:f.length=n.b.length:=by
  have b:∀k,(de n.b.length e.a (df n (bC n r).a) k).length=n.b.length:=λk=>by
   induction k with|zero=>simp[de]|succ k l=>rw[de,xq,l]
  nofun
 have i:vJ (df n (bC n r).a) f:=by rw[E];exact S8 B.a d
 have p:et f e.a=ao:=by
  have:∀k,et (de n.b.length e.a (df n (bC n r).a) k) e.a=ao:=λk=>by
   induction k with|zero=>unfold et de;rw[zt (by simpa using B.a),aG aa];rfl|succ k l=>
    refine Ko (λs a=>?_) l;have b:∀k,(de n.b.length e.a (df n (bC n r).a) k).length=n.b.length:=λk=>by
     induction k with|zero=>simp[de]|succ k l=>rw[de,xq,l]
    rw[b];exact(d s a).2
  nofun
 have D:=lm H i p;have c:∀v,(f.map (·.getD 0)).getD v 0=(f.getD v aq).getD 0:=λv=>by rw[gO,gO,cV];cases f[v]?<;>rfl
 have m:∀s∈df n (bC n r).a,s.2.2<=0->(s.2.1,s.1,-s.2.2)∈df n (bC n r).a:=λs a K=>by
  obtain⟨q,J,i⟩:=(nq u).mp a;refine(nq u).mpr (q,J,?_);rcases i with⟨e,h⟩|⟨e,h⟩;·left
  ·left
 rw[xd λs a=>by rw[g];exact(d s a).2];unfold qv;rw[mw];constructor
 ·intro h;have F:∀s∈df n (bC n r).a,s.2.2<=(f.getD s.2.1 aq).getD 0-(f.getD s.1 aq).getD 0:=λs a=>by have:=iM<|h s a;rw[c,c]at this;exact this
  refine(λs a=>?_,λs a=>?_)
  ·rw[RP<|g▸(d s a).2];cases z:f.getD s.1 aq with|none=>exact .inl aa|some x=>
    right;have A:et f s.1=ao:=by unfold et;rw[z];rfl
    have j:=i s a A;unfold et at j;cases C:f.getD s.2.1 aq with
    |none=>rw[C]at j;cases j
    |some y=>exact(x,y,aa,aa,by have:=F s a;rw[z,C]at this;exact Int.add_le_of_le_sub_left this)
  ·cases A:et f s.1 with|true=>exact .inl aa|false=>
    right;have z:f.getD s.1 aq=aq:=by simp_all[et]
    have K:=F s a;rw[z]at K;cases j:et f s.2.1 with
    |false=>
     have C:f.getD s.2.1 aq=aq:=by simp_all[et]
     rw[C]at K;have J:=F _<|m s a K;rw[z,C]at J;exact Int.le_antisymm K<|Int.le_of_neg_le_neg J
    |true=>
     by_cases w:0<s.2.2;exact(oT<|A.symm.trans<|D s a j w).elim;exact(oT<|A.symm.trans<|i _ (m s a<|Int.not_lt.mp w) j).elim
 rintro ⟨F,A⟩ s a;rw[c,c];refine vL ?_;rcases(RP<|g▸(d s a).2).mp<|F s a with F|⟨x,y,F,C,K⟩;have A:=(A s a).resolve_left λz=>by unfold et at z;rw[F]at z;cases z
 rw[F,A];cases C:f.getD s.2.1 aq;decide;have k:=i _ (m s a<|Int.le_of_eq A) (by unfold et;rw[C];rfl);unfold et at k;rw[F]at k;cases k;rw[F,C];exact Int.le_sub_left_of_add_le K
def aeN(B:ah)(N b:ag):(cg N (aq:aJ dq)).set b (ai aU)=gv B ((cg N (aq:aJ ah)).set b<|ai 0):=by grind[gv,n_,List.map_replicate,ZO,fK,Fg]
def wl(H:zI n r fs k e):Np (aW n) fs e.a=if qv (df n (bC n r).a) (dR n r e)=ao then ai (gv (bC n r).b<|de n.b.length e.a (df n (bC n r).a) n.b.length)else aq:=by
 have b:=H.c;obtain⟨a,i,o⟩:=vE b H.a;have l:∀s∈df n (bC n r).a,s.2.1<n.b.length:=λs d=>by obtain⟨q,p,m⟩:=(nq i).mp d;have g:=b.a _<|eJ p;rcases m with⟨e,_⟩|⟨e,_⟩<;>subst e;exact g.a;exact g.b
 have f:∀k,(de n.b.length e.a (df n (bC n r).a) k).length=n.b.length:=λk=>by
  induction k with|zero=>simp[de]|succ k h=>rw[de,xq,h]
 unfold Np;dsimp only;rw[K7 b H.a,ly,aeN (bC n r).b,WI a _ _ _ (by nofun;omega),<-VM,VN a _ _ (by nofun;omega)];have j:=Do H aa;have c:(gv (bC n r).b (uJ dE (de n.b.length e.a (df n (bC n r).a) n.b.length)<|df n (bC n r).a)=gv (bC n r).b (de n.b.length e.a (df n (bC n r).a) n.b.length)/\(((df n (bC n r).a).map<|tY (bC n r).b).all λc=>((gv (bC n r).b<|de n.b.length e.a (df n (bC n r).a) n.b.length).getD c.1 aq).isSome||gA c.2.2)=ao)↔qv (df n (bC n r).a) (dR n r e)=ao:=by show _↔qv _ ((de n.b.length e.a (df n (bC n r).a) n.b.length).map (·.getD 0))=ao;rw[j];refine and_congr (λq=>Tq a q,λq=>by rw[q]) ?_;rw[wB,mw];refine Xh λs=>Xh λd=>?_;show(((gv _ _).getD s.1 aq).isSome||gA (fK _ s.2.2))=ao↔_;rw[BA,wE a,HP,Bool.or_eq_true,xN];rfl
 (simp only[*])
def ae:aQ 1 1=cG 1:=⋯
def Id:aQ 0 1=aU:=⋯
def RC(hn:bw n)(h:ic n r fs)(O:jV (aW n) fs=ao)(F:fC n=ai k)(m:n.a[k]?=ai e):
  xX (aW n) fs=(lY n r k e).map λs=>(aQ s.b.1 s.b.2,s.a.map λq=>aQ q.1 q.2):=by
 have N:=(eM.mp m).1;have G:=xl m;obtain⟨V,U,T,M⟩:=h.at G;have R:(aW n).edges[k]?=ai (bU e):=by show(n.a.map bU)[k]?=_;rw[cV,m];rfl
 have Q:fs[k]?=ai (fs.getD k aU):=by
  have:k<fs.length:=by rw[h.a2];exact N
  nofun
 unfold xX;rw[<-Fl,F];dsimp only;rw[R,Q];dsimp only;unfold lY;by_cases p:0<r.a.getD k 0
 ·rw[aE (by rw[M.mpr p];decide),aE !_];have H:zI n r fs k e:=(hn,h,O,F,m,p);have i:=wl H;have i:Np (aW n) fs (bU e).b=_:=i;rw[i];by_cases q:qv (df n (bC n r).a) (dR n r e)=ao
  ·rw[aG q,aG q];obtain⟨D,w,I⟩:=vE hn h;have C:∀v,((gv (bC n r).b<|de n.b.length e.a (df n (bC n r).a) n.b.length).getD v aq).getD aU=fK (bC n r).b ((dR n r e).getD v 0):=λv=>by
    rw[BA];have:(dR n r e).getD v 0=((de n.b.length e.a (df n (bC n r).a) n.b.length).getD v aq).getD 0:=by unfold dR xu;rw[gO,gO,cV];cases(de n.b.length e.a (df n (bC n r).a) n.b.length)[v]?<;>rfl
    rw[this];cases(de n.b.length e.a (df n (bC n r).a) n.b.length).getD v aq with|none=>exact(Fg _).symm|some z=>rfl
   dsimp only;show ai (Prod.mk _ _)=ai (Prod.mk _ _);congr 2;·show iP _ (jU _ (bU e).g)=_;rw[show(bU e).a=e.b from aa,C,<-I _ G,To D,zc];grind[cM.a0,qs,fE,oB,fV,Int.add_comm]
   ·rw[QY h.a2,Ew w,eS,eS,eS];refine lK λc d=>?_;have J:=hn.a _<|eJ d;obtain⟨L,S⟩:=zx hn h d;show(if c.2.c≠1 then cG 1 else if gA (fs.getD c.1 aU)=ao then aU else jU (fs.getD c.1 aU)<|dS (bU c.2).g<|gW ((qa _ (bU c.2).b aq).getD aU)<|(qa _ (bU c.2).a aq).getD aU)=aQ (ny (dR n r e) ((bC n r).a.getD c.1 0,c.2)).1 (ny (dR n r e) ((bC n r).a.getD c.1 0,c.2)).2;unfold ny;dsimp only;by_cases u:c.2.c=1
    ·have l:¬c.2.c≠1:=λz=>z u;rw[aE l,aE l];by_cases E:(bC n r).a.getD c.1 0=0;·grind[Id]
     ·rw[aE λz=>E<|L.mpr z,aE E];rw[C,C,GE D,zc];have A:=fk aN<|I _ d;rw[oB,xP (show cM (bU c.2).g from fE _ _)]at A;have f:=mw.mp q;have x:aN (bU c.2).g=(c.2.g.1:ak)/c.2.g.2:=fV _ _;have y:=zb J.f J.d;rw[<-x]at y;show jU _ (dS _<|fK _<|(dR n r e).getD c.2.a 0-(dR n r e).getD c.2.b 0)=_;refine cM.a0 (GV _ _) (fE _ _) ?_;rw[xP<|gK _ _,iw,oB,fV];have P:=eZ D;by_cases K:0<(bC n r).a.getD c.1 0;·have j:(c.2.b,c.2.a,(bC n r).a.getD c.1 0)∈df n (bC n r).a:=(nq w).mpr (c,d,.inl (aa,.inr (u,K)));have a:=iM<|f _ j;dsimp only at a;have t:(((bC n r).a.getD c.1 0).natAbs:ah)=(bC n r).a.getD c.1 0:=!_;have o:(((dR n r e).getD c.2.a 0-(dR n r e).getD c.2.b 0).natAbs:ah)=(dR n r e).getD c.2.a 0-(dR n r e).getD c.2.b 0:=!_;have B:=eZ (show 0<(dR n r e).getD c.2.a 0-(dR n r e).getD c.2.b 0 by lia);rw[t,o];(simp only[rR,Rat.inv_mul_rev]at*;grind?)
      ·have j:(c.2.a,c.2.b,-(bC n r).a.getD c.1 0)∈df n (bC n r).a:=(nq w).mpr (c,d,.inr (aa,.inr (u,!_)));have a:=iM<|f _ j;dsimp only at a;have t:(((bC n r).a.getD c.1 0).natAbs:ah)= -(bC n r).a.getD c.1 0:=();have o:(((dR n r e).getD c.2.a 0-(dR n r e).getD c.2.b 0).natAbs:ah)= -((dR n r e).getD c.2.a 0-(dR n r e).getD c.2.b 0):=();have B:(((dR n r e).getD c.2.a 0-(dR n r e).getD c.2.b 0:ah):ak)≠0:=λz=>by have:=sZ.mp z;lia
       rw[t,o,Dg,Dg];(simp only[rR,Rat.inv_mul_rev]at*;grind?)
    all_goals simp[*,ae]
  all_goals simp[*]
 ·grind
structure Cp(n:aR)(r:bF)(ps:af (ah×ah)):Prop where
 b:r=gG ps
 c:ps.length=n.a.length
 a:∀q∈ps,0<q.2/\aI 60 q.1/\aI 60 q.2
def z8(hn:bw n)(h:Cp n r ps):∀q∈(r.a.zip n.a).map (jr r),0<q.2/\aI 80 q.1/\aI 80 q.2:=λq g=>by
 obtain⟨p,x,rfl⟩:=cJ.mp g;obtain⟨i,B,e⟩:=iC x;have w:(r.a.zip n.a)[i]?=ai p:=();obtain⟨t,o⟩:=DI.mp w;have k:i<n.a.length:=(eM.mp o).1;have c:i<ps.length:=by rw[h.c];exact k
 have b:=cK c;have f:=hn.a p.2<|eC o;obtain⟨s,v,u⟩:=h.a _<|eC b;have d:=vm (λq g=>(h.a q g).1) b;have m:0<r.b:=by rw[h.b];exact xn ps 1 (λq g=>(h.a q g).1) ⋯
 rw[<-h.b,gO,t]at d;have d:(p.1:ak)=r.b*(((ps[i]).1:ak)/((ps[i]).2:ak)):=d;have j:aQ (p.1*p.2.g.2) (r.b*p.2.g.1)=aQ ((ps[i]).1*p.2.g.2) ((ps[i]).2*p.2.g.1):=by refine cM.a0 (fE _ _) (fE _ _) ?_;rw[fV,fV,dF,dF,dF,dF,d];have A:=eZ m;have z:=eZ s;have y:=eZ f.f;(simp only[rR,Rat.inv_mul_rev]at*;grind?)
 unfold jr nA;dsimp only;rw[j];have l:=oJ (a:=(ps[i]).1*p.2.g.2)<|fQ s f.f;exact(l.2.2,jg l.1<|(v.a1 f.i.2).a0 ⋯,jg l.2.1<|(u.a1 f.i.1).a0 ⋯)
def Wh(hn:bw n)(h:Cp n r ps):aI 1121 (bC n r).b/\∀i,aI 1201<|(bC n r).a.getD i 0:=by
 have a:=z8 hn h;have j:=BI (n:=80) (l:=(r.a.zip n.a).map<|jr r) (b:=1) (m:=1) (λq p=>(a q p).1) (λq p=>(a q p).2.2) ⋯ aI.a2;have k:=KZ ((r.a.zip n.a).map<|jr r) 1 1 (λq p=>(a q p).1) ⋯ ⋯;have c:=xn ((r.a.zip n.a).map<|jr r) 1 (λq p=>(a q p).1) ⋯;have d:aI 1121 (bC n r).b:=by refine(jg (b:=((r.a.zip n.a).map<|jr r).foldl (λb q=>b*q.2) 1) ?_ j.2).a0 ?_;show(((r.a.zip n.a).map<|jr r).foldl jK 1).natAbs<=_;grind;rw[cb,kG];have:=hn.c;lia
 refine(d,λi=>?_);unfold bC gG;rw[gO,cV];cases e:((r.a.zip n.a).map<|jr r)[i]? with|none=>show aI 1201 (0:ah);exact yo _|some q=>obtain⟨g,f,o⟩:=a q<|eC e;exact(f.a1<|d.a3 g).a0 ⋯
def Cv(c:ag)(f:af (aJ ah)):Prop:=∀v x,f.getD v aq=ai x->x.natAbs<=c
def P7(h:Cv c f)(d:s.2.1<f.length)(j:s.2.2.natAbs<=M):Cv (c+M) (dE f s):=λv x a=>by
 have o:∀{v x},f.getD v aq=ai x->x.natAbs<=c+M:=λa=>fx (h _ _ a) (Nat.le_add_right ..)
 unfold dE at a;cases e:f.getD s.1 aq with|none=>rw[e]at a;exact o a|some y=>
  have i:(y+s.2.2).natAbs<=c+M:=fx (Int.natAbs_add_le ..) (Nat.add_le_add (h _ y e) j);rw[e]at a;dsimp only at a;rw[zt d]at a;split at a;cases b:f.getD s.2.1 aq with|none=>rw[b]at a;cases a;exact i|some z=>rw[b]at a;cases a;dsimp only;rcases Int.le_total z (y+s.2.2)with u|u;rw[Int.max_eq_right u];exact i;rw[Int.max_eq_left u];exact o b
  exact o a
def VL:∀(l:af gF) {c:ag} {f:af (aJ ah)},Cv c f->(∀s∈l,s.2.1<f.length/\s.2.2.natAbs<=M)->Cv (c+l.length*M) (l.foldl dE f)
 |[],c,f,h,_=>by simpa using h|s::l,c,f,h,a=>by
  have e:(dE f s).length=f.length:=by unfold dE;split<;>simp
  have:=VL l (P7 h (a s (_)).1 (a s (_)).2) λt d=>by rw[e];exact a t<|cO _ d
  rw[fO];intro v x b;have:=this v x b;rw[ij,Dy];grind
def VJ(hst:st'<N)(c:∀s∈steps,s.2.1<N/\s.2.2.natAbs<=M):∀k,Cv (k*(steps.length*M))<|de N st' steps k
 |0=>λv x a=>by unfold de at a;rw[zt ∅]at a;split at a;nofun;left|k+1=>by
  have b:∀k,(de N st' steps k).length=N:=λk=>by
   induction k with|zero=>simp[de]|succ k d=>rw[de,xq,d]
  have:=VL steps (VJ hst c k) λs e=>by rw[b];exact c s e
  intro v x a;have:=this v x a;rw[Dy];exact this
def G0{q:ah×bB}:(mI q).length<=2:=by unfold mI;split<;>split<;>exact wx aa
def M7(hn:bw n)(h:Cp n r ps)(g:(bC n r).a.length=n.a.length)(i:e.a<n.b.length)(v:ag):aI 1209 ((dR n r e).getD v 0):=by
 have j:=(Wh hn h).2;have b:∀s∈df n (bC n r).a,s.2.1<n.b.length/\s.2.2.natAbs<=2^1201:=λs b=>by obtain⟨q,w,k⟩:=(nq g).mp b;have d:=hn.a _<|eJ w;have f:=j q.1;unfold aI at f;rcases k with⟨e,_⟩|⟨e,_⟩<;>subst e<;>dsimp only;exact(d.a,(by apply Nat.le_of_lt;solve_by_elim));exact(d.b,(by left))
 have a:(df n (bC n r).a).length<=28:=by
  unfold df;have c:∀l:af (ah×bB),(l.flatMap mI).length<=2*l.length:=by
   intro l;induction l with|nil=>simp|cons q l p=>rw[uK,hU,ij];have:=G0 (q:=q);lia
  have:=c<|(bC n r).a.zip n.a;rw[kG]at this;have:=hn.c;left
 have m:=VJ (st':=e.a) i b n.b.length;have o:(dR n r e).getD v 0=((de n.b.length e.a (df n (bC n r).a) n.b.length).getD v aq).getD 0:=by (simp_all[dR,xu];grind?)
 rw[o];cases q:(de n.b.length e.a (df n (bC n r).a) n.b.length).getD v aq with|none=>exact yo _|some x=>have u:=m v x q;have t:n.b.length*((df n (bC n r).a).length*2^1201)<=8*(28*2^1201):=uE hn.d<|p_ _ a;show x.natAbs<2^1209;grind
def iK(q:ah×ah):Prop:=bh (aQ q.1 q.2)=q
def Ch(h:cM x):iK (bh x):=by unfold iK;rw[Fd h]
def BN(a b:ah):iK (bh<|aQ a b):=Ch<|fE _ _
def Lm(ha:0<=a)(c:0<b):0<=(bh<|aQ a b).1:=by simp_all[xp,Bb]
def L7(H:zI n r fs k e)(hk:qv (df n (bC n r).a) (dR n r e)=ao):0<=(dR n r e).getD e.b 0:=by
 have o:=H.c;have h:=H.a;have W:=xl H.b;have Q:=o.a e<|eC H.b;obtain⟨hB,O,hd⟩:=vE o h;have b:=mw.mp hk
 generalize P:dR n r e=m at b;let a:ag->ak:=λv=>((m.getD v 0:ah):ak);have B:=o0 H a
 have N:∀q∈bj 0 n.a,q.2.c≠2->0<=aN (fs.getD q.1 aU)*(a q.2.a- a q.2.b):=λq hq U=>by
  have d:=o.a _<|eJ hq;obtain⟨Z,T⟩:=zx o h hq;obtain⟨L,K,hz,V⟩:=h.at hq;rw[nQ L]at Z;rw[ug L]at T;have g3:=d.n;by_cases z0:(bC n r).a.getD q.1 0=0;·nofun
  ·by_cases S:0<(bC n r).a.getD q.1 0
   ·have p:(q.2.b,q.2.a,(bC n r).a.getD q.1 0)∈df n (bC n r).a:=(nq O).mpr (q,hq,.inl (aa,by
     by_cases k0:q.2.c=0;·symm
     ·exact .inr (!_,S)))
    have hw:=iM<|b _ p;dsimp only at hw;have g:=T.mp S;have x:0<=a q.2.a- a q.2.b:=by show(0:ak)<=((m.getD q.2.a 0:ah):ak)-((m.getD q.2.b 0:ah):ak);rw[<-qR];exact FC !_
    exact mU (x_ g) x
   ·have p:(q.2.a,q.2.b,-(bC n r).a.getD q.1 0)∈df n (bC n r).a:=(nq O).mpr (q,hq,.inr (aa,by
     by_cases k0:q.2.c=0;·symm
     ·exact .inr (!_,!_)))
    have hw:=iM<|b _ p;dsimp only at hw;have g:aN (fs.getD q.1 aU)<=0:=();have x:0<=a q.2.b- a q.2.a:=by show(0:ak)<=((m.getD q.2.b 0:ah):ak)-((m.getD q.2.a 0:ah):ak);rw[<-qR];exact FC !_
    have:=MQ g (show a q.2.a- a q.2.b<=0 by grind);exact this
 obtain⟨g0,z,C⟩:=J1 W;rw[C,LB]at B;have M:0<=a_ (g0++z) λq=>aN (fs.getD q.1 aU)*(a q.2.a- a q.2.b):=vV λq hq=>by
  have D:q∈bj 0 n.a:=();refine N q D λU=>?_;have g:=BD H.d D U;have E:((bj 0 n.a).map (·.1)).Nodup:=by rw[Gb];exact ZQ
  rw[C,eV,eE,Ou]at E;obtain⟨_,n2,n3⟩:=E;rcases nZ.mp hq with hq|hq;·exact n3 q.1 (AA hq) k (_) g
  ·grind?
 obtain⟨L,_,_,V⟩:=h.at W;have hx:=(ug L).mp<|V.mpr H.f;have F:a e.a<=a e.b:=by
  by_cases w:a e.a<=a e.b;·symm
  ·have g:0<a e.a- a e.b:=();have x:=uw hx g;grind
 have F:m.getD e.a 0<=m.getD e.b 0:=Ab.mp F;have h0:0<=m.getD e.a 0:=by
  rw[<-P];have R:(dR n r e).getD e.a 0=((de n.b.length e.a (df n (bC n r).a) n.b.length).getD e.a aq).getD 0:=by unfold dR xu;left
  have g4:∀s∈df n (bC n r).a,s.2.1<n.b.length:=λs hs=>by
   obtain⟨q,hq,hc⟩:=(nq O).mp hs;have Y:=o.a _<|eJ hq;rcases hc with⟨e,_⟩|⟨e,_⟩<;>subst e;·exact Y.a
   ·exact Y.b
  have I:∀(l:af gF) (f:af (aJ ah)),(∀s∈l,s.2.1<f.length)->(∃y,f.getD e.a aq=ai y/\0<=y)->∃y,(l.foldl dE f).getD e.a aq=ai y/\0<=y:=λl f h z=>by obtain⟨y,g,x⟩:=z;obtain⟨z,c,d⟩:=C0 h g;exact(z,c,Int.le_trans x d)
  have G:∀k,∃y,(de n.b.length e.a (df n (bC n r).a) k).getD e.a aq=ai y/\0<=y:=λk=>by
   have X:∀k,(de n.b.length e.a (df n (bC n r).a) k).length=n.b.length:=λk=>by
    induction k with|zero=>simp[de]|succ k A=>rw[de,xq,A]
   induction k with|zero=>refine(0,?_,⋯);unfold de;rw[zt (by simpa using Q.a),aG aa]|succ k A=>exact I _ _ (by nofun;omega) A
  obtain⟨y,g,x⟩:=G n.b.length;nofun
 lia
structure WT(s:oQ)(m:ag):Prop where
 d:s.a.length=m
 e:0<=s.b.1
 f:0<s.b.2
 a:aI 1290 s.b.1/\aI 1290 s.b.2
 b:iK s.b
 o:∀q∈s.a,0<=q.1/\0<q.2/\aI 1300 q.1/\aI 1300 q.2/\iK q
def JL(hn:bw n)(h:ic n r fs)(J:jV (aW n) fs=ao)(E:fC n=ai k)(o:n.a[k]?=ai e)(x:Cp n r ps)(f:lY n r k e=ai s):WT s n.a.length:=by
 obtain⟨A,d,R⟩:=vE hn h;obtain⟨C,u⟩:=Wh hn x;have K:=hn.a e<|eC o;have g:=λv=>M7 hn x d K.a v;unfold lY at f;split at f;nofun;rename_i P;split at f;rename_i z;cases f;have H:zI n r fs k e:=(hn,h,J,E,o,∅);have m:=mw.mp z;have G:=L7 H z;have y:=xl o;obtain⟨O,D⟩:=zx hn h y;obtain⟨Q,_,_,j⟩:=h.at y;have w:0<(bC n r).a.getD k 0:=D.mpr<|j.mpr (show 0<r.a.getD k 0 by nofun);have b:=oJ (a:=(bC n r).a.getD k 0+(dR n r e).getD e.b 0) A;refine(by show(((bC n r).a.zip n.a).map _).length=_;rw[cb,kG,d];simp,Lm (by lia) A,b.2.2,(jg b.1<|((u k).a5<|g e.b).a0 ⋯,jg b.2.1<|C.a0 ⋯),BN _ _,λq hq=>?_);have hq:q∈((bC n r).a.zip n.a).map (ny<|dR n r e):=hq;rw[Ew d,eS]at hq;obtain⟨p,c,rfl⟩:=cJ.mp hq;show 0<=(ny (dR n r e) ((bC n r).a.getD p.1 0,p.2)).1/\0<(ny (dR n r e) ((bC n r).a.getD p.1 0,p.2)).2/\aI 1300 (ny (dR n r e) ((bC n r).a.getD p.1 0,p.2)).1/\aI 1300 (ny (dR n r e) ((bC n r).a.getD p.1 0,p.2)).2/\iK (ny (dR n r e) ((bC n r).a.getD p.1 0,p.2));unfold ny;dsimp only;split;exact(⋯,⋯,(aI.a2:aI 1 1).a0 ⋯,(aI.a2:aI 1 1).a0 ⋯,by unfold iK;decide);rename_i i;split;exact(⋯,⋯,(aI.a2:aI 1 0).a0 ⋯,(aI.a2:aI 1 1).a0 ⋯,by unfold iK;decide);rename_i N;have i:p.2.c=1:=∅;have I:(dR n r e).getD p.2.a 0-(dR n r e).getD p.2.b 0≠0:=by by_cases B:0<(bC n r).a.getD p.1 0;have l:(p.2.b,p.2.a,(bC n r).a.getD p.1 0)∈df n (bC n r).a:=(nq d).mpr (p,c,.inl (aa,.inr (i,B)));grind;have l:(p.2.a,p.2.b,-(bC n r).a.getD p.1 0)∈df n (bC n r).a:=(nq d).mpr (p,c,.inr (aa,.inr (i,!_)));grind
 have t:(0:ah)<(((dR n r e).getD p.2.a 0-(dR n r e).getD p.2.b 0).natAbs:ah):=∅;have F:=oJ (a:=(((bC n r).a.getD p.1 0).natAbs:ah)) t;have L:=u p.1;have M:=(g p.2.a).a4<|g p.2.b;exact(Lm (Int.natCast_nonneg _) t,F.2.2,jg F.1 (by unfold aI;rw[Int.natAbs_natCast];exact L.a0 ⋯),jg F.2.1 (by unfold aI;rw[Int.natAbs_natCast];exact M.a0 ⋯),BN _ _);lia
def qu:Mu:=(λn h=>FR h<|tV h,λn k h c=>FR h<|TM h k,λn h=>by obtain⟨b,a⟩:=FW<|FR h<|tV h;exact adP h b a)
def lq(h:bw n):ic n (dg n) (fi<|aW n):=by obtain⟨a,b⟩:=FW<|FR h<|tV h;exact(a,O7 h,by rw[Lr];simp[aW])
def dH(q:ah×ah):af ah:=[q.1,q.2]
section
variable{X:bA}{b c:ay}{g:af bL}{j e:bI}{f:af az}
def co(h:aA X e (aP b c g<|.f f)):fz X j e (kJ b c g f):=sI (abu h) λD H R (F,A,k)=>(F,A,λv C B p o q=>by
 cases q using W3 with|a3 e r=>
  rename_i a l;refine(a,aa,(_,iS.of<|o.fh _ _ e),k _ C B p o (λi F H s t n=>?_,λi F H x E d s t w m=>?_,λi F H s t n=>?_));have u:i<l.length:=by rw[r.a1];exact n
  exact(l,l[i],iS.of<|t _ _<|s _ _ e,by simp);obtain⟨rfl,m⟩:=m;obtain⟨v,z,y⟩:=r.a4 w;have:=m l<|iS.of<|t _ _<|s _ _ e;rw[z]at this;cases this;exact(F,cZ.a3 t,y.up s);exact(l,iS.of<|t _ _<|s _ _ e,by rw[r.a1];exact n))
end
section
variable{K:aZ}
def Ss:bW ["network","numbers","rows","flows"] ["network","numbers","rows"] (bf<|aK 104):={}
def l9(J:cq K e c):cI P w K e b 47 "answer_work" (mM c (λ_=>eA) λa=>0::(dH (bh<|nj a.n<|dg a.n)++dH (bh<|(mh a.n<|dg a.n).getD aU))):=by refine cW (k:=46) J.c2 Ss λq p o d m l=>?_;obtain⟨⟨n,j,i⟩,rfl,f,_,rfl⟩:=l;have f:bw n:=f;have h:=lq f;obtain⟨x,g⟩:=Vv f h;have g:mh n (dg n)=ai x:=g;refine fB (aL (cB 3 (aY (xo J) #[(0)] (n,aa,qu.a n f,aa)) Ss.a)<|aX<|bb<|bJ<|jl (bJ<|jl (bJ<|cQ #[aF]) (bJ<|tR J.T.j<|aY (UW J) #[(0),(3)] ((n,dg n),aa,f,h.a4,aa)) ?_) (bJ<|tR J.T.j<|dY (aY (Vk J) #[(0),(3)] ((n,dg n),aa,f,h.a4,aa)) (show(match mh n (dg n)with|none=>az.e|some x=>vF x)=vF x by rw[g])) ?_) ?_;nofun;nofun;show _=az.d ((0::(dH (bh<|nj n<|dg n)++dH (bh<|(mh n<|dg n).getD aU))).map az.a);rw[g];rfl
structure mL(t:af ah):Prop where
 b:t.length<=40
 a:∀z∈t,aI 60 z
def Kj:bW ["network","numbers","rows","flows","pressures"] ["network","numbers","rows"] (bf<|aK 105):={}
def LY(a:iL):af ah:=match fM (a.c.getD 0 []),fM (a.c.getD 1 [])with
 |some r,ai p=>[0,if sD a.n r p=ao then 1 else 0]|_,_=>[-1]
def i'(J:cq K e c):cI P w K e b 47 "answer_check" (mM c (λa=>∃s t,a.c=[s,t]/\mL s/\mL t) LY):=by
 refine cW (k:=46) J.b5 Kj λx v z d y o=>?_;obtain⟨⟨n,i,g⟩,rfl,m,⟨s,t,f,l,j⟩,rfl⟩:=o;have f:g=[s,t]:=f;subst f;have m:bw n:=m;refine aL (cB 3 (aY (BR J) #[bt (2) aF di] (s,aa,l.b,l.a,aa)) Kj.a)<|aL (cB 4 (aY (BR J) #[bt (2) aF eH] (t,aa,j.b,j.a,aa)) Kj.a) ?_;show bg _ _<|cT x v [.a<|bp c n,.a<|aM i,.a<|.d<|[s,t].map aM,.a (match fM s with|none=>az.e|some r=>bX c r),.a (match fM t with|none=>az.e|some r=>bX c r)]<|.b<|aM (match fM s,fM t with|some r,ai p=>[0,if sD n r p=ao then 1 else 0]|_,_=>[-1]);cases u:fM s with|none=>exact aX (bK (jD.pt<|er (eX (3)) λ_=>(dQ<|eX (4))) (λ_=>aX<|bb<|bJ<|cQ #[cY J.T.i]) ())|some r=>
  cases q:fM t with|none=>exact aX (bK (jD.pt<|er (eX (3)) λ_=>(dQ<|eX (4))) (λ_=>aX<|bb<|bJ<|cQ #[cY J.T.i]) ())|some p=>refine aL (bK (jD.pt<|er (eX (3)) λ_=>(dQ<|eX (4))) ()<|λ_=>bV) ?_;refine aX<|bb<|bJ<|cQ #[aF,sA (d_<|aY (o9 J) #[(0),(3),(4)] ((n,r,p),aa,m,zu l.b l.a u,zu j.b j.a q,aa)) (λh=>by rw[aG h];exact aF)<|λh=>by rw[aE λz=>oT<|h.symm.trans z];exact aF]
def Ki:bW ["network","numbers","rows","flows","energy"] ["network","numbers","rows"] (bf<|aK 106):={}
def Gf(a:iL):af ah:=match fM (a.c.getD 0 [])with
 |none=>[-1]|some r=>if jP a.n r.a=aw then [-4]else match kR a.n r with|none=>[-6]|some x=>0::(dH x++dH ((kR a.n<|dg a.n).getD (0,1)))
def ga(J:cq K f b):cI P w K f c 47 "answer_energy" (mM b (λa=>∃t,a.c=[t]/\mL t) Gf):=by
 refine cW (k:=46) J.G Ki λv u F d C A=>?_;obtain⟨⟨n,i,j⟩,rfl,g,⟨t,e,l⟩,rfl⟩:=A;have e:j=[t]:=e;subst e;have g:bw n:=g;have q:=lq g;refine aL (cB 3 (aY (BR J) #[bt (2) aF di] (t,aa,l.b,l.a,aa)) Ki.a) ?_;show bg _ _ (cT v u [.a<|bp b n,.a<|aM i,.a<|.d<|[t].map aM,.a (match fM t with|none=>az.e|some r=>bX b r),.b] (.b (aM (match fM t with|none=>[-1]|some r=>if jP n r.a=aw then [-4]else match kR n r with|none=>[-6]|some x=>0::(dH x++dH ((kR n<|dg n).getD (0,1)))))))
 cases B:fM t with|none=>exact aX (bK (eX (3)) (λ_=>aX<|bb<|bJ<|cQ #[cY J.T.i]) ())|some r=>
  have o:=zu l.b l.a B;refine aL (bK (eX (3)) ()<|λ_=>bV) ?_;by_cases s:jP n r.a=ao;refine aL (bK (ef<|d_<|aY (zr J) #[(0),(3)] ((n,r),aa,g,aa)) (λh=>by rw[show jP n r.a=ao from s]at h;cases h)<|λ_=>bV) ?_;refine aL (cB 4 (aY (Vm J) #[(0),(3)] ((n,r),aa,g,o,aa)) Ki.a) ?_;show bg _ _ (cT v u [.a<|bp b n,.a<|aM i,.a<|.d<|[t].map aM,.a<|bX b r,.a (match kR n r with|none=>az.e|some x=>cE x)] (.b (aM (if jP n r.a=aw then [-4]else match kR n r with|none=>[-6]|some x=>0::(dH x++dH ((kR n<|dg n).getD (0,1)))))))
  rw[aE (by rw[s];decide)];cases E:kR n r with|none=>exact aX (bK (eX (4)) (λ_=>aX<|bb<|bJ<|cQ #[cY J.T.u]) ())|some x=>
   obtain⟨y,m⟩:=Vv g q;have m:kR n (dg n)=ai ((kR n<|dg n).getD (0,1)):=by simp_all[kR,mh,dg]
   generalize (kR n<|dg n).getD (0,1)=z at m;refine aL (bK (eX (4)) ()<|λ_=>bV)<|fB (aX<|bb<|bJ<|jl (bJ<|jl (bJ<|cQ #[aF]) (bJ<|tR J.T.j (4))<|wx aa) (bJ<|tR J.T.j<|dY (aY (Vm J) #[(0),aY (xo J) #[(0)] (n,aa,qu.a n g,aa)] ((n,dg n),aa,g,q.a4,aa)) (show(match kR n (dg n)with|none=>az.e|some x=>cE x)=cE z by rw[m]))<|wx aa) aa
  have p:jP n r.a=aw:=∅;refine fB (aX<|bK (ef<|d_<|aY (zr J) #[(0),(3)] ((n,r),aa,g,aa)) (λ_=>aX<|bb<|bJ<|cQ #[cY J.T.E]) (λh=>by rw[show jP n r.a=aw from p]at h;cases h)) ?_;nofun
def Sr:bW ["network","numbers","rows","flows"] ["network","numbers","rows"] (bf<|aK 107):={}
def oN(h:dB n i=ao):∃k:ag,i=(k:ag)/\k<n.a.length:=by unfold dB at h;simp at h;exact(i.toNat,!_,∅)
def Me{a:af ah}(h:k<a.length):fZ (a.map az.a) ((k:ag):ah)=ai (.a<|a.getD k 0):=js h
def Gs(a:iL):af ah:=if dB a.n (a.b.getD 0 0)=aw\/dB a.n (a.b.getD 1 0)=aw then [-1]else 0::dH (bh<|aQ ((hG a.n<|f_ a.n (a.b.getD 0 0).toNat).a.getD (a.b.getD 1 0).toNat 0) (hG a.n<|f_ a.n (a.b.getD 0 0).toNat).b)
def X9(J:cq K f b):cI P w K f c 47 "answer_across" (mM b (λa=>∃i j,a.b=[i,j]) Gs):=by refine cW (k:=46) J.b9 Sr λz y C d A x=>?_;obtain⟨⟨n,l,r⟩,rfl,q,⟨i,j,e⟩,rfl⟩:=x;have e:l=[i,j]:=e;subst e;have q:bw n:=q;show bg _ _<|cT z y _<|.b<|aM (if dB n i=aw\/dB n j=aw then [-1]else 0::dH (bh<|aQ ((hG n<|f_ n i.toNat).a.getD j.toNat 0) (hG n<|f_ n i.toNat).b));by_cases g:dB n i=aw\/dB n j=aw;rw[aG g];exact aX<|bK (jD.pt<|er (ef<|d_<|aY (oH J) #[(0),bt (1) aF di] ((n,i),aa,aa)) λ_=>(dQ<|ef<|d_<|aY (oH J) #[(0),bt (1) aF eH] ((n,j),aa,aa))) (λ_=>(aX<|bb<|bJ<|cQ #[cY J.T.i])) (λh=>by have h:(!dB n i|| !dB n j)=aw:=h;rcases g with g|g<;>rw[g]at h<;>simp at h);rw[aE g];have u:dB n i=ao:=∅;have t:dB n j=ao:=∅;obtain⟨k,rfl,s⟩:=oN u;obtain⟨m,rfl,B⟩:=oN t;have o:=qu.c n k q s;obtain⟨p,v⟩:=FW o;refine aL (bK (jD.pt<|er (ef<|d_<|aY (oH J) #[(0),bt (1) aF di] ((n,k),aa,aa)) λ_=>(dQ<|ef<|d_<|aY (oH J) #[(0),bt (1) aF eH] ((n,m),aa,aa))) (λh=>by have h:(!dB n k|| !dB n m)=ao:=h;rw[u,t]at h;cases h)<|λ_=>bV)<|fB (aL (cB 3 (aY (u9 J) #[(0),bt (1) aF di] ((n,k),aa,s,o,aa)) Sr.a)<|aX<|bb<|bJ<|jl (bJ<|cQ #[aF]) (bJ<|tR J.T.j<|aY (nG J) #[bt (cC 0 J.T.d (3)) (bt (1) aF eH)<|Me ∅,cC 1 J.T.d (3)] (_,_,aa,p.b,aa))<|wx aa) ?_;rfl
def Sn:bW ["network","numbers","rows","warmths"] ["network","numbers","rows"] (bf<|aK 113):={}
def I0(g:∀s∈b,mj m s/\0<s.headD 0)(y:0<sc):0<gH b sc:=by unfold gH;split;exact y;rename_i s h;exact(g s (List.mem_of_getLast? h)).2
def aeI(hl:eqs.length<=8)(u:2^eqs.length*(m+1)<=10000000)(q:mK m eqs sc)(d:aI m sc)(y:0<sc)(e:pE eqs sc=ai r):0<r.b/\aI 10000000 r.b/\(∀t∈r.a,aI 95000000 t)/\r.a.length=eqs.length:=by
 unfold pE at e;obtain⟨b,x,rfl⟩:=p'.mp e;obtain⟨A,h⟩:=mK.a2 q aa x;have v:m<=2^eqs.length*(m+1):=by
  have:1<=2^eqs.length:=Dz
  calc m<=1*(m+1):=¬_
   _<=_:=p_ _ this
 have g:∀s∈b,mj 10000000 s/\0<s.headD 0:=λs d=>(((h s d).1.1,(h s d).1.2.1,λz o=>((h s d).1.2.2 z o).a0 u),(h s d).2);have k:aI 10000000 (gH b sc):=UG g<|d.a0 !_;have i:0<gH b sc:=I0 g y
 have j:∀(l:af (af ah)) (a:af ah),(l.foldl (lA<|gH b sc) a).length=l.length+a.length:=by
  intro l;induction l with|nil=>intro t;simp|cons s l n=>intro t;rw[fO,n];simp[lA];lia
 refine(i,k,λt p=>?_,?_);have:=Mb k b.reverse [] 10000000 (λs d=>g s<|List.mem_reverse.mp d) (b_ _) ∅ () t p;refine this.a0 ?_;left;show(b.reverse.foldl _ []).length=_;(simp only[*]at*;(repeat' split)<;>nofun)
def JB(hn:bw n):Gu n (dg n):=(hn,(lq hn).a4,(lq hn).tl,qu.b n hn)
def adQ(hn:bw n):(lU n<|dg n).length=n.b.length:=by rw[Be hn (lq hn).a4 (lq hn).tl,y']
def Rw(hn:bw n)(h:jf n (dg n)=ai r):0<r.b/\WN n r:=by obtain⟨m,g,e,d⟩:=qu.b n hn;have a:(lU n<|hG n<|c_ n).length=n.b.length:=adQ hn;obtain⟨l,k,j,i⟩:=aeI (by rw[a];exact hn.d) g e d (tS hn).1 h;exact(l,(by rw[i,a],k,j))
def RA(a:iL):af ah:=match jf a.n (dg a.n)with
 |none=>[-6]|some r=>0::iG r.a r.b
def k9(J:cq K f b):cI P w K f c 47 "answer_warmth" (mM b (λ_=>eA) RA):=by
 refine cW (k:=46) J.c0 Sn λp o s d q l=>?_;obtain⟨⟨n,g,e⟩,rfl,a,_,rfl⟩:=l;have a:bw n:=a;refine aL (cB 3 (aY (UX J) #[(0),aY (xo J) #[(0)] (n,aa,qu.a n a,aa)] ((n,dg n),aa,JB a,aa)) Sn.a) ?_;show bg _ _<|cT p o [.a<|bp b n,.a<|aM g,.a<|.d<|e.map aM,.a (match jf n (dg n)with|none=>az.e|some r=>bX b r)]<|.b<|aM (match jf n (dg n)with|none=>[-6]|some r=>0::iG r.a r.b);cases m:jf n (dg n)with
 |none=>exact aX (bK (eX (3)) (λ_=>aX<|bb<|bJ<|cQ #[cY J.T.u]) ())|some r=>obtain⟨j,h⟩:=Rw a m;have i:=a.d;refine aL (bK (eX (3)) ()<|λ_=>bV)<|fB (aX<|bb<|bJ<|jl (bJ<|cQ #[aF]) (aY (FF J) #[(3)] (r,aa,j,by rw[h.a];lia,aa)) ?_) aa;rw[cb,wU,h.a];left
def Kh:bW ["network","numbers","rows","flows","warmths"] ["network","numbers","rows"] (bf<|aK 114):={}
def UU(a:iL):af ah:=match jf a.n (dg a.n)with
 |none=>[-6]|some r=>0::iG (mF a.n (dg a.n) r).a (mF a.n (dg a.n) r).b
def ab(J:cq K f b):cI P w K f c 47 "answer_heat" (mM b (λ_=>eA) UU):=by
 refine cW (k:=46) J.d8 Kh λt s v d u p=>?_;obtain⟨⟨n,g,e⟩,rfl,a,_,rfl⟩:=p;have a:bw n:=a;refine aL (cB 3 (aY (xo J) #[(0)] (n,aa,qu.a n a,aa)) Kh.a)<|aL (cB 4 (aY (UX J) #[(0),(3)] ((n,dg n),aa,JB a,aa)) Kh.a) ?_;show bg _ _<|cT t s [.a<|bp b n,.a<|aM g,.a<|.d<|e.map aM,.a<|bX b<|dg n,.a (match jf n (dg n)with|none=>az.e|some r=>bX b r)]<|.b<|aM (match jf n (dg n)with|none=>[-6]|some r=>0::iG (mF n (dg n) r).a (mF n (dg n) r).b);cases q:jf n (dg n)with
 |none=>exact aX (bK (eX (4)) (λ_=>aX<|bb<|bJ<|cQ #[cY J.T.u]) ())|some r=>
  obtain⟨o,i⟩:=Rw a q;have l:=a.d;have m:=a.c;have h:(mF n (dg n) r).a.length=n.a.length+n.b.length:=by have:=FE n r (cj n).b (iU n (dg n).a (cj n).a) (cg n.a.length 0,cg n.b.length 0);show(_++_:af ah).length=_;simp[*,hU,jL]
  have j:0<(mF n (dg n) r).b:=fQ (fQ (lq a).is.a0 o) (tS a).1;refine aL (bK (eX (4)) ()<|λ_=>bV)<|fB (aX<|bb<|bJ<|jl (bJ<|cQ #[aF]) (aY (FF J) #[aY (v9 J) #[(0),(3),(4)] ((n,dg n,r),aa,JB a,i,aa)] (mF n (dg n) r,aa,j,by rw[h];lia,aa)) ?_) aa;grind[cb,wU]
def Bs:bW ["network","numbers","rows","flows","setting","answer","opening"] ["network","numbers","rows"] (bf<|aK 108):={}
def nE(n:aR)(t:af ah):ah ⊕ oQ:=match fM t with|none=>.inl (-1)|some r=>match fC n with|none=>.inl (-3)|some k=>if jP n r.a=aw then .inl (-4)else match n.a[k]? with|none=>.inl (-3)|some e=>match lY n r k e with|none=>.inl (-6)|some s=>.inr s
def ky(b:af ah)(l:af (ah×ah)):af ah:=b++l.flatMap dH
def WJ(b:af ah)(l:af (ah×ah))(z:ah×ah):(ky b l).map az.a++[az.a z.1,az.a z.2]=(ky b<|l++[z]).map az.a:=by unfold ky;rw[OD,<-wA,eV (l₁:=b++l.flatMap dH)];rfl
def UA(a:iL):af ah:=match nE a.n (a.c.getD 0 [])with
 |.inl k=>[k]|.inr s=>ky (0::dH s.b) s.a
def Wu(h:jP n l=ao):l.length=n.a.length:=by (simp_all[jP])
def Sb(hl:r.a.length=n.a.length)(h:lY n r k e=ai s):s.a.length=n.a.length:=by grind[lY,bC,cb,kG,Wi]
def VE(l:af (ah×ah)):(l.flatMap dH).length=2*l.length:=by
 induction l with|nil=>rfl|cons a l b=>rw[uK,hU,b];show 2+_=2*(l.length+1);lia
def Vo(J:cq K j c):cI P w K j f 46 "answer_least" (mM c (λa=>∃t,a.c=[t]/\mL t) UA):=by
 refine cW (k:=45) J.c9 Bs λE C O d N I=>?_;obtain⟨⟨n,g,m⟩,rfl,l,⟨t,b,q⟩,rfl⟩:=I;have b:m=[t]:=b;subst b;have l:bw n:=l;have p:=l.c;refine aL (cB 3 (aY (BR J) #[bt (2) aF di] (t,aa,q.b,q.a,aa)) Bs.a) ?_;show bg _ _<|cT E C [.a<|bp c n,.a<|aM g,.a<|.d<|[t].map aM,.a (match fM t with|none=>az.e|some r=>bX c r),.b,.b,.b]<|.b<|aM (match nE n t with|.inl k=>[k]|.inr s=>ky (0::dH s.b) s.a);unfold nE;cases M:fM t with|none=>exact aX (bK (eX (3)) (λ_=>aX<|bb<|bJ<|cQ #[cY J.T.i]) ())|some r=>
  have v:=zu q.b q.a M;refine aL (bK (eX (3)) ()<|λ_=>bV) ?_;dsimp only;cases u:fC n with|none=>exact aX (bK (cX (eX<|aY (BS J) #[(0)] (n,aa,p,aa)) (k':=ao) (by rw[u];rfl)) (λ_=>aX<|bb<|bJ<|cQ #[cY J.T.q]) ())|some k=>
   obtain⟨e,A,_⟩:=zk u;refine aL (bK (cX (eX<|aY (BS J) #[(0)] (n,aa,p,aa)) (k':=aw) (by rw[u];rfl)) ()<|λ_=>bV) ?_;dsimp only;by_cases B:jP n r.a=ao;rw[aE (by rw[B];decide),A];dsimp only;have h:=Wu B;refine aL (bK (cX (ef<|d_<|aY (zr J) #[(0),(3)] ((n,r),aa,l,aa)) (k':=aw) ∅) ()<|λ_=>bV) ?_;refine aL (cB 4 (aY (Vh J) #[(0),(3)] ((n,r,k,e),aa,(l,v,u,A,h),aa)) Bs.a) ?_;show bg _ _<|cT E C [.a<|bp c n,.a<|aM g,.a<|.d<|[t].map aM,.a<|bX c r,.a (match lY n r k e with|none=>az.e|some s=>qA c s),.b,.b] _;cases L:lY n r k e with|none=>exact aX (bK (eX (4)) (λ_=>aX<|bb<|bJ<|cQ #[cY J.T.u]) ())|some i=>have G:=Sb h L;refine aL (bK (eX (4)) ()<|λ_=>bV) ?_;refine fB (aL (ia 5 (jl (bJ<|cQ #[aF]) (bJ<|tR J.T.j<|cC 0 J.T.l (4))<|wx aa) Bs.a)<|aL (jh i.a cE (λD=>[.a<|bp c n,.a<|aM g,.a<|.d<|[t].map aM,.a<|bX c r,.a<|qA c i,.c<|(ky (0::dH i.b) D).map az.a,.b]) (λD z=>[.a<|bp c n,.a<|aM g,.a<|.d<|[t].map aM,.a<|bX c r,.a<|qA c i,.c<|(ky (0::dH i.b) D).map az.a,.a<|cE z]) (gm<|cC 1 J.T.l (4)) (λD z o F=>(e_ 6 Bs.a)) (λD z o F=>fj (aL (Kk 5 aa (6) ?_) bV) ?_) aa fT)<|iI 5 aa<|aX<|bb (5)) aa;have H:D.length<=i.a.length:=(by simp[*]);have x:=VE D;rw[cb,ky,hU,x];show 3+2*D.length+2<=1000000;lia;show jQ [_,_,_,_,_,.c<|(ky (0::dH i.b) D).map az.a++[az.a z.1,az.a z.2],_] _;rw[WJ];exact .a0<|.a0<|.a0<|.a0<|.a0<|.a0<|.no .a2
   have y:jP n r.a=aw:=();rw[aG y];exact aX<|bK (cX (ef<|d_<|aY (zr J) #[(0),(3)] ((n,r),aa,l,aa)) (k':=ao) ∅) (λ_=>aX<|bb<|bJ<|cQ #[cY J.T.E]) ()
def EX:bW ["network","numbers","rows","edge","answer","ratio"] ["network","numbers","rows"] (bf<|aK 116):={}
def Gp(e:bB):af ah:=[0,(e.c:ag),(e.b:ag),(e.a:ag)]
def LI(e:bB):af ah:=ky (Gp e) [e.g,e.h,e.o,e.l,(e.k,1)]
def Gi(a:iL):af ah:=if dB a.n (a.b.getD 0 0)=aw then [-1]else match a.n.a[(a.b.getD 0 0).toNat]? with|none=>[-1]|some e=>LI e
def ca(J:cq K j c):cI P w K j f 47 "answer_edge" (mM c (λa=>∃i,a.b=[i]) Gi):=by
 refine cW (k:=46) J.w EX λC B G d E A=>?_;obtain⟨⟨n,q,m⟩,rfl,F,⟨i,b⟩,rfl⟩:=A;have b:q=[i]:=b;subst b;show bg _ _<|cT C B _<|.b<|aM (if dB n i=aw then [-1]else match n.a[i.toNat]? with|none=>[-1]|some e=>LI e);by_cases v:dB n i=ao;rw[aE (by rw[v];decide)];obtain⟨k,rfl,y⟩:=oN v;have s:=cK y;generalize n.a[k]=e at s;rw[show((k:ah)).toNat=k from aa,s];refine aL (bK (cX (ef<|d_<|aY (oH J) #[(0),bt (1) aF di] ((n,k),aa,aa)) (k':=aw) ∅) ¬_<|λ_=>bV) ?_;refine aL (cB (d:=cv c e) 3 (bt (bc 1 J.T.c (0)) (bt (1) aF di)<|gQ (by rw[cV,s];rfl)) EX.a) ?_;refine fB (aL (ia 4 (cQ #[aF,bc 0 J.T.b (3),bc 1 J.T.b (3),bc 2 J.T.b (3)]) EX.a)<|aL (jh [e.g,e.h,e.o,e.l,(e.k,1)] cE (λg=>[.a<|bp c n,.a<|aM [(k:ah)],.a<|.d<|m.map aM,.a<|cv c e,.c<|(ky (Gp e) g).map az.a,.b]) (λg z=>[.a<|bp c n,.a<|aM [(k:ah)],.a<|.d<|m.map aM,.a<|cv c e,.c<|(ky (Gp e) g).map az.a,.a<|cE z]) (co<|kv #[bc 3 J.T.b (3),bc 4 J.T.b (3),bc 5 J.T.b (3),bc 6 J.T.b (3),kv #[bc 7 J.T.b (3),aF]]) (λg z p u=>(e_ 5 EX.a)) (λg z p u=>fj (aL (Kk 4 aa (5) ?_) bV) ?_) aa fT)<|iI 4 aa<|aX<|bb (4)) aa;have x:g.length<=5:=by have:=fk uI u;(simp at*;nofun)
 have r:=VE g;rw[cb,ky,hU,r];show 4+2*g.length+2<=1000000;lia;show jQ [_,_,_,_,.c<|(ky (Gp e) g).map az.a++[az.a z.1,az.a z.2],_] _;rw[WJ];exact .a0<|.a0<|.a0<|.a0<|.a0<|.no .a2;have t:dB n i=aw:=∅;rw[aG t];exact aX<|bK (cX (ef<|d_<|aY (oH J) #[(0),bt (1) aF di] ((n,i),aa,aa)) (k':=ao) ∅) (λ_=>aX<|bb<|bJ<|cQ #[cY J.T.i]) ¬_
end
def Uv:∀(a:af (af ag)) (k:ag) (s:fY) (e:ag),jT k s a=.error e->k<=e
 |[],k,s,e,h=>by cases h
 |t::a,k,s,e,h=>by
  unfold jT at h;cases q:wa s t with
  |none=>rw[q]at h;cases h;exact b_ _
  |some m=>rw[q]at h;have:=Uv a (k+1) m e h;lia
def LW(m:ag):∀(t a:af ag),∃b d,gq m a t=b++[d]
 |[],a=>([],a,aa)|c::t,a=>by unfold gq;split;obtain⟨i,l,h⟩:=LW m t [];exact(a::i,l,by rw[h];rfl);exact LW m t _
def T_(h:jx t=.error e):e≠0:=by
 obtain⟨a,d,b⟩:=LW 10 t [];rw[Ua b]at h;cases q:jT 1 ([],[]) a with
 |error c=>rw[q]at h;cases h;have:=Uv _ _ _ _ q;lia
 |ok s=>left
section
variable{X:bA}{g a:ay}{c:af bL}{e:bI}{x:aC}{b p:dj}{Pd Pd':az->Prop}{rest:af du}{o:lB}{j:ay->ay->Prop}{q:pN}{l:bH}{m:af (af ag)}{i:af bB}
def C8(h:cI X.a2 X.w X.K X.mg X.a8 k x R)(w:aA X e (EK g a c Pd))(M:∀d,Pd d->∃n,R [d] n/\Pd' n)(D:dy k X.A|>3)(J:dn X x|>1)(s:dA x|>2)
  (he:eI X e []|>1)(r:eG X b []|>1):aA X (.Call (.Name x p) [e] [] b) (EK g a c Pd'):=by
 obtain⟨f,W,V,F,E,I,L⟩:=h.ex;refine eL (uR F D J E I L .nil (mZ (X:=X)) (kZ w pq he) s he r) λU H Q (G,A,q)=>(G,A,λv d T Y C y t B=>?_);obtain⟨n,O,N⟩:=M d C;exact(T,[d],n,t.fh,.a0 B .a2,O,λu S P rl z=>q u _ S P N (y.a0 rl.ff) (t.up rl) z)
def Jr(n:ag)(r:c[n]?=ai (.e<|.c q.x))(f:GG a q)(h:(i.map (·.x)).Nodup->bg X rest (cN (λF H=>cZ g a F H) (c.set n<|.a<|bp l (q.x,m.map dm,i,[],[])) j o)):bg X rest (cN (iX l q g a m i) c j o):=λd s t H E I (F,A,z,k)=>adA n r f (h z.2.nd) d s t H E I (F,A,z,k)
end
section
variable{K:aZ}
def JO:bW ["network","numbers","rows","found","wrong"] ["network","numbers","rows"] (bf<|aK 98):={}
def Bx(t:af ag):af ah:=match jx t with|.error e=>[0,0,(e:ag)]|.ok s=>[0,1,(s.names.length:ag),(s.edges.length:ag)]
def iT(t:af ah):af ag:=t.map A_
def Rj(h:∀c∈t,0<=c):dm (iT t)=t:=by
 unfold dm iT;rw[eS];have:t.map (Ba∘A_)=t.map id:=lK λc a=>by have:=h c a;exact B1 this
 nofun
structure xH(t:af ah):Prop where
 a3:t.length<=800
 a1:∀c∈t,0<=c/\c<256
def xH.a0(h:xH t):mm (iT t):=(by unfold iT;rw[cb];have:=h.a3;lia,λc d=>by obtain⟨z,a,rfl⟩:=cJ.mp d;have:=h.a1 z a;nofun)
def xH.eq(h:xH t):aM t=cR (iT t):=by rw[<-Ce,Rj λc a=>(h.a1 c a).1]
def Gc(J:cq K g b):cI P w K g f 47 "answer_read" (mM b (λa=>∃t,a.c=[t]/\xH t) λa=>Bx<|iT<|a.c.getD 0 []):=by
 refine cW (k:=46) J.d7 JO λo m Q d I E=>?_;obtain⟨⟨n,j,i⟩,rfl,L,⟨t,c,u⟩,rfl⟩:=E;have c:i=[t]:=c;subst c;show bg _ _<|cT o m [.a<|bp b n,.a<|aM j,.a<|.d [aM t],.b,.b]<|.b<|aM<|Bx<|iT t;rw[u.eq];refine Ju (Z:=λF H=>cZ o m F H) (λ_ _ h=>h) ?_;refine Rf 3 (Fs J) JO.a λq D=>?_;refine fu (Jo 4 (wQ 3 (Mc J) aa (λ_ _=>#[bt (2) aF di]) (iT t,aa,u.a0,aa,aa,aa,aa)) JO.a) ?_;refine wR λs x B=>Jr 3 aa D λC=>?_;unfold Bx;cases l:jx (iT t)with
 |error e=>have G:=T_ l;refine ni<|pB (λF H A y z r=>z.a4 r) λo m=>bK (cX (iH (4) aF) (k':=ao) ?_) (λ_=>aX<|bb<|bJ<|cQ #[aF,aF,(4)]) ¬_;simp[*,Bw]|ok p=>
  obtain⟨v,M⟩:=B p l;refine fu (yN (λF H A y z r=>z.a4 r) λo m=>bK (cX (iH (4) aF) (k':=aw) (by rfl)) ¬_<|λ_=>bV) ?_;refine Jq (ni<|pB (λF H A y z r=>z.a4 r) λo m=>bb<|bJ<|cQ #[aF,aF,dO J.T.e<|bc 0 J.T.c (3),dO J.T.e<|bc 1 J.T.c (3)]) ?_;show az.d [_,_,az.a (((s.map dm).map aM).length:ag),az.a ((x.map<|cv b).length:ag)]=_;have O:((s.map dm).map aM).length=p.names.length:=by rw[<-v];simp[jH]
  have N:(x.map<|cv b).length=p.edges.length:=by rw[<-v];simp[jH]
  nofun
end
def jj(h:e'∈(ql n k e q y z).a):e'∈n.a\/e'=zj e q y:=by have h:e'∈n.a.take k++[zj e q y]++n.a.drop (k+1):=h;left
def Ez(f:bB->β)(a:n.a[k]?=ai e)(q:ah×ah)(y z:ax):(ql n k e q y z).a.map f=(n.a.map f).set k (f<|zj e q y):=by show(n.a.take k++[zj e q y]++n.a.drop (k+1)).map f=_;(simp only[eM,List.set_eq_take_append_cons_drop,AB,yq,wA];split<;>nofun)
def Ro(hn:bw n)(b:n.a[k]?=ai e)(l:0<=q.1)(j:0<q.2)(f:aI 1300 q.1/\aI 1300 q.2)(y z:ax):bw (ql n k e q y z):=by
 have d:=(eM.mp b).1;have a:=hn.a e<|eC b;have i:(ql n k e q y z).a.length=n.a.length:=by have:=fk uI<|Ez id b q y z;nofun
 refine(hn.d,by rw[i];exact hn.c,λo c=>?_,aa,DH,(λk d=>bG d (by show ¬k∈([]:af ah);simp)),(λv g=>bG g (by show ¬v∈([]:af ah);simp)),?_);rcases jj c with h|rfl;exact hn.a o h;exact(a.n,a.b,a.a,a.c,a.f,a.d,a.i,a.j,a.k,l,j,f,(by decide:(0:Int)<=0),(by decide:(0:Int)<1),(by decide:(0:Int)<=1),((aI.a2:aI 20 0),(aI.a2:aI 20 1)),(aI.a2:aI 20 0));rw[Ez (·.h) b q y z];have m:(n.a.map (·.h)).set k (zj e q y).h=n.a.map (·.h):=by have:(n.a.map (·.h))[k]?=ai e.h:=∅;exact Bm this
 rw[m];exact hn.j
def adN(he:n.a[k]?=ai e)(q:ah×ah)(y z:ax):fi (aW<|ql n k e q y z)=fi (uo (aW n) k<|aQ q.1 q.2):=by rw[VB,VB<|uo _ _ _];congr 1;show Vbbcao.Net.mk _ _=Vbbcao.Net.mk _ _;congr 1;show(((ql n k e q y z).a.map bU).map pD)=((n.a.map bU).modify k λe=>{e with opening:=aQ q.1 q.2}).map pD;rw[eS,Ez (pD∘bU) he q y z];refine yt λi=>?_;rw[cV,Ic,List.getElem?_set,cV,cV];by_cases h:k=i;subst h;rw[aG aa,cb,aG (eM.mp he).1,he];show ai _=ai (pD (if k=k then _ else _));rw[aG aa];rfl;nofun
def VC(hn:bw n)(b:k<n.a.length):aQ ((dg n).a.getD k 0) (dg n).b=(fi<|aW n).getD k aU:=by
 have h:=lq hn;have a:k<(fi<|aW n).length:=by rw[h.a2];exact b
 exact FQ h.is.a0 (h.is.a1.a0 k)<|h.is.a2 k a
section
variable{K:aZ}
def EW:bW ["network","numbers","rows","pump","now","then"] ["network","numbers","rows"] (bf<|aK 117):={}
def Fo(a:iL):af ah:=if dB a.n (a.b.getD 0 0)=aw\/ip (a.b.getD 1 0) (a.b.getD 2 0)=aw then [-1]else
 match a.n.a[(a.b.getD 0 0).toNat]?,fC a.n with
 |some e,ai k=>if e.c≠1 then [-3]else 0::(dH (bh<|(fi<|aW a.n).getD k aU)++dH (bh<|(fi<|uo (aW a.n) (a.b.getD 0 0).toNat<|aQ (a.b.getD 1 0)<|a.b.getD 2 0).getD k aU))
 |_,_=>[-3]
def BB(h:ip a b=ao):0<=a/\1<=b/\a<=1000000/\b<=1000000/\a<=b:=by simp_all[ip,oy]
def JF(h0: -1000000<=a)(b:a<=1000000):aI 20 a:=by unfold aI;omega
def Fc(h0:0<=a)(h:1<=b)(e:a<=1000000)(d:b<=1000000):0<=(bh<|aQ a b).1/\0<(bh<|aQ a b).2/\aI 20 (bh<|aQ a b).1/\aI 20 (bh<|aQ a b).2:=have z:0<b:=!_;have o:=oJ (a:=a) z;(Lm h0 z,o.2.2,jg o.1<|JF (!_) e,jg o.2.1<|JF (!_) d)
def Db(J:cq K g c):
  cI P w K g f 47 "answer_more" (mM c (λa=>∃i x y,a.b=[i,x,y]) Fo):=by
 refine cW (k:=46) J.e2 EW λR Q ds d hr T=>?_;obtain⟨⟨n,r,p⟩,rfl,l,⟨i,x,y,b⟩,rfl⟩:=T;have b:r=[i,x,y]:=b;subst b;have l:bw n:=l;have s:=l.c;show bg _ _ (cT R Q _ (.b (aM (if dB n i=aw\/ip x y=aw then [-1]else match n.a[i.toNat]?,fC n with
  |some e,ai k=>if e.c≠1 then [-3]else 0::(dH (bh<|(fi<|aW n).getD k aU)++dH (bh<|(fi<|uo (aW n) i.toNat<|aQ x y).getD k aU))
  |_,_=>[-3]))))
 by_cases o:dB n i=aw\/ip x y=aw;rw[aG o];exact aX<|bK (jD.pt<|er (ef<|d_<|aY (oH J) #[(0),bt (1) aF di] ((n,i),aa,aa)) λ_=>(dQ<|ef<|d_<|aY (zq J) #[bt (1) aF eH,bt (1) aF mi] ((x,y),aa,aa))) (λ_=>(aX<|bb<|bJ<|cQ #[cY J.T.i])) (λh=>by have h:(!dB n i|| !ip x y)=aw:=h;rcases o with o|o<;>rw[o]at h<;>simp at h);rw[aE o];have D:dB n i=ao:=∅;have Z:ip x y=ao:=∅;obtain⟨k,rfl,Y⟩:=oN D;obtain⟨W,V,U,S,p4⟩:=BB Z;obtain⟨N,M,L,I⟩:=Fc W V U S;have j:=cK Y;generalize n.a[k]=e at j;rw[show((k:ah)).toNat=k from aa,j];refine aL (bK (cX (jD.pt<|er (ef<|d_<|aY (oH J) #[(0),bt (1) aF di] ((n,k),aa,aa)) λ_=>(dQ<|ef<|d_<|aY (zq J) #[bt (1) aF eH,bt (1) aF mi] ((x,y),aa,aa))) (k':=aw) ∅) ¬_<|λ_=>bV) ?_;refine aL (cB 3 (aY (BS J) #[(0)] (n,aa,s,aa)) EW.a) ?_;show bg _ _<|cT R Q [.a<|bp c n,.a<|aM [(k:ah),x,y],.a<|.d<|p.map aM,.a (match fC n with|none=>az.e|some k=>.a (k:ag)),.b,.b] _;cases X:fC n with|none=>refine aX (bK (cX (jD.pt<|er (iH (bc 0 J.T.b<|bt (d:=cv c e) (bc 1 J.T.c (0)) (bt (1) aF di)<|gQ (by rw[cV,j];rfl))<|cY J.T.g) λ_=>(dQ<|eX (3))) (k':=ao) (by simp[md])) (λ_=>aX<|bb<|bJ<|cQ #[cY J.T.q]) ¬_)|some m=>
  obtain⟨em,G,_⟩:=zk X;have E:=(eM.mp G).1;dsimp only;by_cases A:e.c=1;rw[aE (_)];have O:=lq l;refine aL (bK (cX (jD.pt<|er (iH (bc 0 J.T.b<|bt (d:=cv c e) (bc 1 J.T.c (0)) (bt (1) aF di)<|gQ (by rw[cV,j];rfl))<|cY J.T.g) λ_=>(dQ<|eX (3))) (k':=aw) (by simp[md,A])) ¬_<|λ_=>bV) ?_;refine aL (cB 4 (aY (xo J) #[(0)] (n,aa,qu.a n l,aa)) EW.a) ?_;refine tz 5 (C8 (Pd':=λd=>∃u v,d=bX c (dg<|ql n k e (bh<|aQ x y) u v)) (xo J) (D8 (zn J (q:=bh<|aQ x y) s j) #[(0),bt (1) aF di,aY (nG J) #[bt (1) aF eH,bt (1) aF mi] (x,y,aa,(_),aa)] aa)<|λd H=>?_) EW.a λd H=>?_;obtain⟨u,v,rfl⟩:=H;exact(bX c<|dg<|ql n k e (bh<|aQ x y) u v,(_,aa,qu.a _<|Ro l j N M (L.a0 ⋯,I.a0 ⋯) u v,aa),u,v,aa);obtain⟨u,v,rfl⟩:=H;have t:=Ro l j N M (L.a0 ⋯,I.a0 ⋯) u v;have B:=lq t;have F:(ql n k e (bh<|aQ x y) u v).a.length=n.a.length:=by have:=fk uI<|Ez id j (bh<|aQ x y) u v;nofun
  have C:m<(dg n).a.length:=by rw[O.tl];exact E
  have z:m<(dg<|ql n k e (bh<|aQ x y) u v).a.length:=by rw[B.tl,F];exact E
  refine fB (aX<|bb<|bJ<|jl (bJ<|jl (bJ<|cQ #[aF]) (bJ<|tR J.T.j<|aY (nG J) #[bt (cC 0 J.T.d (4)) (3)<|Me C,cC 1 J.T.d (4)] (_,_,aa,O.is.a0,aa))<|wx aa) (bJ<|tR J.T.j<|aY (nG J) #[bt (cC 0 J.T.d (5)) (3)<|Me z,cC 1 J.T.d (5)] (_,_,aa,B.is.a0,aa))<|wx aa) ?_;rw[VC l E,VC t ∅,adN j,zc];rfl;rw[aG A];exact aX<|bK (cX (jD.pt<|er (iH (bc 0 J.T.b<|bt (d:=cv c e) (bc 1 J.T.c (0)) (bt (1) aF di)<|gQ (by rw[cV,j];rfl))<|cY J.T.g) λ_=>(dQ<|eX (3))) (k':=ao) (by have:¬((e.c:ag):ah)=1:=!_;nofun)) (λ_=>aX<|bb<|bJ<|cQ #[cY J.T.q]) ¬_
end
def sG:lQ->da
 |.c _ _ _=>aw|.d _=>aw|_=>ao
structure nN(F0 H0 F H:ay):Prop where
 ff:∀a o,sG o=ao->F0 a=ai o->F a=ai o
 hh:∀a o,sG o=ao->H0 a=ai o->H a=ai o
 fh:bD F H
 nf:∀a,H0 a≠aq->F0 a=aq->F a=aq
 al:∀a,H0 a≠aq->H a≠aq
def nN.of(r:cZ F0 H0 F H):nN F0 H0 F H:=(λa o _ e=>r.ff a o e,λa o _ e=>r.hh a o e,r.fh,r.nf,λa n=>EO r.hh n)
def nN.a0(a:nN F0 H0 F H)(b:nN F H F' H'):nN F0 H0 F' H':=(λc o p e=>b.ff c o p<|a.ff c o p e,λc o p e=>b.hh c o p<|a.hh c o p e,b.fh,λc n z=>b.nf c (a.al c n)<|a.nf c n z,λc n=>b.al c<|a.al c n)
def nN.a9(h:bD F H):nN F H F H:=.of<|.a3 h
def nN.wr(h:bD F H)(e:F y=ai o)(p:sG o=aw):nN F H (bu F y o') (bu H y o'):=by
 refine(λa u q z=>?_,λa u q z=>?_,λa u z=>?_,λa n z=>?_,λa n=>?_);·grind[aO]
 ·have:a≠y:=λw=>by subst w;rw[h _ _ e]at z;cases z;rw[p]at q;cases q
  simp[*,aO]
 ·by_cases w:a=y;·grind[bO]
  ·rw[aO w]at z ⊢;exact h _ _ z
 all_goals grind[aO,bO]
mutual
def lj(I:ax->Prop)(O:ag->Prop)(b:Prop):az->Prop
 |.e=>eA|.g _=>eA|.a _=>eA|.j _=>eA|.f a=>ma I O b a|.d a=>ma I O b a|.m _ c a=>O c.length/\ma I O b a|.k x _ _ a=>I x/\ma I O b a|.h _ a=>b/\ma I O b a
def ma(I:ax->Prop)(O:ag->Prop)(a:Prop):af az->Prop
 |[]=>eA|d::b=>lj I O a d/\ma I O a b
end
structure zJ(I:ax->Prop)(O:ag->Prop)(Kd:Prop)(F F':ay):Prop where
 pl:∀a o,sG o=ao->F a=ai o->F' a=ai o
 io:∀x o,I x->F x=ai o->F' x=ai o
 ob:∀x c dx kvs,O kvs.length->F x=ai (.c c dx kvs)->F' x=ai (.c c dx kvs)
 dk:Kd->∀a kvs,F a=ai (.d kvs)->F' a=ai (.d kvs)
def u_{a:af aC}(h:a.length=vs.length):(a.zip vs).length=a.length:=by rw[kG];nofun
def bY.ov(o:zJ I O Kd F F')(d:az){v:aH}(k:lj I O Kd d)(h:bY F v d):bY F' v d:=bY.rec (F:=F) (motive_1:=λv d _=>lj I O Kd d->bY F' v d) (motive_2:=λv d _=>ma I O Kd d->cx F' v d) (λ_=>.b0) (λb _=>.bl b) (λi _=>.a1 i) (λx _=>.a9 x) (λe _ r k=>.a3 (o.pl _ _ aa e)<|r k) (λe _ r k=>.a0 (o.pl _ _ aa e)<|r k) (λe _ l r k=>.a8 (o.ob _ _ _ _ (by rw[u_ l];exact k.1) e) (r k.2) l) (λe _ l r k=>.a4 (o.io _ _ k.1 e) (r k.2) l) (λe _ l r k=>.a5 (o.dk k.1 _ _ e) (r k.2) l) (λ_=>.a2) (λ_ _ a b k=>.a0 (a k.1)<|b k.2) h k
def cx.ov(o:zJ I O Kd F F')(c:af az){e:af aH}(k:ma I O Kd c)(h:cx F e c):cx F' e c:=cx.rec (F:=F) (motive_1:=λ_ _ _=>eA) (motive_2:=λv d _=>ma I O Kd d->cx F' v d) dU (λ_=>dU) (λ_=>dU) (λ_=>dU) (λ_ _ _=>dU) (λ_ _ _=>dU) (λ_ _ _ _=>dU) (λ_ _ _ _=>dU) (λ_ _ _ _=>dU) (λ_=>.a2) (λa _ _ b k=>.a0 (bY.ov o _ k.1 a)<|b k.2) h k
def zJ.a0{F:ay}{y c h:ax}{b:af (aC×aH)}(e:F y=ai (.c c h b))(d:lQ):zJ (· ≠y) (· ≠b.length) eA F (bu F y d):=by
 refine(λa o p z=>?_,λx o n z=>?_,λx i g f n z=>?_,λ_ a f z=>?_);·rw[aO (λw=>by subst w;rw[e]at z;cases z;cases p)];exact z
 all_goals grind[aO]
def zJ.a2(e:F y=ai (.d kvs))(d:lQ):zJ (λx=>∃c b k,F x=ai (.c c b k)) (λ_=>eA) eo F (bu F y d):=by
 refine(λa o p z=>?_,λx o (c,b,k,h) z=>?_,λx i f g n z=>?_,λn=>n.elim);·rw[aO (λw=>by subst w;rw[e]at z;cases z;cases p)];exact z
 all_goals grind[aO]
def tM:∀{a:af az},(∀d∈a,lj I O Kd d)->ma I O Kd a
 |[],_=>dU|d::a,h=>(h d (_),tM λx b=>h x<|cO _ b)
section
variable{I:ax->Prop}{O:ag->Prop}{a:Prop}{b:bH}
def oC(l:af ah):lj I O a (aM l):=tM λd c=>by obtain⟨z,_,rfl⟩:=cJ.mp c;exact dU
def so(q:ah×ah):lj I O a (cE q):=(dU,dU,dU)
def l_(l:af (af ah)):lj I O a (.d<|l.map aM):=tM λd c=>by obtain⟨z,_,rfl⟩:=cJ.mp c;exact oC z
def Tx(l:af (ah×ah)):lj I O a (.d<|l.map cE):=tM λd c=>by obtain⟨z,_,rfl⟩:=cJ.mp c;exact so z
def KH(e:bB)(h:I e.x):lj I O a (cv b e):=(h,dU,dU,dU,so _,so _,so _,so _,dU,dU)
def BC(l:af bB)(h:∀e∈l,I e.x):lj I O a (.d<|l.map<|cv b):=tM λd f=>by obtain⟨e,c,rfl⟩:=cJ.mp f;exact KH e<|h e c
def dL(n:aR)(c:I n.x)(h:∀e∈n.a,I e.x)(f:a):lj I O a (bp b n):=(c,l_ _,BC _ h,(f,tM λd g=>by obtain⟨z,_,rfl⟩:=cJ.mp g;exact dU),dU)
def Tw(s:oQ)(h:O 2):lj I O a (qA b s):=(h,so _,Tx _,dU)
end
def Ca{a:bH}(h:bY F v (cv a e)):v=.c e.x/\∃c d,F e.x=ai (.c a.a c<|gD.zip d)/\gD.length=d.length/\cx F d [.a (e.c:ag),.a (e.b:ag),.a (e.a:ag),cE e.g,cE e.h,cE e.o,cE e.l,.a e.k]:=by
 cases h using W5 with|a4 b r l=>exact(aa,_,_,b,l,r)
def rp{a:bH}(h:bY F v (bp a n)):v=.c n.x/\∃i d c b,F n.x=ai (.c a.b i<|iJ.zip [d,c,b])/\bY F d (.d<|n.b.map aM)/\bY F c (.d<|n.a.map<|cv a)/\bY F b (.h n.d<|n.e.map az.a):=by
 cases h using W5 with|a4 g r l=>
  cases r using X2 with|a0 j r=>
   cases r using X2 with|a0 f r=>
    cases r using X2 with|a0 e r=>cases r;exact(aa,_,_,_,_,g,j,f,e)
def Gh{f:bH}:∀{c:af bB} {g:af aH},cx F g (c.map<|cv f)->∀e∈c,∃d l,F e.x=ai (.c f.a d<|gD.zip l)/\gD.length=l.length
 |[],_,_,e,b=>by simp at b|a::c,_,h,e,b=>by
  cases h using X2 with|a0 r i=>rcases fq.mp b with rfl|b;obtain⟨_,d,l,k,j,_⟩:=Ca r;exact(d,l,k,j);exact Gh i e b
def Ub{i:bH}(h:bY F v (bp i n)):∀e∈n.a,n.x≠e.x:=λe b q=>by
 obtain⟨_,m,l,k,j,a,_,f,_⟩:=rp h;cases f using W2 with|a0 _ r=>obtain⟨g,fs,d,c⟩:=Gh r e b;rw[q,d]at a;injection a with a;injection a with _ _ a;have:=fk uI a;rw[u_ c]at this;exact bG this (by show ¬(8=3);decide)
def xD(e:bB):af az:=[.a (e.c:ag),.a (e.b:ag),.a (e.a:ag),cE e.g,cE e.h,cE e.o,cE e.l,.a e.k]
def Tz(e:bB):ma I O Kd (xD e):=(dU,dU,dU,so _,so _,so _,so _,dU,dU)
def LH{i:bH}(j:F ed.x=ai (.c i.a dx<|gD.zip fs))(n:ed'.x=ed.x)(o:gD.length=fs'.length) (t:cx F fs' (xD ed')):∀{b:af bB} {m:af aH} {k:ag},cx F m (b.map<|cv i)->(b.map (·.x)).Nodup->b[k]?=ai ed->cx (bu F ed.x<|.c i.a dx<|gD.zip fs') m ((b.set k ed').map<|cv i)
 |[],_,k,_,_,h=>by simp at h|e::b,_,0,h,p,g=>by
  have g:e=ed:=∅;subst g;have f:e.x∉b.map (·.x)/\(b.map (·.x)).Nodup:=();cases h using X2 with|a0 r l=>obtain⟨rfl,_⟩:=Ca r;refine .a0 ?_<|cx.ov (zJ.a0 j _) _ (tM λd s=>?_) l;have:=bY.a4 (F:=bu F e.x<|.c i.a dx<|gD.zip fs') (c:=i.a) bO (cx.ov (zJ.a0 j _) _ (Tz ed') t) o;show bY _ _<|az.k ed'.x _ _ _;rw[n];exact this;obtain⟨a,ha,rfl⟩:=cJ.mp s;exact KH a λq=>f.1 ∅
 |e::b,_,k+1,h,p,g=>by
  have g:b[k]?=ai ed:=(_);have f:e.x∉b.map (·.x)/\(b.map (·.x)).Nodup:=();cases h using X2 with|a0 r l=>refine .a0 (bY.ov (zJ.a0 j _) _ (KH e λq=>f.1 (by rw[q];exact AA<|eC g)) r) ?_;exact LH j n o t l f.2 g
def fU(n:aR)(k:ag)(e:bB):aR:=(n.x,n.b,n.a.set k e,n.d,n.e)
def T'{a:bH}(h:bY F v (bp a n))(f:F ed.x=ai (.c a.a dx<|gD.zip fs))(A:gD.length=fs.length)(i:ed'.x=ed.x)(j:gD.length=fs'.length)
  (hr:cx F fs' (xD ed'))(g:(n.a.map (·.x)).Nodup)(c:n.a[k]?=ai ed):bY (bu F ed.x<|.c a.a dx<|gD.zip fs') v (bp a<|fU n k ed'):=by
 have b:=Ub h ed<|eC c;obtain⟨rfl,t,y,w,u,s,q,p,m⟩:=rp h;have o:=zJ.a0 f<|.c a.a dx<|gD.zip fs';refine .a4 (by rw[aO b];exact s) (.a0 (bY.ov o _ (l_ _) q)<|.a0 ?_<|.a0 (bY.ov o _ (dU,tM λd l=>by obtain⟨z,_,rfl⟩:=cJ.mp l;exact dU) m) .a2) aa;cases p using W2 with|a0 e r=>exact .a0 (o.pl _ _ aa e)<|LH f i j hr r g c
inductive GC where
 |a (ρ:af bL)|b (Q:az->az->Prop)
def N4(h g:ay)(x:ax)(o:GC)(E:wJ):Prop:=match o with|.a e=>∀c b a,bE b a b a c e->nN h g b a->E.a c a|.b Q=>∀v d f b a,Q d f->nN h g b a->bY b v d->bY b (.c x) f->E.b v a
def ke(b a:ay)(x:ax)(d:af bL)(o:GC):hX:=λE c H=>∃F,bE F H F H c d/\nN b a F H/\N4 b a x o E
inductive kz(I:ax->Prop)(O:ag->Prop)(Kd:Prop)(C:az->az->Prop):af bL->af bL->Prop
 |a2:kz I O Kd C [] []
 |no {s:bL} {a b:af bL}:kz I O Kd C a b->kz I O Kd C (s::a) (.b::b)
 |a0 {d:az} {a b:af bL}:lj I O Kd d->kz I O Kd C a b->kz I O Kd C (.a d::a) (.a d::b)
 |a1 {d d':az} {a b:af bL}:C d d'->kz I O Kd C a b->kz I O Kd C (.a d::a) (.a d'::b)
def kz.a6(h:kz I O Kd C a b):a.length=b.length:=by
 induction h with|a2=>rfl|no _ c=>nofun|a0 _ _ c=>nofun|a1 _ _ c=>nofun
def kz.a4(h:kz I O Kd C a b):∀{i:ag} {s:bL},b[i]?=ai s->s=.b\/∃d c,s=.a c/\a[i]?=ai (.a d)/\((d=c/\lj I O Kd d)\/C d c):=by
 induction h with
 |a2=>intro i s e;cases e
 |no _ f=>intro i s e;cases i;cases e;exact .inl aa;exact f e
 |a0 g _ f=>intro i s e;cases i;cases e;exact .inr (_,_,aa,aa,.inl (aa,g));exact f e
 |a1 j _ f=>intro i s e;cases i;cases e;exact .inr (_,_,aa,aa,.inr j);exact f e
def bE.ov(A:bE F H F H σ ρ)(g:bD F' H')(o:zJ I O Kd F F')(s:kz I O Kd C ρ ρ')(k:∀d b v,C d b->bY F v d->bY F' v b):bE F' H' F' H' σ ρ':=by refine(cZ.a3 g,by rw[A.a5,s.a6],λi d e=>?_,λi h e=>?_,λi v e=>?_,λi j h p a e=>?_);rcases s.a4 e with q|⟨c,b,q,f,l⟩;nofun;cases q;obtain⟨v,n,m⟩:=A.a3 i c f;grind[bY.ov];rcases s.a4 e with q|⟨c,b,q,_⟩<;>cases q;rcases s.a4 e with q|⟨c,b,q,_⟩<;>cases q;rcases s.a4 e with q|⟨c,b,q,_⟩<;>cases q
section
variable{X:bA}{b g:ay}{l ρ' M:af bL}{e o c J R:bI}{B p S m N:dj}{d:az}{f:aC}{C:ax}{z:af aC}{G:du}{rest P O bs:af du}{L:GC}{x:ax}{fs:af az}{Q:az->az->Prop}{t:bH}{y:aC}
def ib(h1:cH X G (ke b g x l<|.a M))(i:bg X rest (ke b g x M L)):bg X (G::rest) (ke b g x l L):=fg (eN h1 i) λE q H (F,A,r,k)=>(F,A,r,λa j s n h=>(j,n,h,k))
def g_(h1:cH X G (ke b g x l<|.b Q)):bg X (G::rest) (ke b g x l<|.b Q):=fg (eN h1 lM) λE a H (F,A,r,k)=>(F,A,r,k)
def su:bg X [] (ke b g x l<|.a l):=fg DU λE a H (F,A,r,k)=>k a F H A r
def BM(h:∀b g,cH X G<|cT b g l<|.a ρ')(K:ρ'.all tO=ao|>1):cH X G (ke b g x l<|.a ρ'):=λa s q H E I (F,A,r,k)=>h F H a s q H E I (F,A,λj v u w n=>k j v u (n.a4 λi D=>xf K)<|r.a0<|.of n.tocZ)
def mc(n:ag)(i:l[n]?=ai (.a<|.k x C z fs))(h:∀b g,cH X G<|cT b g l<|.b d)(K:Q d (.k x C z fs)):cH X G (ke b g x l<|.b Q):=λa s q H E I (F,A,r,k)=>by
 obtain⟨v,_,j⟩:=A.a3 n _ i;have D:v=.c x:=by cases j;rfl
 subst D;exact h F H a s q H E I (F,A,λv U T u V w=>k v d _ U T K (r.a0<|.of V) w<|j.up u)
def ko(hc:∀b g,cP X c<|eg b g l k)(T:k=ao->bg X O (ke b g x l L))(K:k=aw->bg X bs (ke b g x l L)):cH X (.If c O bs B) (ke b g x l L):=by
 have n:cP X c λa H Q=>∃F,bE F H F H a l/\∀u h,cZ F H u h->bE u h u h a l->Q k h:=λj s a H Q I (F,A,q)=>hc F H j s a H Q I (F,A,λu h V D=>q u h D.tocZ<|D.a4 λi W=>A.a2);cases k with|true=>exact eK (rX n (T aa) lM) λE a H (F,A,r,k)=>(F,A,λv U rl w=>om (v,w,r.a0<|.of rl,k))|false=>exact eK (rX n lM<|K aa) λE a H (F,A,r,k)=>(F,A,λv U rl w=>m_ (v,w,r.a0<|.of rl,k))
def Cz(t:bH)(n i:aR)(j a:bB)(d h:az):Prop:=(d=bp t n/\h=bp t i)\/(d=cv t j/\h=cv t a)
def BL(j:ag)(W:jS X.K t.a gD)(I:∀b g,aA X J<|aP b g l<|cv t ed)(hk:n.a[k]?=ai ed)(nd:(n.a.map (·.x)).Nodup)(he:∀b g,aA X e<|aP b g l d)
  (hx:ed'.x=ed.x)(hf:xD ed'=(xD ed).set j d)(V:kz (· ≠ed.x) (· ≠8) eA (Cz t n (fU n k ed') ed ed') l ρ')(hj:gD[j]?=ai f|>1)(hs:fS e (ai<|.Attribute J f m) B.line X.a0=cA aw|>1):
  cH X (.Assign [.Attribute J f m] e B) (ke b g x l<|.a ρ'):=
 eK (ik (jv I) (jv he) hs) λE σ H (F,A,r,kk)=>by
  refine(F,A,λv F1 H1 U A1 r1=>(F1,A1,λu F2 H2 i T r2=>?_));obtain⟨rfl,Z,h,s,Y,g3⟩:=Ca r2;refine(ed.x,t.a,Z,_,aa,T.fh _ _ s,W.a,W.b f<|eC hj,by rw[u_ Y];decide,?_);rw[Bc W.c hj Y];have hl:(gD.zip h).length=8:=by nofun
  have I:=zJ.a0 s<|.c t.a Z<|gD.zip<|h.set j v;rw[hl]at I;have K:cx F2 (h.set j v) (xD ed'):=by rw[hf];exact g3.a9 (r1.up i.ff) j
  have q:gD.length=(h.set j v).length:=(by simp[*]);refine kk σ _ _ (T.ov (λa o e=>?_) I V λd0 d' w hC D=>?_)<|(r.a0<|.of<|U.a4 i).a0<|nN.wr T.fh s aa;by_cases w:a=ed.x;subst w;rw[bO]at e ⊢;exact e;rw[aO w]at e ⊢;exact T.fh _ _ e;rcases hC with⟨rfl,rfl⟩|⟨rfl,rfl⟩;exact T' D s Y hx q K nd hk;obtain⟨rfl,_⟩:=Ca D;have:=bY.a4 (F:=bu F2 ed.x<|.c t.a Z<|gD.zip<|h.set j v) (c:=t.a) bO (cx.ov (zJ.a0 s _) _ (Tz ed') K) q;show bY _ _<|az.k ed'.x _ _ _;rw[hx];exact this
def zN(h a d i:az):Prop:=d=h/\i=a
def KU(j:ag)(I:jS X.K C z)(i:∀b g,aA X J<|aP b g l<|.k x C z fs)(he:∀b g,aA X e<|aP b g l d)(T:ma (· ≠x) (· ≠z.length) eA (fs.set j d))(s:kz (· ≠x) (· ≠z.length) eA (zN (.k x C z fs)<|.k x C z<|fs.set j d) l ρ')
  (hns:z.length<1000|>2)(W:z[j]?=ai f|>1)(hs:fS e (ai<|.Attribute J f m) B.line X.a0=cA aw|>1):
  cH X (.Assign [.Attribute J f m] e B) (ke b g x l<|.a ρ'):=
 eK (ik (jv i) (jv he) hs) λE Z H (F,A,r,kk)=>by
  refine(F,A,λv F1 H1 q A1 r1=>(F1,A1,λu F2 H2 h k r2=>?_));cases r2 using W5 with|a4 V g3 U=>
   rename_i Y n;refine(x,C,Y,_,aa,k.fh _ _ V,I.a,I.b f<|eC W,by rw[u_ U];exact hns,?_);rw[Bc I.c W U];have i:=zJ.a0 V<|.c C Y<|z.zip<|n.set j v;rw[u_ U]at i;have hr:cx F2 (n.set j v) (fs.set j d):=g3.a9 (r1.up h.ff) j;have D:z.length=(n.set j v).length:=∅;refine kk Z _ _ (k.ov (λa o e=>?_) i s λd0 d' w hC hw=>?_)<|(r.a0<|.of<|q.a4 h).a0<|nN.wr k.fh V aa;by_cases w:a=x;subst w;rw[bO]at e ⊢;exact e;rw[aO w]at e ⊢;exact k.fh _ _ e;obtain⟨rfl,rfl⟩:=hC;cases hw using W5 with|a4 _ _ _=>exact .a4 bO (cx.ov i _ T hr) D
end
def Ml(ad:bH)(a:iL):af az:=[bp ad a.n,aM a.b,.d<|a.c.map aM]
def aeC(ad:bH)(g:iL->Prop)(R:iL->af ah->aR->Prop):k_:=λf H Q _=>∃F a,bD F H/\cx F f (Ml ad a)/\g a/\∀v b c d e,R a b c->c.x=a.n.x->nN F H d e->bY d v (aM b)->bY d (.c a.n.x) (bp ad c)->Q v e
structure mO(P:cn)(w:bS)(K:aZ)(mg:aC->aJ aB)(base:bT)(k:ag)(x:aC)(ad:bH)(Dm:iL->Prop)(R:iL->af ah->aR->Prop):Prop where
 ex:∃(f:ax) (fd:jY) (ps:af aC),gR P w K mg base kb k f fd ps (aeC ad Dm R)/\mg x=ai (.ref f)/\mr K (.ref f)=ao/\la K fd ps []
section
variable{K:aZ}
def xj{j:du}(U:cu K i x j)(S:bW N ps (bf j))(I:ps.length=3)
  (hb:∀(n p z:aB) (M:aJ ax) (g L:aB) (m:af aB),m.length=ps.length->uy (nX x x (pw j) (iQ j) (bf j) .none n p z M g L) (m,[])=cA (ps.zip m))
  (body:∀{f:ax} {g:aB} {A:fG} {e:af ig} {s:ba} {H:ay} {E:jC} (T O:ay) (a:iL),dy k (ml P w K i b N x j f g A e s H E).A->Dm a->
   bg (ml P w K i b N x j f g A e s H E) (iQ j) (ke T O a.n.x (rn N<|Ml c a) (.b λd u=>∃l o,R a l o/\o.x=a.n.x/\d=aM l/\u=bp c o))):mO P w K i b (k+1) x c Dm R:=by
 obtain⟨f,J,F,C⟩:=U.a;refine(f,J,ps,F.ok S (λy H Q E h=>?_)<|λg A e s H y Q E B h=>?_,C,F.kp,F.a1 hb);obtain⟨G,a,_,r,_,_⟩:=h;rw[r.a1,I];rfl;obtain⟨G,a,t,r,D,q⟩:=h;refine(_,body G H a B D,G,zD t r,.a9 t,λv d u Z Y W rl X V=>?_);left
def cI.a1(h:cI P w K i b k x (mM c Pre g)):mO P w K i b k x c (λa=>bw a.n/\Pre a) (λa d o=>d=g a/\o=a.n):=by
 obtain⟨f,B,m,F,u,y,z⟩:=h.ex;refine(f,B,m,F.a2 λI H Q E p=>?_,u,y,z);obtain⟨G,a,A,r,⟨t,s⟩,q⟩:=p;refine(G,Ml c a,aM<|g a,A,r,(a,aa,t,s,aa),λv D C rl l=>?_);have n:bY G (.c a.n.x) (bp c a.n):=by
  cases r using X2 with|a0 j _=>obtain⟨e,_⟩:=rp j;rw[<-e];exact j
 exact q v (g a) a.n D C (aa,aa) aa (.of rl) l<|n.up rl.ff
def gj(e:bB)(q:ah×ah):bB:=(e.x,e.c,e.b,e.a,e.g,e.h,q,e.l,e.k)
def qm(e:bB)(q:ah×ah):bB:=(e.x,e.c,e.b,e.a,e.g,q,e.o,e.l,e.k)
def iF(e:bB)(q:ah×ah):bB:=(e.x,e.c,e.b,e.a,e.g,e.h,e.o,q,e.k)
def ve(e:bB)(z:ah):bB:=(e.x,e.c,e.b,e.a,e.g,e.h,e.o,e.l,z)
def sr(n:aR)(i x y:ah):af ah×aR:=if dB n i=aw\/ip x y=aw then([-1],n)else match n.a[i.toNat]? with|none=>([-1],n)|some e=>if e.c=1 then([0],fU n i.toNat<|gj e<|bh<|aQ x y)else([-3],n)
def sx(n:aR)(i x y:ah):af ah×aR:=if dB n i=aw\/oy x y=aw then([-1],n)else match n.a[i.toNat]? with|none=>([-1],n)|some e=>if e.c=2 then([0],fU n i.toNat<|qm e<|bh<|aQ x y)else([-3],n)
def tT(n:aR)(i x y z:ah):af ah×aR:=if dB n i=aw\/ip x y=aw\/lT z=aw then([-1],n)else match n.a[i.toNat]? with|none=>([-1],n)|some e=>([0],fU n i.toNat<|ve (iF e<|bh<|aQ x y) z)
structure nO(n:aR):Prop where
 b:bw n
 a:(n.a.map (·.x)).Nodup
def SX(h:oy a b=ao):0<=a/\1<=b/\a<=1000000/\b<=1000000:=by simp_all[oy]
def Sv:bW ["network","numbers","rows","edge"] ["network","numbers","rows"] (bf<|aK 100):={}
def lc(J:cq K m c):
  mO P w K m f 47 "answer_opens" c (λa=>nO a.n/\∃i x y,a.b=[i,x,y]) (λa r u=>∃i x y,a.b=[i,x,y]/\(r,u)=sr a.n i x y):=by
 refine xj (k:=46) J.i Sv aa (λ_ _ _ _ _ _=>Q3 λ_ _ _=>aa) λM L a I C=>?_;obtain⟨n,j,g⟩:=a;obtain⟨q,i,x,y,b⟩:=C;have b:j=[i,x,y]:=b;subst b;have q:nO n:=q;by_cases p:dB n i=aw\/ip x y=aw;refine g_<|ko (λ_ _=>jD.pt<|er (ef<|d_<|aY (oH J) #[(0),bt (1) aF di] ((n,i),aa,aa)) λ_=>(dQ<|ef<|d_<|aY (zq J) #[bt (1) aF eH,bt (1) aF mi] ((x,y),aa,aa))) (λ_=>g_<|mc 0 aa (λ_ _=>bb<|bJ<|cQ #[cY J.T.i]) ([-1],n,(i,x,y,aa,by unfold sr;rw[aG p]),aa,aa,aa))<|λh=>?_;(exfalso;nofun);have B:dB n i=ao:=(by nofun);have A:ip x y=ao:=();obtain⟨k,rfl,z⟩:=oN B;obtain⟨H,G,F,E,D⟩:=BB A;have l:=cK z;generalize n.a[k]=e at l;refine ib (ko (λ_ _=>jD.pt<|er (ef<|d_<|aY (oH J) #[(0),bt (1) aF di] ((n,k),aa,aa)) λ_=>(dQ<|ef<|d_<|aY (zq J) #[bt (1) aF eH,bt (1) aF mi] ((x,y),aa,aa))) (λh=>?_)<|λ_=>su) ?_;nofun;refine ib (BM λ_ _=>cB (d:=cv c e) 3 (bt (bc 1 J.T.c (0)) (bt (1) aF di)<|gQ (by rw[cV,l];rfl)) Sv.a) ?_;by_cases s:e.c=1;refine ib (ko (k:=aw) (λ_ _=>cX (iH (bc 0 J.T.b (3))<|cY J.T.g) ∅) ¬_<|λ_=>su) ?_;have o:kz (· ≠e.x) (· ≠8) eA (Cz c n (fU n k<|gj e<|bh<|aQ x y) e<|gj e<|bh<|aQ x y) [.a<|bp c n,.a<|aM [(k:ah),x,y],.a<|.d<|g.map aM,.a<|cv c e] [.a<|bp c<|fU n k<|gj e<|bh<|aQ x y,.a<|aM [(k:ah),x,y],.a<|.d<|g.map aM,.b]:=.a1 (.inl (aa,aa))<|.a0 (oC _)<|.a0 (l_ _)<|.no .a2;refine ib (BL 5 (ed':=gj e<|bh<|aQ x y) J.T.b (λ_ _=>(3)) l q.a (λ_ _=>aY (nG J) #[bt (1) aF eH,bt (1) aF mi] (x,y,aa,(_),aa)) aa aa o) ?_;exact g_<|mc 0 aa (λ_ _=>bb<|bJ<|cQ #[aF]) ([0],fU n k<|gj e<|bh<|aQ x y,(k,x,y,aa,by unfold sr;rw[aE p,show((k:ah)).toNat=k from aa,l];dsimp only;rw[aG s]),aa,aa,aa);exact g_<|ko (k:=ao) (λ_ _=>cX (iH (bc 0 J.T.b (3))<|cY J.T.g) (by have:¬((e.c:ag):ah)=1:=!_;nofun)) (λ_=>g_<|mc 0 aa (λ_ _=>bb<|bJ<|cQ #[cY J.T.q]) ([-3],n,(k,x,y,aa,by unfold sr;rw[aE p,show((k:ah)).toNat=k from aa,l];dsimp only;rw[aE s]),aa,aa,aa)) ()
def Su:bW ["network","numbers","rows","edge"] ["network","numbers","rows"] (bf<|aK 101):={}
def Fa(J:cq K m c):
  mO P w K m f 47 "answer_head" c (λa=>nO a.n/\∃i x y,a.b=[i,x,y]) (λa r u=>∃i x y,a.b=[i,x,y]/\(r,u)=sx a.n i x y):=by
 refine xj (k:=46) J.n Su aa (λ_ _ _ _ _ _=>Q3 λ_ _ _=>aa) λL I a H C=>?_;obtain⟨n,j,g⟩:=a;obtain⟨q,i,x,y,b⟩:=C;have b:j=[i,x,y]:=b;subst b;have q:nO n:=q;by_cases p:dB n i=aw\/oy x y=aw;refine g_<|ko (λ_ _=>jD.pt<|er (ef<|d_<|aY (oH J) #[(0),bt (1) aF di] ((n,i),aa,aa)) λ_=>(dQ<|ef<|d_<|aY (Ld J) #[bt (1) aF eH,bt (1) aF mi] ((x,y),aa,aa))) (λ_=>g_<|mc 0 aa (λ_ _=>bb<|bJ<|cQ #[cY J.T.i]) ([-1],n,(i,x,y,aa,by unfold sx;rw[aG p]),aa,aa,aa))<|λh=>?_;(exfalso;nofun);have B:dB n i=ao:=∅;have A:oy x y=ao:=∅;obtain⟨k,rfl,z⟩:=oN B;obtain⟨G,F,E,D⟩:=SX A;have l:=cK z;generalize n.a[k]=e at l;refine ib (ko (λ_ _=>jD.pt<|er (ef<|d_<|aY (oH J) #[(0),bt (1) aF di] ((n,k),aa,aa)) λ_=>(dQ<|ef<|d_<|aY (Ld J) #[bt (1) aF eH,bt (1) aF mi] ((x,y),aa,aa))) (λh=>?_)<|λ_=>su) ?_;nofun;refine ib (BM λ_ _=>cB (d:=cv c e) 3 (bt (bc 1 J.T.c (0)) (bt (1) aF di)<|gQ (by rw[cV,l];rfl)) Su.a) ?_;by_cases s:e.c=2;refine ib (ko (k:=aw) (λ_ _=>cX (iH (bc 0 J.T.b (3))<|cY J.T.m) ∅) ¬_<|λ_=>su) ?_;have o:kz (· ≠e.x) (· ≠8) eA (Cz c n (fU n k<|qm e<|bh<|aQ x y) e<|qm e<|bh<|aQ x y) [.a<|bp c n,.a<|aM [(k:ah),x,y],.a<|.d<|g.map aM,.a<|cv c e] [.a<|bp c<|fU n k<|qm e<|bh<|aQ x y,.a<|aM [(k:ah),x,y],.a<|.d<|g.map aM,.b]:=.a1 (.inl (aa,aa))<|.a0 (oC _)<|.a0 (l_ _)<|.no .a2;refine ib (BL 4 (ed':=qm e<|bh<|aQ x y) J.T.b (λ_ _=>(3)) l q.a (λ_ _=>aY (nG J) #[bt (1) aF eH,bt (1) aF mi] (x,y,aa,(_),aa)) aa aa o) ?_;exact g_<|mc 0 aa (λ_ _=>bb<|bJ<|cQ #[aF]) ([0],fU n k<|qm e<|bh<|aQ x y,(k,x,y,aa,by unfold sx;rw[aE p,show((k:ah)).toNat=k from aa,l];dsimp only;rw[aG s]),aa,aa,aa);exact g_<|ko (k:=ao) (λ_ _=>cX (iH (bc 0 J.T.b (3))<|cY J.T.m) (by have:¬((e.c:ag):ah)=2:=!_;nofun)) (λ_=>g_<|mc 0 aa (λ_ _=>bb<|bJ<|cQ #[cY J.T.q]) ([-3],n,(k,x,y,aa,by unfold sx;rw[aE p,show((k:ah)).toNat=k from aa,l];dsimp only;rw[aE s]),aa,aa,aa)) ()
def So:bW ["network","numbers","rows","edge"] ["network","numbers","rows"] (bf<|aK 110):={}
def Mf{x y z u:α}{l:af α}:fZ (x::y::z::u::l) 3=ai u:=gQ (j:=3) aa
def db(J:cq K m c):
  mO P w K m f 47 "answer_loss" c (λa=>nO a.n/\∃i x y z,a.b=[i,x,y,z]) (λa u C=>∃i x y z,a.b=[i,x,y,z]/\(u,C)=tT a.n i x y z):=by
 refine xj (k:=46) J.c7 So aa (λ_ _ _ _ _ _=>Q3 λ_ _ _=>aa) λS R a Q G=>?_;obtain⟨n,j,g⟩:=a;obtain⟨p,i,x,y,z,b⟩:=G;have b:j=[i,x,y,z]:=b;subst b;have p:nO n:=p;by_cases A:dB n i=aw\/ip x y=aw\/lT z=aw;refine g_<|ko (λ_ _=>jD.pt<|er (ef<|d_<|aY (oH J) #[(0),bt (1) aF di] ((n,i),aa,aa)) λ_=>er (ef<|d_<|aY (zq J) #[bt (1) aF eH,bt (1) aF mi] ((x,y),aa,aa)) λ_=>dQ<|ef<|d_<|aY (FJ J) #[bt (1) aF Mf] (z,aa,aa)) (λ_=>g_<|mc 0 aa (λ_ _=>bb<|bJ<|cQ #[cY J.T.i]) ([-1],n,(i,x,y,z,aa,by unfold tT;rw[aG A]),aa,aa,aa))<|λh=>?_;(exfalso;nofun);have F:dB n i=ao:=∅;have E:ip x y=ao:=∅;have O:lT z=ao:=∅;obtain⟨k,rfl,v⟩:=oN F;obtain⟨N,M,L,I,H⟩:=BB E;have o:=cK v;generalize n.a[k]=e at o;refine ib (ko (λ_ _=>jD.pt<|er (ef<|d_<|aY (oH J) #[(0),bt (1) aF di] ((n,k),aa,aa)) λ_=>er (ef<|d_<|aY (zq J) #[bt (1) aF eH,bt (1) aF mi] ((x,y),aa,aa)) λ_=>dQ<|ef<|d_<|aY (FJ J) #[bt (1) aF Mf] (z,aa,aa)) (λh=>?_)<|λ_=>su) ?_;nofun;refine ib (BM λ_ _=>cB (d:=cv c e) 3 (bt (bc 1 J.T.c (0)) (bt (1) aF di)<|gQ (by rw[cV,o];rfl)) So.a) ?_;have s:kz (· ≠e.x) (· ≠8) eA (Cz c n (fU n k<|iF e<|bh<|aQ x y) e<|iF e<|bh<|aQ x y) [.a<|bp c n,.a<|aM [(k:ah),x,y,z],.a<|.d<|g.map aM,.a<|cv c e] [.a<|bp c<|fU n k<|iF e<|bh<|aQ x y,.a<|aM [(k:ah),x,y,z],.a<|.d<|g.map aM,.a<|cv c<|iF e<|bh<|aQ x y]:=.a1 (.inl (aa,aa))<|.a0 (oC _)<|.a0 (l_ _)<|.a1 (.inr (aa,aa)) .a2;refine ib (BL 6 (ed':=iF e<|bh<|aQ x y) J.T.b (λ_ _=>(3)) o p.a (λ_ _=>aY (nG J) #[bt (1) aF eH,bt (1) aF mi] (x,y,aa,(_),aa)) aa aa s) ?_;have t:(fU n k<|iF e<|bh<|aQ x y).a[k]?=ai (iF e<|bh<|aQ x y):=mY v;have q:((fU n k<|iF e<|bh<|aQ x y).a.map (·.x))=n.a.map (·.x):=by show(n.a.set k _).map _=_;rw[n_];exact Bm (by rw[cV,o];rfl)
 have r:fU (fU n k<|iF e<|bh<|aQ x y) k (ve (iF e<|bh<|aQ x y) z)=fU n k (ve (iF e<|bh<|aQ x y) z):=by simp[fU,HW]
 have l:kz (· ≠(iF e<|bh<|aQ x y).x) (· ≠8) eA (Cz c (fU n k<|iF e<|bh<|aQ x y) (fU (fU n k<|iF e<|bh<|aQ x y) k<|ve (iF e<|bh<|aQ x y) z) (iF e<|bh<|aQ x y)<|ve (iF e<|bh<|aQ x y) z) [.a<|bp c<|fU n k<|iF e<|bh<|aQ x y,.a<|aM [(k:ah),x,y,z],.a<|.d<|g.map aM,.a<|cv c<|iF e<|bh<|aQ x y] [.a<|bp c<|fU (fU n k<|iF e<|bh<|aQ x y) k<|ve (iF e<|bh<|aQ x y) z,.a<|aM [(k:ah),x,y,z],.a<|.d<|g.map aM,.b]:=.a1 (.inl (aa,aa))<|.a0 (oC _)<|.a0 (l_ _)<|.no .a2;refine ib (BL 7 (ed':=ve (iF e<|bh<|aQ x y) z) J.T.b (λ_ _=>(3)) t (by rw[q];exact p.a) (λ_ _=>bt (1) aF Mf) aa aa l) ?_;rw[r];exact g_<|mc 0 aa (λ_ _=>bb<|bJ<|cQ #[aF]) ([0],fU n k<|ve (iF e<|bh<|aQ x y) z,(k,x,y,z,aa,by unfold tT;rw[aE A,show((k:ah)).toNat=k from aa,o]),aa,aa,aa)
end
mutual
def lj.a0(h:∀x,I x->I' x):∀(d:az),lj I O Kd d->lj I' O Kd d
 |.e,_=>dU|.g _,_=>dU|.a _,_=>dU|.j _,_=>dU|.f a,k=>ma.a0 h a k|.d a,k=>ma.a0 h a k|.m _ _ a,k=>(k.1,ma.a0 h a k.2)|.k _ _ _ a,k=>(h _ k.1,ma.a0 h a k.2)|.h _ a,k=>(k.1,ma.a0 h a k.2)
def ma.a0(h:∀x,I x->I' x):∀(a:af az),ma I O Kd a->ma I' O Kd a
 |[],_=>dU|d::a,k=>(lj.a0 h d k.1,ma.a0 h a k.2)
end
def kz.a5(h:kz I O Kd C a b)(d:∀x,I x->I' x):kz I' O Kd C a b:=by
 induction h with|a2=>exact .a2|no _ c=>exact .no c|a0 e _ c=>exact .a0 (lj.a0 d _ e) c|a1 f _ c=>exact .a1 f c
def pI(l:af (ah×ah))(k v:ah):af (ah×ah):=if(l.any λq=>aT<|q.1=k)=ao then l.map (λq=>if q.1=k then(q.1,v)else q)else l++[(k,v)]
def qz(l:af (ah×ah))(k:ah):af (ah×ah):=l.filter λq=>aT<|q.1≠k
def nF(l:af (ah×ah)):af (fA×aH):=l.map λq=>(hJ q.1,aH.d q.2)
def rI(l:af (ah×ah))(k v:ah):og (nF l) (.inl k) (.d v)=nF (pI l k v):=by
 have e:((nF l).any λa=>aT<|a.1=(hJ k:fA))=l.any λq=>aT<|q.1=k:=by (simp_all[nF,List.any_map];grind?)
 unfold og pI;rw[e];by_cases h:(l.any λq=>aT<|q.1=k)=ao;·rw[aG h,aG h];unfold nF;rw[eS,eS];(simp;lia)
 all_goals simp[*,nF]
def y8(l:af (ah×ah))(k:ah):wH (nF l) (.inl k)=nF (qz l k):=by grind[wH,qz,nF,OG]
def Eu(b a:af ah):(b.map hJ).zip (a.map aH.d)=nF (b.zip a):=by (solve_by_elim[nF,List.zip_map])
def ap(l:af (ah×ah)):((l.map (·.1)).map hJ).zip ((l.map (·.2)).map aH.d)=nF l:=by
 rw[Eu];congr 1;induction l with|nil=>rfl|cons q l a=>rw[eE,eE,List.zip_cons_cons,a]
def pF(n:aR)(l:af (ah×ah)):aR:=(n.x,n.b,n.a,l.map (·.1),l.map (·.2))
def Uc{i:bH}(h:bY F v (bp i n))(a:F n.x=ai (.c i.b dx<|iJ.zip [v0,v1,.c b]))(j:F b=ai (.d kvs))(l:af (ah×ah)):bY (bu F b<|.d<|nF l) v (bp i<|pF n l):=by
 obtain⟨rfl,f,p,x,m,u,t,k,y⟩:=rp h;have o:=zJ.a2 j<|.d<|nF l;rw[a]at u;have e:m=.c b:=by nofun
 subst e;have c:n.x≠b:=λq=>by rw[q,j]at a;cases a
 have w:p=v0/\x=v1/\f=dx:=by nofun
 obtain⟨rfl,rfl,rfl⟩:=w;refine .a4 (by rw[aO c];exact a) (.a0 (bY.ov o _ (l_ _) t)<|.a0 (bY.ov o _ (BC _ λe s=>?_) k)<|.a0 ?_ .a2) aa;cases k using W2 with|a0 _ r=>obtain⟨d,fs,g,_⟩:=Gh r e s;exact(_,_,_,g)
 show bY _ _<|.h (l.map (·.1))<|(l.map (·.2)).map az.a;refine .a5 (vs:=(l.map (·.2)).map aH.d) ?_ (Fb _) ();(rw[ap,bO])
section
variable{X:bA}{j l:ay}{i ρ':af bL}{e s:bI}{g p z q d f B:dj}{x:ax}{c:bH}{n:aR}{k t:ah}
def ii(T:jS X.K c.b iJ)(J:i[0]?=ai (.a<|bp c n))(hi:∀j l,aA X s<|aP j l i<|.a k)(he:∀j l,aA X e<|aP j l i<|.a t)(P:n.d.length<=100)
  (hs':kz (λ_=>eo) (λ_=>eA) eo (zN (bp c n)<|bp c<|pF n<|pI (n.d.zip n.e) k t) i ρ')(hr:dy 1 X.A|>3)
  (hN:X.N[0]?=ai ("network":aC)|>1)(L:eF X.a0.scope "network"|>3)
  (hb:ie (.Name "network" p) "boilers" X.a0 (bN (.Name "network" p) X.a0)=bN (.Name "network" p) X.a0|>1)(Z:fS e (ai<|.Subscript (.Attribute (.Name "network" p) "boilers" z) s q) g.line X.a0=cA aw|>1):
  cH X (.Assign [.Subscript (.Attribute (.Name "network" p) "boilers" z) s q] e g) (ke j l x i<|.a ρ'):=
 eK (abn (Ea hr) (wF (ft hN L ⋯ ⋯) hb) (jv hi) (jv he) Z) λE S H (F,A,r,kk)=>by
  refine(F,A,λv F1 H1 I Q Y=>?_);cases Y;obtain⟨u,g0,O⟩:=Q.a3 0 _ J;obtain⟨rfl,dx,v0,v1,U,R,g2,g3,g4⟩:=rp O;refine(_,g0,n.x,c.b,dx,_,U,aa,Q.fh _ _ R,T.a,T.b _ ⋯,aa,F1,Q,λy F2 H2 D G W=>?_);cases W;cases g4 using W6 with|a5 eb V lb=>rename_i b us;have M:=V.a7;subst M;have m:=D.ff _ _ eb;rw[Eu]at m;refine(b,_,aa,Em.k (k:=.inl k) (v:=.d t) (G.fh _ _ m) ?_,?_);unfold nF;rw[cb,kG];exact Ax (Nat.min_le_left _ _)<|Ax P ⋯;rw[rI];refine kk S _ _ (G.ov (λa o e=>?_) (zJ.a2 m _) (C:=zN (bp c n)<|bp c<|pF n<|pI (n.d.zip n.e) k t) ?_ λd0 d' w hC hw=>?_)<|(r.a0<|.of<|I.a4 D).a0<|nN.wr G.fh m aa;by_cases w:a=b;subst w;rw[bO]at e ⊢;exact e;rw[aO w]at e ⊢;exact G.fh _ _ e;exact hs'.a5 λ_ h=>h.elim;obtain⟨rfl,rfl⟩:=hC;exact Uc hw (D.ff _ _ R) m _
def ci(T:jS X.K c.b iJ)(L:i[0]?=ai (.a<|bp c n))(hi:∀j l,aA X s<|aP j l i<|.a k)(hl:(n.d.zip n.e).lookup k=ai u)
  (hs':kz (λ_=>eo) (λ_=>eA) eo (zN (bp c n)<|bp c<|pF n<|qz (n.d.zip n.e) k) i ρ')
  (hN:X.N[0]?=ai ("network":aC)|>1)(M:eF X.a0.scope "network"|>3)
  (hb:ie (.Name "network" p) "boilers" X.a0 (bN (.Name "network" p) X.a0)=bN (.Name "network" p) X.a0|>1)
  (m:Qz X (.Attribute (.Name "network" p) "boilers" z) "pop" d s f:=by exact(rfl,rfl,rfl,rfl))(Z:fS (.Call (.Attribute (.Attribute (.Name "network" p) "boilers" z) "pop" d) [s] [] f) aq g.line X.a0=cA aw|>1):
  cH X (.Expr (.Call (.Attribute (.Attribute (.Name "network" p) "boilers" z) "pop" d) [s] [] f) g) (ke j l x i<|.a ρ'):=
 eK (uN (abG (wF (ft hN M ⋯ ⋯) hb) (jv hi) m) Z) λE U H (F,A,r,kk)=>by
  obtain⟨u0,g0,P⟩:=A.a3 0 _ L;obtain⟨rfl,dx,v0,v1,V,S,g2,g3,g4⟩:=rp P;refine(_,g0,n.x,c.b,dx,_,V,aa,A.fh _ _ S,T.a,T.b _ ⋯,aa,?_);cases g4 using W6 with|a5 I Q Y=>rename_i b us;have O:=Q.a7;subst O;have eb0:=I;rw[Eu]at I;refine(b,aa,.inl (_,.inl<|A.fh _ _ I),F,A,λy F2 H2 v J W=>?_);cases W;have G:=v.ff _ _ I;have R:=Bf k (Q.up v.ff) Y;rw[Fw az.a,hl]at R;obtain⟨w,hw,_⟩:=R;rw[Eu]at hw;refine(_,.inl k,w,J.fh _ _ G,aa,hw,?_);rw[y8];refine kk U _ _ (J.ov (λa o e=>?_) (zJ.a2 G _) (C:=zN (bp c n)<|bp c<|pF n<|qz (n.d.zip n.e) k) ?_ λd0 d' w hC hw=>?_)<|(r.a0<|.of v).a0<|nN.wr J.fh G aa;by_cases w:a=b;subst w;rw[bO]at e ⊢;exact e;rw[aO w]at e ⊢;exact J.fh _ _ e;exact hs'.a5 λ_ h=>h.elim;obtain⟨rfl,rfl⟩:=hC;exact Uc hw (v.ff _ _ S) G _
end
section
variable{K:aZ}
def tZ(n:aR)(v t:ah):af ah×aR:=if oE n v=aw\/lT t=aw then([-1],n)else([0],pF n<|pI (n.d.zip n.e) v t)
def sf(n:aR)(v:ah):af ah×aR:=if oE n v=aw then([-1],n)else if(gw n v).isSome=aw then([-4],n)else([0],pF n<|qz (n.d.zip n.e) v)
def K5(h:bw n):n.d.length<=100:=by
 have g:n.d.length<=((bP n.b.length).map Ba).length:=h.i.length_le_of_subset λk f=>by obtain⟨a,b⟩:=h.g k f;exact cJ.mpr (k.toNat,jz.mpr ∅,by show((k.toNat:ag):ah)=k;lia)
 simp at g;have:=h.d;lia
def sB:bW ["network","numbers","rows"] ["network","numbers","rows"] (bf<|aK 111):={}
def Y9(J:cq K e d):
  mO P w K e c 47 "answer_boiler" d (λa=>nO a.n/\∃v t,a.b=[v,t]) (λa j o=>∃v t,a.b=[v,t]/\(j,o)=tZ a.n v t):=by
 refine xj (k:=46) J.c1 sB aa (λ_ _ _ _ _ _=>Q3 λ_ _ _=>aa) λy x a r q=>?_;obtain⟨n,g,f⟩:=a;obtain⟨i,v,t,b⟩:=q;have b:g=[v,t]:=b;subst b;have i:nO n:=i;by_cases l:oE n v=aw\/lT t=aw;refine g_<|ko (λ_ _=>jD.pt<|er (ef<|d_<|aY (FN J) #[(0),bt (1) aF di] ((n,v),aa,aa)) λ_=>(dQ<|ef<|d_<|aY (FJ J) #[bt (1) aF eH] (t,aa,aa))) (λ_=>g_<|mc 0 aa (λ_ _=>bb<|bJ<|cQ #[cY J.T.i]) ([-1],n,(v,t,aa,by unfold tZ;rw[aG l]),aa,aa,aa))<|λh=>?_;(exfalso;nofun);have u:oE n v=ao:=∅;have s:lT t=ao:=∅;refine ib (ko (λ_ _=>jD.pt<|er (ef<|d_<|aY (FN J) #[(0),bt (1) aF di] ((n,v),aa,aa)) λ_=>(dQ<|ef<|d_<|aY (FJ J) #[bt (1) aF eH] (t,aa,aa))) (λh=>?_)<|λ_=>su) ?_;nofun;refine ib (ii (n:=n) (k:=v) (t:=t) (ρ':=[.a<|bp d<|pF n<|pI (n.d.zip n.e) v t,.a<|aM [v,t],.a<|.d<|f.map aM]) J.T.c aa (λ_ _=>bt (1) aF di) (λ_ _=>bt (1) aF eH) (K5 i.b)<|.a1 (aa,aa)<|.a0 (oC _)<|.a0 (l_ _) .a2) ?_;exact g_<|mc 0 aa (λ_ _=>bb<|bJ<|cQ #[aF]) ([0],pF n<|pI (n.d.zip n.e) v t,(v,t,aa,by unfold tZ;rw[aE l]),aa,aa,aa)
def tB:bW ["network","numbers","rows"] ["network","numbers","rows"] (bf<|aK 112):={}
def ld(J:cq K e d):
  mO P w K e c 47 "answer_unboil" d (λa=>nO a.n/\∃v,a.b=[v]) (λa j p=>∃v,a.b=[v]/\(j,p)=sf a.n v):=by
 refine xj (k:=46) J.a1 tB aa (λ_ _ _ _ _ _=>Q3 λ_ _ _=>aa) λt s a r q=>?_;obtain⟨n,h,g⟩:=a;obtain⟨m,v,b⟩:=q;have b:h=[v]:=b;subst b;have m:nO n:=m;by_cases l:oE n v=ao;refine ib (ko (k:=aw) (λ_ _=>cX (ef<|d_<|aY (FN J) #[(0),bt (1) aF di] ((n,v),aa,aa)) ∅) ¬_<|λ_=>su) ?_;cases f:gw n v with|none=>exact g_ (ko (k:=ao) (λ_ _=>cX (RF (bt (1) aF di)<|bc 2 J.T.c (0)) (by show(!vz n.d (n.e.map az.a) v)=ao;rw[zp,f];rfl)) (λ_=>g_<|mc 0 aa (λ_ _=>bb<|bJ<|cQ #[cY J.T.I]) ([-4],n,(v,aa,by unfold sf;rw[aE (by rw[l];decide),f];rfl),aa,aa,aa)) ())|some u=>refine ib (ko (k:=aw) (λ_ _=>cX (RF (bt (1) aF di)<|bc 2 J.T.c (0)) (by show(!vz n.d (n.e.map az.a) v)=aw;rw[zp,f];rfl)) ¬_<|λ_=>su) ?_;refine ib (ci (n:=n) (k:=v) (u:=u) (ρ':=[.a<|bp d<|pF n<|qz (n.d.zip n.e) v,.a<|aM [v],.a<|.d<|g.map aM]) J.T.c aa (λ_ _=>bt (1) aF di) f<|.a1 (aa,aa)<|.a0 (oC _)<|.a0 (l_ _) .a2) ?_;exact g_<|mc 0 aa (λ_ _=>bb<|bJ<|cQ #[aF]) ([0],pF n<|qz (n.d.zip n.e) v,(v,aa,by unfold sf;rw[aE (by rw[l];decide),f];rfl),aa,aa,aa)
 have i:oE n v=aw:=∅;exact g_<|ko (k:=ao) (λ_ _=>cX (ef<|d_<|aY (FN J) #[(0),bt (1) aF di] ((n,v),aa,aa)) ∅) (λ_=>g_<|mc 0 aa (λ_ _=>bb<|bJ<|cQ #[cY J.T.i]) ([-1],n,(v,aa,by unfold sf;rw[aG i]),aa,aa,aa)) ()
end
def aeE(Dm:af az->Prop)(R:ay->af az->az->Prop):k_:=λe H Q _=>∃F a,bD F H/\cx F e a/\Dm a/\∀v d c b,R H a d->cZ F H c b->bY c v d->Q v b
structure Mx(P:cn)(w:bS)(K:aZ)(mg:aC->aJ aB)(base:bT)(k:ag)(x:aC)(Dm:af az->Prop)(R:ay->af az->az->Prop):Prop where
 a:∃(f:ax) (fd:jY) (ps:af aC),gR P w K mg base kb k f fd ps (aeE Dm R)/\mg x=ai (.ref f)/\mr K (.ref f)=ao/\la K fd ps []
def U8{b:bH}(h:bY F v (bp b n))(i:bY F u (bp b n2)):∀e∈n2.a,e.x≠n.x:=λe c q=>by
 obtain⟨_,o,m,l,k,a,_,_,_⟩:=rp h;obtain⟨_,_,_,_,_,_,_,g,_⟩:=rp i;cases g using W2 with|a0 _ r=>obtain⟨j,fs,f,d⟩:=Gh r e c;rw[<-q,f]at a;injection a with a;injection a with _ _ a;have:=fk uI a;rw[u_ d]at this;exact bG this (by show ¬(8=3);decide)
section
variable{X:bA}{o t:ay}{j:af bL}{e:bI}{l:af bI}{a p c b:dj}{x:ax}{z:bH}{n:aR}{ds:af az}{f y:aC}{rest:af du}{B:GC}
def pi(m:ag)(h:Mx X.a2 X.w X.K X.mg X.a8 k f Dm R)(ha:∀o t,eW X (e::l)<|lW o t j ds)(hD:Dm ds)(W:j[0]?=ai (.a<|bp z n))(g0:X.N.Nodup)
  (h2:∀d,(∃C:ay,C n.x≠aq/\R C ds d)->(∀L,d=bp z L->∀e∈L.a,e.x≠n.x)->(∀e∈n.a,e.x≠n.x)->bg X rest (ke o t x (j.set m<|.a d) B))(no:(j.set m<|.a .e).all tO=ao|>1)
  (hr:dy k X.A|>3)(hg:dn X f|>1)(K:dA f|>2)
  (D:eI X e l|>1)(Z:eG X a l|>1)
  (hi:X.N[m]?=ai y|>1)(hx:h_ X.a0.scope y|>3)(hs:fS (.Call (.Name f p) (e::l) [] a) (ai<|.Name y c) b.line X.a0=cA aw|>1)
  (hf:iE X y|>3):
  bg X (.Assign [.Name y c] (.Call (.Name f p) (e::l) [] a) b::rest) (ke o t x j B):=by
 obtain⟨g,fd,ps,Fn,w,hk,hb⟩:=h.a;have N:eW X (e::l) λJ H Q=>∃F,bE F H F H J j/\∀P O M,cZ F H O M->bE O M O M J j->cx O P ds->Q P M:=λa S s J H Q I (F,A,q)=>ha F H a S s J H Q I (F,A,λP O M s' A' r=>q P O M A'.tocZ (A'.a4 λi ds=>A.a2) r);refine fg (eN (pk g0 hi hx (uR Fn hr hg w hk hb .nil (mZ (X:=X)) N K D Z) hs hf)<|oS (ι:=az) (Pp:=λd=>(∃C:ay,C n.x≠aq/\R C ds d)/\(∀L,d=bp z L->∀e∈L.a,e.x≠n.x)/\∀e∈n.a,e.x≠n.x) λd T=>h2 d T.1 T.2.1 T.2.2) λE J H (F,A,r,kk)=>?_;refine(F,A,λP F1 C V U r1=>?_);refine(F1,ds,U.fh,by rw[kH];exact r1,hD,λv d F2 H2 T G r2=>?_);obtain⟨u,_,g2⟩:=U.a3 0 _ W;have Y:C n.x≠aq:=by obtain⟨_,dx,v0,v1,v2,g1,_⟩:=rp g2;rw[U.fh _ _ g1];lia
 have A2:bE F2 H2 F2 H2 J j:=(U.up G).a4 λi ds=>U.a2;refine(d,((C,Y,T),λL e2=>?_,λe D=>λq=>Ub g2 e D q.symm),F2,?_,r.a0<|.of<|V.a4 G,kk);subst e2;exact U8 (g2.up G.ff) r2;refine(A2.a7 m r2).a4 λi g3 e=>?_;by_cases w:m=i;grind?;rw[hW w]at e;exact A2.a2 e
end
section
variable{K:aZ}
def Fk{e:du}(U:cu K j x e)(S:bW N ps (bf e))
  (hb:∀(g n u:aB) (L:aJ ax) (b J:aB) (l:af aB),l.length=ps.length->uy (nX x x (pw e) (iQ e) (bf e) .none g n u L b J) (l,[])=cA (ps.zip l))
  (len:∀c,Dm c->c.length=ps.length)
  (body:∀{f:ax} {b:aB} {A:fG} {a:af ig} {s:ba} {H:ay} {E:jC} (O o:ay) (c:af az),dy k (ml P w K j i N x e f b A a s H E).A->Dm c->
   bg (ml P w K j i N x e f b A a s H E) (iQ e) (cT O o (rn N c)<|.c<|R o c)):Mx P w K j i (k+1) x Dm R:=by
 obtain⟨f,I,F,z⟩:=U.a;refine(f,I,ps,F.ok S (λp H Q E h=>?_)<|λb A a s H p Q E y h=>?_,z,F.kp,F.a1 hb);obtain⟨G,c,_,r,m,_⟩:=h;rw[r.a1,len c m];obtain⟨G,c,C,r,m,q⟩:=h;exact(_,body G H c y m,G,zD C r,λv d T M B s V t=>q v d T M B V t)
def Mt(g:bH)(H:ay)(t:af ag)(d:az):Prop:=((∃e,jx t=.error e)/\d=.e)\/∃x b a,jx t=.ok (jH b a)/\vK b a/\(a.map (·.x)).Nodup/\H x=aq/\d=bp g (x,b.map dm,a,[],[])
def Sg:bW ["text","network"] ["text"] (bf<|aK 65):={}
def A9(J:cq K j g):Mx P w K j i 46 "network_of" (λs=>∃t,s=[cR t]/\mm t) (λH s d=>∀t,s=[cR t]->mm t->Mt g H t d):=by
 refine Fk (k:=45) J.I Sg (λ_ _ _ _ _ _=>Q1 λ_=>aa) (λs h=>by obtain⟨t,e,_⟩:=h;rw[e];rfl) λu m s T O=>?_;obtain⟨t,rfl,C⟩:=O;have o:∀f,[cR t]=[cR f]->f=t:=λf e=>by
  have e:t.map (λk=>az.a (k:ag))=f.map λk=>az.a (k:ag):=();have A:∀(a b:af ag),a.map (λk=>az.a (k:ag))=b.map (λk=>az.a (k:ag))->b=a:=by
   intro a;induction a with
   |nil=>intro b h;cases b with|nil=>rfl|cons c b=>cases h
   |cons c a M=>
    intro b h;cases b with
    |nil=>cases h
    |cons U b=>rw[eE,eE]at h;injection h with v y;injection v with v;rw[M b y];congr 1;lia
  exact A t f e
 have p:∀{d:az},Mt g m t d->∀f,[cR t]=[cR f]->mm f->Mt g m f d:=λh f e _=>by rw[o f e];exact h
 refine Rh (Z:=λF H=>cZ u m F H) (λ_ _ h=>h) ?_;refine Rf 1 (Fs J) Sg.a λq x=>?_;cases l:jx t with|error e=>have S:=T_ l;refine Jp (d:=.e) (ni<|vb (Z1:=rG g q u m<|Mr<|jx t) (k:=ao) (yR (QU<|wQ 1 (Mc J) aa (λ_ _=>#[(0)]) (t,aa,C,aa,aa,aa,aa)) ?_) (λ_=>?_) ())<|p<|.inl ((e,l),aa);simp[*,Bw];exact wR λB G E=>Jr 1 aa x λn=>ni (pB (λF H R Q z r=>z.a4 r) λu m=>bb eO)|ok L=>refine fu (Z1:=rG g q u m<|Mr<|jx t) (vb (k:=aw) (yR (QU<|wQ 1 (Mc J) aa (λ_ _=>#[(0)]) (t,aa,C,aa,aa,aa,aa)) ?_) ()<|λ_=>ou) ?_;simp[*,Bw];refine wR λB G E=>Jr 1 aa x λn=>?_;obtain⟨v,y⟩:=E L l;exact Jp (ni<|pB (λF H R Q z r=>z.a4 r) λu m=>bb (1))<|p<|.inr (q.x,B,G,by rw[l,v],y,n,x.x,aa)
def Sf:bW ["network","numbers","rows","found"] ["network","numbers","rows"] (bf<|aK 97):={}
def KO(nl:af (af ag))(a:af bB):af ah:=[0,((nl.length:ag):ah),((a.length:ag):ah)]
def Ud(n:aR)(t:af ah)(b:af ah)(d:aR):Prop:=((∃e,jx (iT t)=.error e)/\b=[-2]/\d=n)\/∃c a,jx (iT t)=.ok (jH c a)/\vK c a/\(a.map (·.x)).Nodup/\b=KO c a/\d=(n.x,c.map dm,a,[],[])
def ac(J:cq K j g):
  mO P w K j i 47 "answer_net" g (λa=>nO a.n/\∃t,a.c=[t]/\xH t) (λa L R=>∃t,a.c=[t]/\Ud a.n t L R):=by
 refine xj (k:=46) J.c6 Sf aa (λ_ _ _ _ _ _=>Q3 λ_ _ _=>aa) λT D a Y X=>?_;obtain⟨n,h,p⟩:=a;obtain⟨O,t,c,F⟩:=X;have c:p=[t]:=c;subst c;have O:nO n:=O;refine pi 3 (n:=n) (A9 J) (ds:=[cR<|iT t]) (λ_ _=>#[dY (bt (2) aF di) F.eq]) (iT t,aa,F.a0) aa Sf.a<|λd u y A=>?_;obtain⟨Z,S,u⟩:=u;rcases u (iT t) aa F.a0 with⟨s,rfl⟩|⟨o,b,f,G,W,H,I,rfl⟩;exact g_<|ko (λ_ _=>eX (3)) (λ_=>g_<|mc 0 aa (λ_ _=>bb<|bJ<|cQ #[cY J.T.H]) ([-2],n,(t,aa,.inl (s,aa,aa)),aa,aa,aa)) ();have v:o≠n.x:=λq=>S ∅;have l:∀e∈f,e.x≠n.x:=λe V=>y (o,b.map dm,f,[],[]) aa e V;have m:∀(N M:af ah),lj (· ≠n.x) (· ≠3) eA<|.h N<|M.map az.a:=λN M=>(dU,tM λd u=>by obtain⟨z,_,rfl⟩:=cJ.mp u;exact dU);have r:lj (· ≠n.x) (· ≠3) eA (bp g (o,b.map dm,f,[],[])):=dL _ v l dU;refine ib (ko (λ_ _=>eX (3)) ()<|λ_=>su) ?_;have E:ma (· ≠n.x) (· ≠iJ.length) eA (([.d<|n.b.map aM,.d<|n.a.map<|cv g,.h n.d<|n.e.map az.a]:af az).set 0<|.d<|(b.map dm).map aM):=(l_ _,BC _ A,m _ _,dU);refine ib (KU (x:=n.x) (fs:=[.d<|n.b.map aM,.d<|n.a.map<|cv g,.h n.d<|n.e.map az.a]) (d:=.d<|(b.map dm).map aM) 0 J.T.c (λ_ _=>(0)) (λ_ _=>bc 0 J.T.c (3)) E (ρ':=[.a<|.k n.x g.b iJ [.d<|(b.map dm).map aM,.d<|n.a.map<|cv g,.h n.d<|n.e.map az.a],.a<|aM h,.a<|.d<|[t].map aM,.a<|bp g (o,b.map dm,f,[],[])])<|.a1 (aa,aa)<|.a0 (oC _)<|.a0 (l_ _)<|.a0 r .a2) ?_;have C:ma (· ≠n.x) (· ≠iJ.length) eA (([.d<|(b.map dm).map aM,.d<|n.a.map<|cv g,.h n.d<|n.e.map az.a]:af az).set 1<|.d<|f.map<|cv g):=(l_ _,BC _ l,m _ _,dU);refine ib (KU (x:=n.x) (fs:=[.d<|(b.map dm).map aM,.d<|n.a.map<|cv g,.h n.d<|n.e.map az.a]) (d:=.d<|f.map<|cv g) 1 J.T.c (λ_ _=>(0)) (λ_ _=>bc 1 J.T.c (3)) C (ρ':=[.a<|.k n.x g.b iJ [.d<|(b.map dm).map aM,.d<|f.map<|cv g,.h n.d<|n.e.map az.a],.a<|aM h,.a<|.d<|[t].map aM,.a<|bp g (o,b.map dm,f,[],[])])<|.a1 (aa,aa)<|.a0 (oC _)<|.a0 (l_ _)<|.a0 r .a2) ?_;have B:ma (· ≠n.x) (· ≠iJ.length) eA (([.d<|(b.map dm).map aM,.d<|f.map<|cv g,.h n.d<|n.e.map az.a]:af az).set 2<|.h []<|([]:af ah).map az.a):=(l_ _,BC _ l,m [] [],dU);refine ib (KU (x:=n.x) (fs:=[.d<|(b.map dm).map aM,.d<|f.map<|cv g,.h n.d<|n.e.map az.a]) (d:=.h []<|([]:af ah).map az.a) 2 J.T.c (λ_ _=>(0)) (λ_ _=>bc 2 J.T.c (3)) B (ρ':=[.a<|.k n.x g.b iJ [.d<|(b.map dm).map aM,.d<|f.map<|cv g,.h []<|([]:af ah).map az.a],.a<|aM h,.a<|.d<|[t].map aM,.b])<|.a1 (aa,aa)<|.a0 (oC _)<|.a0 (l_ _)<|.no .a2) ?_;refine g_<|mc 0 aa (λ_ _=>bb<|bJ<|cQ #[aF,dO J.T.e<|bc 0 J.T.c (0),dO J.T.e<|bc 1 J.T.c (0)]) (KO b f,(n.x,b.map dm,f,[],[]),(t,aa,.inr (b,f,G,W,H,aa,aa)),aa,?_,aa);show az.d [_,az.a (((b.map dm).map aM).length:ag),az.a ((f.map<|cv g).length:ag)]=_;rw[cb,cb,cb];rfl
end
def oD(es:af bB)(a:af (ah×ah))(i:ag):af bB:=((es.zip a).map λq=>gj q.1 q.2).take i++es.drop i
def TJ{a:af (ah×ah)}(h:a.length=es.length)(b:i<=es.length):(oD es a i).length=es.length:=by simp[*,oD]
def OK{a:af (ah×ah)}(h:a.length=es.length)(b:i<es.length):(oD es a i)[i]?=ai es[i]:=by
 have t:(((es.zip a).map λq=>gj q.1 q.2).take i).length=i:=by simp;lia
 unfold oD;rw[List.getElem?_append_right (Nat.le_of_eq t),t,Oh,List.getElem?_drop];exact cK b
def KL{a:af (ah×ah)}(h:a.length=es.length)(c:i<es.length):oD es a (i+1)=(oD es a i).set i (gj es[i]<|a[i]'(by ac_rfl)):=by
 have d:i<((es.zip a).map λq=>gj q.1 q.2).length:=∅
 have t:(((es.zip a).map λq=>gj q.1 q.2).take i).length=i:=by simp;lia
 unfold oD;rw[List.take_succ_eq_append_getElem d,List.set_append_right _ _ (Nat.le_of_eq t),t,Oh];simp;rw[<-Ib c];rfl
def KJ{a:af (ah×ah)}(h:a.length=es.length):∀{i:ag},i<=es.length->(oD es a i).map (·.x)=es.map (·.x)
 |0,_=>aa|i+1,b=>by rw[KL h (show i<es.length by lia),n_,KJ h (show i<=es.length by lia)];exact Bm (by rw[cV,cK (show i<es.length by lia)];rfl)
def KK{os:af (ah×ah)}(h:os.length=es.length):oD es os es.length=(es.zip os).map λq=>gj q.1 q.2:=by simp[*,oD,OH,Oq]
def tN(n:aR)(a:af (ah×ah))(i:ag):aR:=(n.x,n.b,oD n.a a i,n.d,n.e)
section
variable{X:bA}{v z:ay}{D q k l t g p G I J M B L s:dj}{kk:ag}{x:ax}{f:bH}{n:aR}{st:oQ}{nums ans:af ah}{rows:af (af ah)}
def BZ(f:bH)(n:aR)(st:oQ)(nums ans:af ah)(rows:af (af ah))(i:ag):af bL:=[.a<|bp f<|tN n st.a i,.a<|aM nums,.a<|.d<|rows.map aM,.a<|aM ans,.a<|qA f st,.b,.b]
def li(hcN:jS X.K f.b iJ)(Z:jS X.K f.a gD)(hcS:jS X.K f.d BG)(S:st.a.length=n.a.length)(nd:(n.a.map (·.x)).Nodup)(hNd:X.N.Nodup)(hmz:X.mg "zip"=aq)
  (hN0:X.N[0]?=ai ("network":aC))(hN4:X.N[4]?=ai ("setting":aC))(hN5:X.N[5]?=ai ("edge":aC))(hN6:X.N[6]?=ai ("opening":aC))
  (hv0:eF X.a0.scope "network")(hv4:eF X.a0.scope "setting")(hv5:eF X.a0.scope "edge")(hv6:eF X.a0.scope "opening")(hl5:h_ X.a0.scope "edge")(hl6:h_ X.a0.scope "opening")
  (hf5:X.fn "edge"=ao\/X.a0.scope.names.lookup ("edge":aC)=ai .local)(hf6:X.fn "opening"=ao\/X.a0.scope.names.lookup ("opening":aC)=ai .local)
  (hb0:ie (.Name "network" l) "edges" X.a0 (bN (.Name "network" l) X.a0)=bN (.Name "network" l) X.a0)(hb4:ie (.Name "setting" g) "openings" X.a0 (bN (.Name "setting" g) X.a0)=bN (.Name "setting" g) X.a0)
  (hgz:dn X "zip")(hc:X.a9=ao)(hp:uB (bQ X.a2 X.w) X.A X.a0 X.xe)
  (hs1:dC [.Attribute (.Name "network" l) "edges" t,.Attribute (.Name "setting" g) "openings" p] X.a0=(aw,bN (.Attribute (.Name "network" l) "edges" t) X.a0)::dC [.Attribute (.Name "setting" g) "openings" p] X.a0)
  (hs2:dC [.Attribute (.Name "setting" g) "openings" p] X.a0=(aw,bN (.Attribute (.Name "setting" g) "openings" p) X.a0)::dC [] X.a0)
  (hpl:(lH B<|dC [.Attribute (.Name "setting" g) "openings" p] X.a0).any (·.1)=aw)
  (hn:(gL [.Name "edge" q,.Name "opening" k] X.a0).length=2)(hst:(gL [.Name "edge" q,.Name "opening" k] X.a0).findIdx? (·.1)=aq)
  (h1:(gL [.Name "edge" q,.Name "opening" k] X.a0).map (·.2)=kE (.Name "edge" q) X.a0::(gL [.Name "opening" k] X.a0).map (·.2))(h2:(gL [.Name "opening" k] X.a0).map (·.2)=kE (.Name "opening" k) X.a0::(gL [] X.a0).map (·.2))
  (hsw:fS (.Name "opening" J) (ai<|.Attribute (.Name "edge" G) "opening" I) L.line X.a0=cA aw)
  (hfs:∀y,pW (.Call (.Name "zip" M) [.Attribute (.Name "network" l) "edges" t,.Attribute (.Name "setting" g) "openings" p] [] B) X.a0 y=cA y):
  cH X (.For (.Tuple [.Name "edge" q,.Name "opening" k] kk s) (.Call (.Name "zip" M) [.Attribute (.Name "network" l) "edges" t,.Attribute (.Name "setting" g) "openings" p] [] B) [.Assign [.Attribute (.Name "edge" G) "opening" I] (.Name "opening" J) L] [] D)
   (ke v z x (BZ f n st nums ans rows 0)<|.a<|BZ f n st nums ans rows n.a.length):=by
 refine eK (DV hp hc (Pr hgz hmz (kZ (wF (ft hN0 hv0 ⋯ ⋯) hb0) (kZ (wF (ft hN4 hv4 ⋯ ⋯) hb4) pq hs2) hs1) hs1 hpl) (IB hc (wD (uP hNd hN5 hl5 hf5) (wD (uP hNd hN6 hl6 hf6) IA h2) h1) hn hst) (uM<|ik (ft hN5 hv5 ⋯ ⋯) (ft hN6 hv6 ⋯ ⋯) hsw) hfs) λE σ H (F,A,r,kk)=>?_;obtain⟨u,g0,hu⟩:=A.a3 0 _ aa;obtain⟨rfl,dx,v0,v1,v2,c1,c2,c3,c4⟩:=rp hu;obtain⟨u4,g4,hu4⟩:=A.a3 4 _ aa;cases hu4 using W7 with|a8 d1 dr dl=>
  rename_i s4 dxs vs4;cases dr using X2 with|a0 r0 dr=>
   cases dr using X2 with|a0 r1 dr=>
    cases dr;rename_i w0 w1;cases r1 using W2 with|a0 eb rb=>
     rename_i b O;cases c3 using W2 with|a0 ea ra=>
      rename_i a P;refine(_,g0,n.x,f.b,dx,_,.c a,aa,A.fh _ _ c1,hcN.a,hcN.b _ ⋯,aa,_,g4,s4,f.d,dxs,_,.c b,aa,A.fh _ _ d1,hcS.a,hcS.b _ ⋯,aa,a,b,P,O,aa,dX.of<|A.fh _ _ ea,dX.of<|A.fh _ _ eb,?_);refine(λi m σ H=>m=n.a.length- i/\i<=n.a.length/\∃F,bE F H F H σ (BZ f n st nums ans rows i)/\nN v z F H/\F a=ai (.a P)/\F b=ai (.a O)/\cx F P ((oD n.a st.a i).map<|cv f)/\cx F O (st.a.map cE),(n.a.length,aa,mW _,F,A,r,ea,eb,ra,rb),?_);rintro i m σ2 H2 ⟨rfl,hle,F2,A2,r2,ea2,eb2,ra2,rb2⟩;by_cases Y:i<n.a.length
      ·have hlo:i<st.a.length:=∅;have V:i<P.length:=by rw[ra2.a1,cb,TJ S hle];exact Y
       have W:i<O.length:=by rw[rb2.a1,cb];exact hlo
       refine .inr ((P,O,P[i],O[i],dX.of<|A2.fh _ _ ea2,dX.of<|A2.fh _ _ eb2,cK V,cK W),λσ' H'=>∃F,bE F H' F H' σ' (BZ f n st nums ans rows<|i+1)/\nN v z F H'/\F a=ai (.a P)/\F b=ai (.a O)/\cx F P ((oD n.a st.a<|i+1).map<|cv f)/\cx F O (st.a.map cE),λσ' H' h=>(n.a.length-(i+1),(by grind),aa,Y,h),?_);rintro y H' ⟨Tt,y1,y2,rfl,hT,rfl,hy1,hy2⟩;have q1:=hy1 P<|dX.of<|A2.fh _ _ ea2;have q2:=hy2 O<|dX.of<|A2.fh _ _ eb2;rw[cK V]at q1;rw[cK W]at q2;have q1:=kX q1;have q2:=kX q2;subst q1 q2;have U:=OK S Y;obtain⟨w1',R,rx⟩:=ra2.a4 (i:=i) (d:=cv f n.a[i]) (by rw[cV,U];rfl);obtain⟨w2',Q,ry⟩:=rb2.a4 (i:=i) (d:=cE st.a[i]) (by rw[cV,cK hlo];rfl);rw[cK V]at R;rw[cK W]at Q;have R:=kX R;have Q:=kX Q;subst R Q;have A3:=A2.c1 (o:=.b [P[i],O[i]]) hT;refine(Tt,[P[i],O[i]],aa,iS.of bO,aa,P[i],[O[i]],aa,O[i],[],aa,aa,?_);have A4:=(A3.a7 5 rx).a7 6 ry;have hlen:σ2.length=7:=A2.a5;obtain⟨ex,T,ws,k1,k2,k3⟩:=Ca rx;refine(_,by rw[mY ∅],_,by rw[hW ⋯,mY ∅],n.a[i].x,f.a,T,_,ex,A3.fh _ _ k1,Z.a,Z.b _ ⋯,by rw[u_ k2];decide,?_);rw[Bc (j:=5) Z.c aa k2];have hr:cx F2 (ws.set 5 O[i]) (xD<|gj n.a[i] st.a[i]):=k3.a9 ry 5;have hl2:gD.length=(ws.set 5 O[i]).length:=(by simp[*]);have ho:=zJ.a0 k1<|.c f.a T<|gD.zip<|ws.set 5 O[i];rw[show(gD.zip ws).length=8 from by rw[u_ k2];rfl]at ho;have nd2:((oD n.a st.a i).map (·.x)).Nodup:=by rw[KJ S hle];exact nd
       have hnn:fU (tN n st.a i) i (gj n.a[i] st.a[i])=tN n st.a (i+1):=by simp[*,fU,tN,KL]
       have hfh:bD (bu F2 n.a[i].x<|.c f.a T<|gD.zip<|ws.set 5 O[i]) (bu (bu H2 Tt<|.b [P[i],O[i]]) n.a[i].x<|.c f.a T<|gD.zip<|ws.set 5 O[i]):=λc o e=>by
        by_cases w:c=n.a[i].x;·subst w;rw[bO]at e ⊢;exact e
        ·rw[aO w]at e ⊢;exact A3.fh _ _ e
       refine(_,A4.ov (C:=zN (bp f<|tN n st.a i)<|bp f<|tN n st.a<|i+1) hfh ho (.a1 (aa,aa)<|.a0 (oC _)<|.a0 (l_ _)<|.a0 (oC _)<|.a0 (Tw _ ⋯)<|.no<|.no .a2) λd0 d' w hC hw=>?_,(r2.a0<|.of<|(cZ.a3 A2.fh).a9 hT).a0<|nN.wr A3.fh k1 aa,ho.pl _ _ aa ea2,ho.pl _ _ aa eb2,?_,cx.ov ho _ (show ma _ _ _ _ from Tx _) rb2);·obtain⟨rfl,rfl⟩:=hC;rw[<-hnn];exact T' (n:=tN n st.a i) hw k1 k2 aa hl2 hr nd2 U
       all_goals grind[KL,LH,gj]
      ·have e:i=n.a.length:=!_;subst e;exact .inl ((P,O,dX.of<|A2.fh _ _ ea2,dX.of<|A2.fh _ _ eb2,.inl (by rw[ra2.a1,cb,TJ S<|b_ _];exact b_ _)),kk σ2 F2 H2 A2 r2)
end
section
variable{K:aZ}
def EY:bW ["network","numbers","rows","answer","setting","edge","opening"] ["network","numbers","rows"] (bf<|aK 109):={}
def nt(n:aR)(s:oQ)(k:ag):aR:=match((n.a.zip s.a).map λq=>gj q.1 q.2)[k]? with|none=>n|some e=>fU (n.x,n.b,(n.a.zip s.a).map λq=>gj q.1 q.2,n.d,n.e) k<|qm e s.b
def tF(n:aR)(t:af ah):af ah×aR:=match nE n t with|.inl k=>([k],n)|.inr s=>(0::dH s.b,nt n s<|(fC n).getD 0)
def Wp(h:nE n t=.inl k):k≠0:=by unfold nE at h;(repeat' split at h)<;>cases h<;>decide
def Uz(h:nE n t=.inr s):∃r k e,fM t=ai r/\fC n=ai k/\n.a[k]?=ai e/\jP n r.a=ao/\lY n r k e=ai s:=by unfold nE at h;grind only
def Sc(J:cq K f b):
  mO P w K f c 47 "answer_throttle" b (λa=>nO a.n/\∃t,a.c=[t]/\mL t) (λa I X=>∃t,a.c=[t]/\(I,X)=tF a.n t):=by
 refine xj (k:=46) J.B EY aa (λ_ _ _ _ _ _=>Q3 λ_ _ _=>aa) λF0 H0 a hr D=>?_;obtain⟨n,h,u⟩:=a;obtain⟨E,t,i,F⟩:=D;have i:u=[t]:=i;subst i;have E:nO n:=E;have Y:=E.b.c;refine ib (BM λ_ _=>cB 3 (aY (Vo J) #[(0),(1),(2)] ((n,h,[t]),aa,E.b,(t,aa,F),aa)) EY.a) ?_;show bg _ _<|ke F0 H0 n.x [.a<|bp b n,.a<|aM h,.a<|.d<|[t].map aM,.a<|aM (match nE n t with|.inl k=>[k]|.inr s=>ky (0::dH s.b) s.a),.b,.b,.b] _;cases y:nE n t with|inl k=>have Z:=Wp y;exact g_ (ko (k:=ao) (λ_ _=>cX (iH (bt (3) aF di) aF) ()) (λ_=>g_<|mc 0 aa (λ_ _=>bb (3)) ([k],n,(t,aa,by unfold tF;rw[y]),aa,aa,aa)) ())|inr g=>
  obtain⟨r,k,e,V,U,R,x,S⟩:=Uz y;have v:=Wu x;have A:=Sb v S;have L:=zu F.b F.a V;have Z:k<n.a.length:=(eM.mp R).1;refine ib (ko (k:=aw) (λ_ _=>cX (iH (bt (d:=.a 0) (3) aF di) aF) aa) ()<|λ_=>su) ?_;refine ib (BM λ_ _=>cB (d:=qA b g) 4 (dY (aY (Vh J) #[(0),dY (aY (BR J) #[bt (2) aF di] (t,aa,F.b,F.a,aa)) (show(match fM t with|none=>az.e|some r=>bX b r)=bX b r by rw[V])] ((n,r,k,e),aa,(E.b,L,U,R,v),aa)) (show(match lY n r k e with|none=>az.e|some s=>qA b s)=qA b g by rw[S])) EY.a) ?_;refine ib (li (n:=n) (st:=g) (nums:=h) (ans:=ky (0::dH g.b) g.a) (rows:=[t]) J.T.c J.T.b J.T.l A E.a EY.a J.T.h aa aa aa aa (o_ aa) (o_ aa) (o_ aa) (o_ aa) (o_ aa) (o_ aa) (.inl aa) (.inl aa) aa aa aa aa fT aa aa aa aa aa aa aa aa<|λ_=>aa) ?_;have z:=KK (os:=g.a) (es:=n.a) A;have N:k<((n.a.zip g.a).map λq=>gj q.1 q.2).length:=∅;have C:=cK N;generalize Q:((n.a.zip g.a).map λq=>gj q.1 q.2)[k]=H at C;let l:aR:=(n.x,n.b,(n.a.zip g.a).map λq=>gj q.1 q.2,n.d,n.e);have M:tN n g.a n.a.length=l:=by unfold tN;rw[z]
  have G:(l.a.map (·.x)).Nodup:=by show(((n.a.zip g.a).map λq=>gj q.1 q.2).map (·.x)).Nodup;rw[<-z,KJ A<|b_ _];exact E.a
  have B:fC l=fC n:=by
   have hp:lZ l=lZ n:=by
    unfold lZ;have T:∀(p:af bB) (m:af (ah×ah)) (j:ag),m.length=p.length->((bj j<|(p.zip m).map λq=>gj q.1 q.2).filter λq=>aT<|(q.2.c:Int)=2).map (·.1)=((bj j p).filter λq=>aT<|(q.2.c:Int)=2).map (·.1):=by
     intro p;induction p with|nil=>intro m j _;rfl|cons a p O=>
      intro m j y
      match m,y with|o::m,y=>show(((j,gj a o)::bj (j+1) ((p.zip m).map λq=>gj q.1 q.2)).filter _).map _=(((j,a)::bj (j+1) p).filter _).map _;rw[wz,wz];have O:=O m (j+1) ∅;show(if aT ((a.c:ah)=2)=ao then _ else _:af (ag×bB)).map _=(if aT ((a.c:ah)=2)=ao then _ else _:af (ag×bB)).map _;(split<;>nofun)
    symm
   simp[*,fC]
  unfold BZ;rw[M];refine ib (BL (n:=l) (k:=k) (ed:=H) (ed':=qm H g.b) 4 J.T.b (λ_ _=>bt (bc 1 J.T.c (0)) (dY (aY (BS J) #[(0)] (l,aa,by show((n.a.zip g.a).map λq=>gj q.1 q.2).length<=14;rw[cb,kG];nofun,aa)) (show(match fC l with|none=>az.e|some k=>.a (k:ag))=.a (k:ag) by rw[B,U]))<|gQ (by rw[cV,show l.a[k]?=ai H from C];rfl)) C G (λ_ _=>cC 0 J.T.l (4)) aa aa (ρ':=[.a<|bp b<|fU l k<|qm H g.b,.a<|aM h,.a<|.d<|[t].map aM,.b,.a<|qA b g,.b,.b])<|.a1 (.inl (aa,aa))<|.a0 (oC _)<|.a0 (l_ _)<|.no<|.a0 (Tw _ ⋯)<|.no<|.no .a2) ?_;refine g_<|mc 0 aa (λ_ _=>bb<|bJ<|jl (bJ<|cQ #[aF]) (bJ<|tR J.T.j<|cC 0 J.T.l (4))<|wx aa) (0::dH g.b,fU l k<|qm H g.b,(t,aa,?_),aa,aa,aa);grind[tF,nt]
end
def o5(f:α->β){a:af α}{z:α}(h:fZ a i=ai z):fZ (a.map f) i=ai (f z):=by obtain⟨j,c,b⟩:=WE (xs:=a.map f) (ys:=a) () h;nofun
def Rd.mono(h:pA H a u)(s:bD H H'):pA H' a u:=by rcases h with h|⟨o,h⟩;exact .inl<|s _ _ h;exact .inr (o,s _ _ h)
def EM{K:aZ}(h:dX K H a xs)(s:bD H H'):dX K H' a xs:=by rcases h with h|h;exact .inl<|Rd.mono h s;exact .inr h
section
variable{X:bA}{m a:ay}{g:af bL}{e b f:bI}{c p o q r:dj}{d:az}{x:aC}{i z:ah}{j:ax}{l:af ah}
def WL(n:ag)(K:dX X.K a j (l.map aH.d))(s:g[n]?=ai (.e<|.c j))(D:aA X b (aP m a g<|.a i))(h:fZ l i=ai z)(E:X.N[n]?=ai x|>1)(y:eF X.a0.scope x|>3)(C:dA x|>2)
  (hcd:fP x|>2)(B:qe b|>4):aA X (.Subscript (.Name x p) b c) (aP m a g<|.a z):=
 eL (rY uT (ft E y C hcd) D B) λJ H Q (F,A,k)=>(_,A.a1 n _ s,F,A,λv I G u t w=>by cases w;exact(j,_,i,.d z,aa,aa,EM K t.hh,o5 aH.d h,k _ I G u t<|.a1 z))
def N6(n:ag)(D:dX X.K a j (l.map aH.d))(v:X.mg "len"=aq)(h:g[n]?=ai (.e<|.c j))(B:X.N[n]?=ai x|>1)(u:eF X.a0.scope x|>3)(y:dA x|>2)
  (hcd:fP x|>2)(w:dn X "len"|>1)(t:dC [.Name x o] X.a0=(aw,bN (.Name x o) X.a0)::dC [] X.a0|>1)(s:eG X c []|>1):
  aA X (.Call (.Name "len" p) [.Name x o] [] c) (aP m a g<|.a (l.length:ag)):=
 eL (IH IW w v Ma (kZ (ft B u y hcd) pq t) ⋯ ⋯ t s) λC H Q (F,A,k)=> (_,A.a1 n _ h,_,_,aa,.inl<|EM D A.hh,by rw[cb];exact k _ F H (bD.a2 _) A<|.a1 _)
def WK(n:ag)(D:dX X.K a j (l.map aH.d))(h:g[n]?=ai (.e<|.c j)){s t:aJ bI}(B:qf X s (yS m a g ol))(C:qf X t (yS m a g oh))(G:X.N[n]?=ai x|>1)(y:eF X.a0.scope x|>3)(E:dA x|>2)
  (hcd:fP x|>2):aA X (.Subscript (.Name x p) (.Slice s t aq o) c) (lV m a g<|jO (l.map az.a) ol oh):=
 eL (Pt OX (ft G y E hcd) B C) λL H Q (F,A,k)=>(_,A.a1 n _ h,F,A,λI O w J=>(I,J,λP M v u=> (_,_,aa,EM D u.hh,xg (w.a0 v) u ((Fb l).b4 ol oh) k)))
end
structure qE(P:cn)(w:bS)(K:aZ)(mg:aC->aJ aB)(x:aC)(vs:af (ah×aB)):Prop where
 b:∃(a:ax) (o:cU),mg x=ai (.ref a)/\K.lookup a=ai o/\(a==qS)=aw/\o.IsDictOf (tf P w) vs
def Lc(I:aV X pins σ H s)(h:X.K.lookup a=ai o)(d:o.IsDictOf (tf X.a2 X.w) vs):s.heap.DictOf (tf X.a2 X.w) a vs:=Heap.dictOf_iff.mpr (o,I.b0 a o h,d)
def UL(r:cy (.d k) u):(tf P w).is k u=ao:=by obtain⟨t,rfl⟩:=r;exact intKind_is _ _ _ _
section
variable{X:bA}{l n:ay}{B:af bL}{e f:bI}{c p C d j:dj}{x:aC}{k z:ah}{t:af (ah×aB)}
def Wd(kd:qE X.a2 X.w X.K X.mg x t)(he:aA X e (aP l n B<|.a k))(K:aA X f (aP l n B<|.a z))(w:∀r,cy (.d z) r->cy (.d y) ((eR t k).getD r))
  (hg:dn X x|>1)(L:dA x|>2)(m:Je X (.Name x p) "get" d e f j:=by exact(rfl,rfl,rfl,rfl)):aA X (.Call (.Attribute (.Name x p) "get" d) [e,f] [] j) (aP l n B<|.a y):=by
 obtain⟨a,o,h1,O,h3,N⟩:=kd.b;intro h s u H Q I (F,A,q);refine NA m.b m.d m.a NY Du YY<|yC I hg h1 ?_ L;have R:=Lc I O N;refine(R.typeIs,λb q=>?_,?_);cases q;obtain⟨ob,_,_,g1,g2,_⟩:=R;exact(ob,g1,g2.2.1);rw[m.c];refine Dx aa<|HM<|Aq<|bZ (he h s u H (λv i=>v=.d k/\∃g,bD F g/\bE l n g i u B) I (F,A,λv g i G M J=>(by cases J;rfl,g,G,M))) λiv W (y2,H2,I2,Z,ey,V,E,A2)=>Aq<|bZ (K h W u H2 (λv i=>v=.d z/\∃g,bD V g/\bE l n g i u B) I2 (V,A2,λv g i G M J=>(by cases J;rfl,g,G,M))) λP s3 (y3,U,T,Y,ez,F3,D,A3)=>HL ?_;subst ey ez;have S:=Lc T O N;refine HB Du S.typeIs NZ (N' _ _ _) (Yw (tf X.a2 X.w) a (UL Z) h3 P) (_,S.mapOf,?_);exact(.d y,U,T.a4 _,w P Y,q _ F3 U (E.a0 D) A3<|.a1 y)
def PC(kd:qE X.a2 X.w X.K X.mg x t)(J:aA X e te)(E:Qy e)(G:dn X x|>1)(m:dA x|>2):
  aA X (.Subscript (.Name x p) e c) (λi H Q=>te i H λv R=>∃k g,v=.d k/\eR t k=ai (.ref g)/\Q (.c g) R):=by
 obtain⟨a,o,N,M,U,L⟩:=kd.b;intro b s i H Q I h;refine aa4 PySem.F.slot_dict_getitem.lookup E<|yC I G N ?_ m;refine bZ (J b s i H _ I h) λT S (y,P,u,A,k,g,O,D,q)=>?_;subst O;have r:=Lc u M L;exact(r.typeIs,wpAny_getItem_of (UL A) r.mapOf D (.c g,P,u.a4 _,aa,q))
def AC{w i:ag}(V:gR X.a2 X.w X.K X.mg X.a8 kb w g fd ps sp)(L:dy w X.A)(M:mr X.K (.ref g)=ao)(P:la X.K fd ps [])(A:eW X (e::es) ta)
  (hN:X.N[i]?=ai x)(J:eF X.a0.scope x)(O:dA x|>2)(y:fP x|>2)
  (he:eI X e es|>1)(o:eG X c es|>1):
  aA X (.Call (.Name x p) (e::es) [] c) (λb H Q=>b[i]?=ai (ai<|.c g)/\OT sp [] QH ta b H Q):=by
 intro a s b H Q I (m,h);refine yf<|bZ (ft hN J O y a s b H (λv U=>v=.c g/\U=H) I (_,m,aa,aa)) λu F (v,T,E,G,S,R)=>?_;subst S R;obtain rfl:u=iB g:=G;refine NT (h₀:=X.a8) E.ok.a2.a M (bZ (A c a F b T _ E h) λY Z (t,K,D,r,q)=>(D.b0,?_)) he o;exact O' V L P .nil (mZ (X:=X)) D r q
end
def aeG(ad:bH)(h:ah->iL->Prop)(R:ah->iL->af ah->aR->Prop):k_:=λg H Q _=>∃F c a,bD F H/\cx F g [bp ad a.n,.a c,aM a.b,.d<|a.c.map aM]/\h c a/\∀v b d e f,R c a b d->d.x=a.n.x->nN F H e f->bY e v (aM b)->bY e (.c a.n.x) (bp ad d)->Q v f
structure My(P:cn)(w:bS)(K:aZ)(mg:aC->aJ aB)(base:bT)(k:ag)(x:aC)(ad:bH)(Dm:ah->iL->Prop)(R:ah->iL->af ah->aR->Prop):Prop where
 a:∃(f:ax) (fd:jY) (ps:af aC),gR P w K mg base kb k f fd ps (aeG ad Dm R)/\mg x=ai (.ref f)/\mr K (.ref f)=ao/\la K fd ps []
def cx.b8(h:cx F vs [a,b,c,d]):∃x y z u,vs=[x,y,z,u]/\bY F x a/\bY F y b/\bY F z c/\bY F u d:=by
 cases h using X2 with|a0 m l=>
  cases l using X2 with|a0 k j=>
   cases j using X2 with|a0 i g=>
    cases g using X2 with|a0 f e=>cases e;exact(_,_,_,_,aa,m,k,i,f)
section
variable{K:aZ}
def Sm:bW ["network","call","numbers","rows","answerer"] ["network","call","numbers","rows"] (bf<|aK 119):={}
def Z9(Df:cu K mg "answer_call" (aK 119))(C:qE P w K mg "ANSWERERS" n)(g0:ah->aC)(e:∀c a,Dm c a->mO P w K mg base 47 (g0 c) b (Dm c) (R c)/\eR n c=mg (g0 c)):My P w K mg base 48 "answer_call" b Dm R:=by obtain⟨u,k,F,j⟩:=Df.a;refine(u,k,["network","call","numbers","rows"],F.ok Sm (λn H Q E h=>?_)<|λl A d s H o Q E f h=>?_,j,F.kp,F.a1 (λ_ _ _ _ _ _=>Q4 λ_ _ _ _=>aa));obtain⟨G,c,a,_,r,_,_⟩:=h;rw[r.a1];rfl;obtain⟨G,c,a,M,r,t,q⟩:=h;obtain⟨⟨g,fd,ps,W,D,J,L⟩,p⟩:=e c a t;rw[D]at p;obtain⟨x0,x1,Z,Y,rfl,r0,z,y,x⟩:=r.b8;cases z;have f:dy 47 (ml P w K mg base ["network","call","numbers","rows","answerer"] "answer_call" (aK 119) u l A d s H E).A:=f;refine(_,eN (pk (i:=4) Sm.a aa (o_ aa) (PC C (ft (i:=1) aa<|o_ aa)<|λ_ _=>aa) aa<|.inl aa)<|uM<|yA<|AC (i:=4) W f J L (kZ (ft (i:=0) aa<|o_ aa)<|kZ (ft (i:=2) aa<|o_ aa)<|kZ (ft (i:=3) aa<|o_ aa) pq) aa<|o_ aa,?_);refine(_,aa,c,g,aa,p,aa,_,aa,_,aa,_,aa,G,a,M,.a0 r0<|.a0 y<|.a0 x .a2,t,λv m B X V U T S O N=>q v m B X V U T S O N)
def eY(ns:af ah)(p:ag):ag->ag
 |0=>p|j+1=>eY ns p j+1+(ns.getD (eY ns p j) 0).toNat
def sk(ns:af ah)(q:ag):af ah:=(ns.drop<|q+1).take (ns.getD q 0).toNat
def gS(ns:af ah)(p j:ag):af (af ah):=(bP j).map λi=>sk ns<|eY ns p i
structure zH(ns:af ah)(p h:ag):Prop where
 a:∀i,i<h->eY ns p i<ns.length/\0<=ns.getD (eY ns p i) 0/\eY ns p (i+1)<=ns.length
def XL(K:aZ):k_:=λf H Q _=>∃(F:ay) (c:ax) (a:af ah) (p h:ag),bD F H/\f=[.c c,.d (p:ag),.d (h:ag)]/\dX K H c (a.map aH.d)/\h<=1000/\zH a p h/\∀v e d,cZ F H e d->bY e v (.d<|(gS a p h).map aM)->Q v d
structure Mw(P:cn)(w:bS)(K:aZ)(mg:aC->aJ aB)(base:bT)(k:ag)(x:aC):Prop where
 a:∃(f:ax) (fd:jY) (ps:af aC),gR P w K mg base kb k f fd ps (XL K)/\mg x=ai (.ref f)/\mr K (.ref f)=ao/\la K fd ps []
def Br:bW ["calls","place","how_many","rows","number","start"] ["calls","place","how_many"] (bf<|aK 123):={}
def R6(h:bD F H)(c:ax)(p q:ah):bE F H F H [ai<|.c c,ai<|.d p,ai<|.d q,aq,aq,aq] [.e<|.c c,.a<|.a p,.a<|.a q,.b,.b,.b]:=by
 refine(cZ.a3 h,aa,λi d e=>?_,λi f e=>?_,λi v e=>?_,λi j f g a e=>?_)<;>rcases i with _|_|_|_|_|_|i<;>cases e;exact(_,aa,.a1 _);exact(_,aa,.a1 _);rfl
def K9(J:cq K mg b):Mw P w K mg base 40 "rows_from":=by
 obtain⟨m,l,F,i⟩:=J.a0.a;refine(m,l,["calls","place","how_many"],F.ok (k:=39) Br (λS H Q E h=>?_)<|λe A c s H o Q E t h=>?_,i,F.kp,F.a1 (λ_ _ _ _ _ _=>Q3 λ_ _ _=>aa));obtain⟨G,g,a,p,h,_,rfl,_⟩:=h;rfl;obtain⟨G,g,a,p,h,C,rfl,sq,W,x,q⟩:=h;have t:dy 39 (ml P w K mg base ["calls","place","how_many","rows","number","start"] "rows_from" (aK 123) m e A c s H E).A:=t;have f:bg (ml P w K mg base ["calls","place","how_many","rows","number","start"] "rows_from" (aK 123) m e A c s H E) (iQ<|aK 123) (cT G H [.e<|.c g,.a<|.a (p:ag),.a<|.a (h:ag),.b,.b,.b]<|.b<|.d<|(gS a p h).map aM):=by
  refine fB (aL (ia 3 (cQ aD) Br.a)<|aL (jh (bP h) (λk=>az.a (k:ag)) (λD=>[.e<|.c g,.a<|.a (eY a p D.length:ag),.a<|.a (h:ag),.c<|(gS a p D.length).map aM,.b,.b]) (λD z=>[.e<|.c g,.a<|.a (eY a p D.length:ag),.a<|.a (h:ag),.c<|(gS a p D.length).map aM,.a<|.a (z:ag),.b]) (zo J.T.o (2) !_) (λD z d r=>(e_ 4 Br.a)) (λD z d r=>?_) aa fT)<|iI 3 aa<|aX<|bb (3)) ?_;have B:D.length<h:=by have:=fk uI r;(simp at*;nofun)
  obtain⟨n,V,U⟩:=x.a D.length B;have X:((eY a p D.length:ag):ah)+1+a.getD (eY a p D.length) 0=((eY a p (D.length+1):ag):ah):=by (simp only[eY];(simp at*;grind?))
  have M:jO (a.map az.a) (ai (((eY a p D.length+1:ag)):ah)) (ai ((eY a p (D.length+1):ag):ah))=(sk a<|eY a p D.length).map az.a:=by rw[Wq _ ∅ !_];simp[sk,yq,AB,eY]
  have j:fZ a ((eY a p D.length:ag):ah)=ai (a.getD (eY a p D.length) 0):=gQ (by rw[cK n];nofun);refine fj (aL (cB 5 (dY (kx (1) aF) (d2:=.a ((eY a p D.length+1:ag):ah)) aa) Br.a)<|aL (cB 1 (dY (kx (5)<|WL 0 sq aa (1) j) (d2:=.a ((eY a p (D.length+1):ag):ah)) (_)) Br.a)<|aL (kf 3 aa (bJ<|pJ (WK 0 sq aa (qt (5))<|qt (1)) M) ?_) bV) ?_;(simp[cb,gS,uH];lia);have L:(gS a p D.length).map aM++[az.d<|(sk a<|eY a p D.length).map az.a]=(gS a p (D++[z]).length).map aM:=by simp[gS,hU,uG]
  have I:(D++[z]).length=D.length+1:=();show jQ [_,_,_,.c<|(gS a p D.length).map aM++[az.d<|(sk a<|eY a p D.length).map az.a],_,_] _;rw[L,I];exact .a0<|.a0<|.a0<|.a0<|.no<|.no .a2;nofun
 exact(_,f,G,R6 C g _ _,λv O N s R u=>q v O N R u)
end
abbrev TC:az->Prop:=lj (λ_=>eo) (λ_=>eo) eo
abbrev TB:af az->Prop:=ma (λ_=>eo) (λ_=>eo) eo
inductive pM:af bL->af bL->Prop
 |a4:pM [] []
 |no {s:bL} {a b:af bL}:pM a b->pM (s::a) (.b::b)
 |a3 {d:az} {a b:af bL}:TC d->pM a b->pM (.a d::a) (.a d::b)
 |a5 {ds:af az} {a b:af bL}:TB ds->pM a b->pM (.c ds::a) (.c ds::b)
 |a2 {v:aH} {a b:af bL}:pM a b->pM (.e v::a) (.e v::b)
def pM.a6(h:pM a b):a.length=b.length:=by
 induction h with|a4=>rfl|no _ c=>nofun|a3 _ _ c=>nofun|a5 _ _ c=>nofun|a2 _ c=>nofun
def pM.a1(h:pM a b):∀{i:ag} {s:bL},b[i]?=ai s->s=.b\/(a[i]?=ai s/\match s with|.a d=>TC d|.c g=>TB g|_=>eA):=by
 induction h with
 |a4=>intro i s e;cases e
 |no _ c=>intro i s e;cases i;cases e;exact .inl aa;exact c e
 |a3 f _ c=>intro i s e;cases i;cases e;exact .inr (aa,f);exact c e
 |a5 f _ c=>intro i s e;cases i;cases e;exact .inr (aa,f);exact c e
 |a2 _ c=>intro i s e;cases i;cases e;exact .inr (aa,dU);exact c e
def nN.ov(r:nN F H F' H'):zJ (λ_=>eo) (λ_=>eo) eo F F':=(r.ff,λ_ _ h=>h.elim,λ_ _ _ _ h=>h.elim,λh=>h.elim)
def bE.c6(A:bE F0 H0 F H σ ρ)(r:nN F H F' H')(p:∀a o,H0 a=ai o->sG o=ao)(m:∀a o,F0 a=ai o->sG o=ao)(s:pM ρ ρ'):bE F0 H0 F' H' σ ρ':=by refine((λa o e=>r.ff a o (m a o e)<|A.ff a o e,λa o e=>r.hh a o (p a o e)<|A.hh a o e,r.fh,λa h n=>r.nf a (EO A.hh h)<|A.nf a h n),by rw[A.a5,s.a6],λi d e=>?_,λi f e=>?_,λi v e=>?_,λi j f x a C B z y=>?_);rcases s.a1 e with q|⟨b,c⟩;nofun;obtain⟨v,k,g⟩:=A.a3 i d b;exact(v,k,bY.ov r.ov d c g);rcases s.a1 e with q|⟨b,c⟩;nofun;obtain⟨a,l,k,g,w,u,t⟩:=A.a0 i f b;exact(a,l,k,r.hh _ _ aa g,r.nf _ () w,u,cx.ov r.ov f c t);rcases s.a1 e with q|⟨b,_⟩;nofun;exact A.a1 i v b;rcases s.a1 C with q|⟨b,_⟩;nofun;rcases s.a1 B with q|⟨c,_⟩;nofun;exact A.a8 i j f x a b c z y
inductive MA where
 |a (O:af bL->Prop)|b (Q:az->Prop)
def kK(g f:ay)(i:af bL)(o:MA):hX:=λE h H=>∃F,bE g f F H h i/\match o with|.a O=>∀b a e c,O b->bE g f e c a b->E.a a c|.b Q=>∀v d e c,Q d->cZ g f e c->bY e v d->E.b v c
section
variable{X:bA}{q l:ay}{z B I:af bL}{e c S P:bI}{U:af bI}{C p Y M Z L:dj}{d:az}{ds gs:af az}{x y f:aC}{T:du}{rest G J:af du}{o:MA}{W:bH}{i j:ah}
def sE(h1:cH X T (cT q l z<|.a I))(b:bg X rest (kK q l I o)):bg X (T::rest) (kK q l z o):=fg (eN h1 b) λE m H (F,A,k)=>(F,A,λa g r n h=>(g,h,k))
def x5(h:O z):bg X [] (kK q l z<|.a O):=fg DU λE a H (F,A,k)=>k z a F H h A
def D5(h:bg X G (kK q l B o))(w:jQ z B):bg X G (kK q l z o):=fg h λE a H (F,A,k)=>(F,A.b5 w,k)
def q5(n:ag)(a:z[n]?=ai (.c ds))(h:bg X G (kK q l (z.set n<|.a<|.d ds) o)):bg X G (kK q l z o):=fg h λE m H (F,A,k)=>by obtain⟨b,s,g⟩:=A.b6 a;exact(b,g,k)
def B5(h:cH X T (cT q l z<|.b d))(s:Q d):bg X (T::rest) (kK q l z<|.b Q):=fg (eN h lM) λE m H (F,A,k)=>(F,A,λv b a n g r=>k v d b a s g r)
def p5(h1:cH X T (kK q l z<|.a O))(g:∀B,O B->bg X rest (kK q l B o)):bg X (T::rest) (kK q l z o):=fg (eN h1<|oS (ι:=af bL) (Pp:=O) g) λE n H (F,A,k)=>(F,A,λB a h r b m=>(B,b,h,m,k))
def E5{s:Type}(g:s->af bL)(h:s->Prop)(r:s->ag)(a:s->da)(w:∀b,h b->cP X c (eg q l (g b)<|a b))(hb:∀b,h b->a b=ao->bg X J (kK q l (g b) (.a λB=>∃n,h n/\r n<r b/\B=g n)))(D:s)(h0:h D)(V:uB (bQ X.a2 X.w) X.A X.a0 X.xe):
  cH X (.While c J [] C) (kK q l (g D) (.a λB=>∃b,h b/\a b=aw/\B=g b)):=by
 refine eK (Pn V (WY (Pp:=h) w)<|oS (Pp:=λb=>h b/\a b=ao) λb t=>hb b t.1 t.2) λE N H (F,A,k)=>?_;refine(λm N H=>∃b K,m=r b/\h b/\bE q l K H N (g b),(_,D,F,aa,h0,A),?_);rintro m u H1 ⟨b,F1,rfl,hv,A1⟩;refine(b,hv,F1,A1,λQ H2 s2 R=>?_);cases O:a b with|false=>exact m_ (k _ u Q H2 (b,hv,O,aa) R)|true=>refine om (λv H'=>∃n K,h n/\r n<r b/\bE q l K H' v (g n),?_,b,(hv,O),Q,R,?_);all_goals left
def gz(n:ag)(a:z[n]?=ai (.a<|.a i))(r:aA X e (aP q l z<|.a j))(s:X.N.Nodup)(m:X.N[n]?=ai x|>1)(h:h_ X.a0.scope x|>3)
  (hf:iE X x|>3):cH X (.AugAssign (.Name x p) .Add e C) (cT q l z<|.a<|z.set n<|.a<|.a<|i+j):=
 eK (abo s m h r uU hf) λE O H (F,A,k)=>by obtain⟨v,u,t⟩:=A.a3 n _ a;cases t;refine(_,u,F,A,λv D w b K g=>?_);cases g;exact(i,j,aa,aa,k _ D w b<|K.a7 n<|.a1 _)
def B8(n:ag)(hf:Mw X.a2 X.w X.K X.mg X.a8 kr f)(K:dX X.K l ar (ns.map aH.d))(a:z[n]?=ai (.e<|.c ar))(h2:aA X S (aP q l z<|.a (pl:ag)))(h3:aA X P (aP q l z<|.a (h:ag)))(hh:h<=1000)(hv:zH ns pl h)
  (hr:dy kr X.A|>3)(hg:dn X f|>1)(u:dA f|>2)
  (he:dC [.Name x Y,S,P] X.a0=(aw,bN (.Name x Y) X.a0)::dC [S,P] X.a0|>1)(t:eI X S [P]|>1)(s:eI X P []|>1)(m:(lH C<|dC [S,P] X.a0).any (·.1)=aw|>1)
  (hN:X.N[n]?=ai x|>1)(b:eF X.a0.scope x|>3)(hd:dA x|>2)(D:fP x|>2):
  aA X (.Call (.Name f p) [.Name x Y,S,P] [] C) (aP q l z<|.d<|(gS ns pl h).map aM):=by
 obtain⟨g,fd,ps,Fn,hm,hk,hb⟩:=hf.a;refine eL (uR Fn hr hg hm hk hb .nil (mZ (X:=X)) (kZ (ft hN b hd D) (au h2 (au h3 aD s) t) he) u he m) λσ H Q (F,A,k)=>?_;refine(_,A.a1 n _ a,F,A,λvs F1 H1 O E V=>?_);obtain⟨v,w,rfl,N,R⟩:=V.b0;cases N;cases R;exact(F1,ar,ns,pl,h,E.fh,by rw[kH],EM K E.hh,hh,hv,λv F' H' rl r=>k v F' H' (O.a0 rl.ff) (E.up rl) r)
def C5(m:ag)(hf:My X.a2 X.w X.K X.mg X.a8 kr f W Dm R)(ha:eW X (e::U) (lW q l z [bp W a.n,.a cl,aM a.b,.d<|a.c.map aM]))(hD:Dm cl a)(p0:∀b o,l b=ai o->sG o=ao)(p1:∀b o,q b=ai o->sG o=ao)(s:z[1]?=ai (.a<|bp W a.n))(O:pM z I)(n:X.N.Nodup)
  (h2:∀h r,R cl a h r->r.x=a.n.x->bg X rest (kK q l ((I.set 1<|.a<|bp W r).set m<|.a<|aM h) o))
  (hr:dy kr X.A|>3)(hg:dn X f|>1)(V:dA f|>2)
  (he:eI X e U|>1)(Q:eG X C U|>1)
  (hi:X.N[m]?=ai y|>1)(hx:h_ X.a0.scope y|>3)(hs:fS (.Call (.Name f p) (e::U) [] C) (ai<|.Name y M) L.line X.a0=cA aw|>1)
  (hfn:iE X y|>3):
  bg X (.Assign [.Name y M] (.Call (.Name f p) (e::U) [] C) L::rest) (kK q l z o):=by
 obtain⟨g,fd,ps,Fn,hm,hk,hb⟩:=hf.a;refine fg (eN (pk n hi hx (uR Fn hr hg hm hk hb .nil (mZ (X:=X)) ha V he Q) hs hfn)<|oS (ι:=af ah×aR) (Pp:=λt=>R cl a t.1 t.2/\t.2.x=a.n.x) λt K=>h2 t.1 t.2 K.1 K.2) λE σ H (F,A,k)=>?_;refine(F,A,λvs F1 H1 s1 w r1=>?_);refine(F1,cl,a,w.fh,by rw[kH];exact r1,hD,λv h r F2 H2 hR D rl r2 r3=>?_);obtain⟨u,g1,g2⟩:=w.a3 1 _ s;obtain⟨rfl,_⟩:=rp g2;have A2:=w.c6 rl p0 p1 O;have N:=A2.a7 1 r3;rw[Bm g1]at N;exact((h,r),(hR,D),F2,N.a7 m r2,k)
end
section
variable{X:bA}{t u:ay}{l:af bL}{e:bI}{f p i m c:dj}{d:az}{j z:af az}{x:aC}{rest:af du}{o:MA}{B:bH}
def v5(n:ag)(h:Cr X.a2 X.w X.K X.mg X.a8 k B.b)(V:X.N.Nodup)(h2:∀y,bg X rest<|kK t u (l.set n<|.a<|bp B (y,[],[],[],[])) o)
  (hr:dy (k+1) X.A|>3)(hg:dn X "Network"|>1)
  (hi:X.N[n]?=ai x|>1)(hx:h_ X.a0.scope x|>3)(hs:fS (.Call (.Name "Network" p) [] [] i) (ai<|.Name x m) f.line X.a0=cA aw|>1)
  (hf:iE X x|>3):
  bg X (.Assign [.Name x m] (.Call (.Name "Network" p) [] [] i) f::rest) (kK t u l o):=by
 obtain⟨g,fd,ps,Fn,hm,M,hb⟩:=h.a;refine fg (eN (pk V hi hx (IE M Fn hr hg hm hb .nil<|mZ (X:=X)) hs hf)<|oS (ι:=ax) (Pp:=λ_=>eA) λq _=>h2 q) λE σ H (F,A,kk)=>?_;intro y W w nd ne;refine(y,W,aa,bO,λI J L H' P a Q R S T D hp hn he U=>(aa,y,dU,?_));have yn:I≠y:=λq=>by subst q;rw[bO]at P;cases P
 have ye:J≠y:=λq=>by subst q;rw[bO]at a;cases a
 have yb:L≠y:=λq=>by subst q;rw[bO]at Q;cases Q
 rw[aO yn]at P;rw[aO ye]at a;rw[aO yb]at Q;have s:H I=aq:=by grind[aO]
 have v:H J=aq:=by grind[aO]
 have C:H L=aq:=by grind[aO]
 have r:∀b,b≠y->b≠W->b≠I->b≠J->b≠L->H' b=H b:=λb G N K Z Y=>by rw[D b G K Z Y,aO G,aO N]
 have sH:bD H H':=λb o e=>by
  have G:b≠y:=λq=>by subst q;rw[w]at e;cases e
  have N:b≠W:=λq=>by subst q;rw[nd]at e;cases e
  have K:b≠I:=λq=>by subst q;rw[s]at e;cases e
  have Z:b≠J:=λq=>by subst q;rw[v]at e;cases e
  have Y:b≠L:=λq=>by subst q;rw[C]at e;cases e
  rw[r b G N K Z Y];exact e
 have rl:cZ F H F H':=(bD.a2 _,sH,A.fh.a0 sH,λ_ _ n=>n);obtain⟨r1,s1⟩:=rl.a6 hn (A.fh.a1 s) s;obtain⟨r2,s2⟩:=r1.a6 he (by rw[aO<|dZ R];exact A.fh.a1 v) v;obtain⟨r3,s3⟩:=r2.a6 U (by rw[aO<|dZ T,aO<|dZ S];exact A.fh.a1 C) C;obtain⟨r4,O⟩:=r3.a6 hp (by rw[aO<|dZ yb,aO<|dZ ye,aO<|dZ yn];exact A.fh.a1 w) w;have A2:=A.up r4;refine(_,A2.a7 n ?_,kk);exact .a4 bO (.a0 (.a0 (vs:=[]) (O _ _<|s3 _ _<|s2 _ _ bO) .a2)<|.a0 (.a0 (vs:=[]) (O _ _<|s3 _ _ bO) .a2)<|.a0 (.a5 (ks:=[]) (vs:=[]) (O _ _ bO) .a2 aa) .a2) aa
section
variable(n:ag)(b:l[n]?=ai (.c j))
include b
def bz(he:aA X e (aP t u l d))(S:j.length<16000000)(U:X.N[n]?=ai x|>1)
  (hv:eF X.a0.scope x|>3)(T:dA x|>2)(y:fP x|>2)
  (hbase:ie (.Name x p) "append" X.a0 (bN (.Name x p) X.a0)=bN (.Name x p) X.a0|>1)
  (hfew:wM X i e|>1)
  (hline:(c.endLine==i.line)=ao|>1)(D:eI X e []|>1)(g:eG X i []|>1)
  (hsw:fS (.Call (.Attribute (.Name x p) "append" c) [e] [] i) aq f.line X.a0=cA aw|>1):
  cH X (.Expr (.Call (.Attribute (.Name x p) "append" c) [e] [] i) f) (cT t u l<|.a<|l.set n<|.c<|j++[d]):=by
 have R:rg X "list.append" AJ:=λq s r H x J v L Q=>D_ q s r H x J v L Q;refine eK (uN (uS uC Dt HJ R (ft U hv T y) (au he aD D) hbase hfew hline D g) hsw) λE r H (F,A,k)=>?_;obtain⟨a,K,C,V,h3,h4,N⟩:=A.a0 n j b;refine(_,C,.inl (aa,K,dX.of V),F,A,λZ Y H1 M I P=>?_);obtain⟨v,rfl,O⟩:=kN P;obtain⟨a',w,h,W,g3,g4,G⟩:=I.a0 n j b;rw[C]at h;injection h with h;injection h with h;injection h with h;subst h;exact(a,w,v,aa,aa,W,gX (by rw[G.a1];exact S) ⋯,k r Y _ M<|I.b1 b C<|G.a5<|.a0 O .a2)
def lz(he:aA X e (aP t u l<|.d z))(U:j.length+z.length<=16000000)(W:X.N[n]?=ai x|>1)
  (hv:eF X.a0.scope x|>3)(V:dA x|>2)(D:fP x|>2)
  (hbase:ie (.Name x p) "extend" X.a0 (bN (.Name x p) X.a0)=bN (.Name x p) X.a0|>1)
  (hfew:wM X i e|>1)
  (hline:(c.endLine==i.line)=ao|>1)(J:eI X e []|>1)(g:eG X i []|>1)
  (hsw:fS (.Call (.Attribute (.Name x p) "extend" c) [e] [] i) aq f.line X.a0=cA aw|>1):
  cH X (.Expr (.Call (.Attribute (.Name x p) "extend" c) [e] [] i) f) (cT t u l<|.a<|l.set n<|.c<|j++z):=by
 have T:rg X "list.extend" Iq:=λw s y H x L v O Q=>PH w s y H x L v O Q;refine eK (uN (uS uC Ds NX T (ft W hv V D) (au he aD J) hbase hfew hline J g) hsw) λE y H (F,A,k)=>?_;obtain⟨a,M,G,Y,h3,h4,h5⟩:=A.a0 n j b;refine(_,G,.inl (aa,M,dX.of Y),F,A,λws N H1 P I S=>?_);obtain⟨v,rfl,R⟩:=kN S;obtain⟨a',C,h,Z,g3,g4,K⟩:=I.a0 n j b;rw[G]at h;injection h with h;injection h with h;injection h with h;subst h;cases R using W2 with|a0 q r=>exact(a,_,C,_,aa,aa,Z,I.fh _ _ q,fx (by rw[K.a1,r.a1];exact U) ⋯,k y N _ P<|I.b1 b G<|K.a5 r)
end
end
structure zL(S:Type) where
 a:ah->ag×ag
 c:S->ah->af ah->af (af ah)->Prop
 b:S->ah->af ah->af (af ah)->S×af ah
inductive sF{S:Type}(M:zL S)(ns:af ah):ag->S->af ah->ag->Prop
 |a0 {s:S}:sF M ns ns.length s [] 0
 |a1 {p:ag} {s:S} {c:ah} {out:af ah} {k:ag}:p<ns.length->ns.getD p 0=c->p+1+(M.a c).1<=ns.length->(M.a c).2<=1000->zH ns (p+1+(M.a c).1) (M.a c).2->
  M.c s c ((ns.drop (p+1)).take (M.a c).1) (gS ns (p+1+(M.a c).1) (M.a c).2)->
  sF M ns (eY ns (p+1+(M.a c).1) (M.a c).2) (M.b s c ((ns.drop (p+1)).take (M.a c).1) (gS ns (p+1+(M.a c).1) (M.a c).2)).1 out k->
  sF M ns p s ((((M.b s c ((ns.drop (p+1)).take (M.a c).1) (gS ns (p+1+(M.a c).1) (M.a c).2)).2.length:ag):ah)::(M.b s c ((ns.drop (p+1)).take (M.a c).1) (gS ns (p+1+(M.a c).1) (M.a c).2)).2++out) (k+1)
def nw(hv:zH ns p h)(a:i<h):(sk ns<|eY ns p i).length=(ns.getD (eY ns p i) 0).toNat:=by obtain⟨d,c,b⟩:=hv.a i a;(simp_all[eY,sk,AD,Z_];omega)
def SG(hv:zH a p h):∀j,j<=h->((p:ag):ah)+((gS a p j).map λr=>1+((r.length:Nat):ah)).sum=((eY a p j:ag):ah)
 |0,_=>by show(p:ah)+0=(p:ah);rfl|j+1,d=>by have c:=SG hv j !_;have b:=nw hv (show j<h by symm);unfold gS at*;rw[uG,eV,eV,DE];simp only[eE,oa,qW,HV,Jl];rw[b];show _=((eY a p j+1+(a.getD (eY a p j) 0).toNat:ag):ah);lia
section
variable{K:aZ}
def pH:bW ["calls","network","answered","place","call","start","numbers","rows","answer","row"] ["calls"] (bf<|aK 124):={}
def Bj(K:aZ){S:Type}(M:zL S)(j:S):k_:=λi H Q _=>∃(ar:ax) (d a:af ah) (k:ag),i=[.c ar]/\(∀b o,H b=ai o->sG o=ao)/\dX K H ar (d.map aH.d)/\d.length<=100000/\k<=100/\sF M d 0 j a k/\∀v h e,bD h e->bY h v (aM a)->Q v e
def A7(c:bH)(b:ax)(n:aR)(a:af ah)(p:ag):af bL:=[.e<|.c b,.a<|bp c n,.c<|a.map az.a,.a<|.a (p:ag),.b,.b,.b,.b,.b,.b]
def O6(ar:ax):bE (λ_=>aq) H (λ_=>aq) H [ai<|.c ar,aq,aq,aq,aq,aq,aq,aq,aq,aq] [.e<|.c ar,.b,.b,.b,.b,.b,.b,.b,.b,.b]:=by
 have b:∀{i:ag} {s:bL},([.e<|.c ar,.b,.b,.b,.b,.b,.b,.b,.b,.b]:af bL)[i]?=ai s->(i=0/\s=.e (.c ar))\/s=.b:=λ{i s} e=>by rcases i with _|i;cases e;exact .inl (aa,aa);exact .inr (List.eq_of_mem_replicate (eC (show(cg 9 bL.b)[i]?=ai s from e)))
 refine(cZ.a3 (λ_ _ e=>by cases e),aa,λi d e=>?_,λi h e=>?_,λi v e=>?_,λi j h k a e=>?_)<;>rcases b e with⟨rfl,h⟩|h<;>cases h;rfl
end
structure Xc(S:Type) where
 n:aR
 s:S
 a:af ah
 p:ag
 f:af ah
 k:ag
structure M4{S:Type}(M:zL S)(Iv:aR->S->Prop)(ns tot:af ah)(b:Xc S):Prop where
 e:sF M ns b.p b.s b.f b.k
 a:Iv b.n b.s
 c:b.a++b.f=tot
 d:b.a.length+60001*b.k<=6000100
section
variable{K:aZ}
def j2{M:zL S}{s:S}(h:sF M n p s o k)(v:¬p<n.length):o=[]:=by induction h with|a0=>rfl|a1 h=>exact bG h v
def m9(M:zL S)(s0:S)(Iv:aR->S->Prop)(T:WO K g i)(F:wI K "answers" "answers" (aK 124) f0 fd0)(mN:Cr P w K g f 40 i.b)(hc:My P w K g f 48 "answer_call" i Dm R)(g4:Mw P w K g f 40 "rows_from")(kn:qE P w K g "HOW_MANY_NUMBERS" vn)(kr:qE P w K g "HOW_MANY_ROWS" vr)
  (hn:∀c r,cy (.d 0) r->cy (.d ((M.a c).1:ag)) ((eR vn c).getD r))(g3:∀c r,cy (.d 0) r->cy (.d ((M.a c).2:ag)) ((eR vr c).getD r))(h0:∀y,Iv (y,[],[],[],[]) s0)
  (hst:∀n s c C B,Iv n s->M.c s c C B->Dm c (n,C,B)/\∀G W,R c (n,C,B) G W->W.x=n.x->G=(M.b s c C B).2/\Iv W (M.b s c C B).1/\G.length<=60000):
  gR P w K g f kb 49 f0 fd0 ["calls"] (Bj K M s0):=by
 refine F.ok (k:=48) pH (λvs H Q E h=>?_)<|λg0 A O s H us Q E hr h=>?_;·obtain⟨ar,u,X,k,rfl,_⟩:=h;rfl
 ·obtain⟨ar,u,L,k,rfl,g5,sq,g8,hk,Y,q⟩:=h;have hr:dy 48 (ml P w K g f ["calls","network","answered","place","call","start","numbers","rows","answer","row"] "answers" (aK 124) f0 g0 A O s H E).A:=hr;have p1:∀b o,(λ_=>aq:ay) b=ai o->sG o=ao:=λ_ _ e=>by cases e
  have g1:bg (ml P w K g f ["calls","network","answered","place","call","start","numbers","rows","answer","row"] "answers" (aK 124) f0 g0 A O s H E) (iQ<|aK 124) (kK (λ_=>aq) H [.e<|.c ar,.b,.b,.b,.b,.b,.b,.b,.b,.b]<|.b λd=>d=aM L):=by
   refine v5 1 mN pH.a λy=>sE (ia 2 (cQ aD) pH.a)<|sE (cB 3 aF pH.a) ?_;refine p5 (E5 (λb:Xc S=>A7 i ar b.n b.a b.p) (M4 M Iv u L) Xc.k (λb=>aT<|((b.p:ag):ah)<((u.length:ag):ah)) (λb hb=>sg (3)<|N6 0 sq T.e aa) (λb hb ht=>?_) ((y,[],[],[],[]),s0,[],0,L,k) (Y,h0 y,aa,by show 0+60001*k<=6000100;lia) fT) ?_
   ·obtain⟨bn,bs,l,t,m,bk⟩:=b;obtain⟨I,Z,J,U⟩:=hb;have I:sF M u t bs m bk:=I;have J:l++m=L:=J;have U:l.length+60001*bk<=6000100:=U;have V:t<u.length:=∅;cases I with|a0=>exact bG V (tq _)| @a1 p s c X k h1 h2 h3 h4 h5 h6 h7=>
    obtain⟨hD,hR⟩:=hst bn bs c _ _ Z h6;have g6:fZ u ((t:ag):ah)=ai c:=gQ (by rw[cK h1,<-h2];(simp[*]));have D:jO (u.map az.a) (ai (((t+1:ag)):ah)) (ai ((t+1+(M.a c).1:ag):ah))=((u.drop<|t+1).take (M.a c).1).map az.a:=by rw[Wq _ ∅ ¬_,<-yq,<-AB];nofun
    refine sE (cB 4 (WL 0 sq aa (3) g6) pH.a)<|sE (cB 5 (dY (kx (3) aF) (d2:=.a ((t+1:ag):ah)) aa) pH.a)<|sE (cB 3 (dY (kx (5)<|Wd kn (4) aF<|hn c) (d2:=.a ((t+1+(M.a c).1:ag):ah)) (by congr 1)) pH.a)<|sE (cB 6 (bJ<|pJ (WK 0 sq aa (qt (5))<|qt (3)) D) pH.a)<|sE (cB 7 (B8 0 g4 sq aa (3) (Wd kr (4) aF<|g3 c) h4 h5) pH.a) ?_;refine sE (gz (j:=((gS u (t+1+(M.a c).1) (M.a c).2).map λr=>1+((r.length:Nat):ah)).sum) 3 aa ?_ pH.a) ?_
    ·refine(LJ (ns:=(gS u (t+1+(M.a c).1) (M.a c).2).map λr=>1+((r.length:Nat):ah)) aa T.x<|dY (bJ<|km (gS u (t+1+(M.a c).1) (M.a c).2) aM (λ_=>ao) (λr=>.a<|1+((r.length:ag):ah)) (λr=>[.e<|.c ar,.a<|bp i bn,.b,.a<|.a ((t+1+(M.a c).1:ag):ah),.a<|.a c,.a<|.a ((t+1:ag):ah),.a<|aM<|(u.drop<|t+1).take (M.a c).1,.a<|.d<|(gS u (t+1+(M.a c).1) (M.a c).2).map aM,.b,.a<|aM r]) (own:=[("row",9)]) (gm (7)) (gP (N:=["calls","network","answered","place","call","start","numbers","rows","answer","row"]) (sc:=bf<|aK 124) ⋯) ⋯ (λ_ _ _ _ _ _ _ z hz=>(e_ 9 pH.a)) (λ_ _ _ _ _ _ _ z hz=>ji) (λ_ _ _ _ _ _ _ z hz _=>kx aF<|dY (dO T.e (9)) ()) ?_ aa pH.a) ?_);·(simp[gS,cb,uH];lia)
     ·rw[OF.mpr<|λ_ _=>aa,eS];rfl
    ·have x:=SG h5 _<|b_ _;show bg _ _<|kK _ _ [_,_,_,.a<|.a<|((t+1+(M.a c).1:ag):ah)+_,_,_,_,_,_,_] _;rw[x];refine C5 8 (a:=(bn,_,_)) hc #[(1),(4),(6),(7)] hD g5 p1 aa (.a2<|.no<|.a5 (oC l)<|.a3 dU<|.no<|.no<|.no<|.no<|.no<|.no .a4) pH.a λG W g7 g2=>?_;obtain⟨e1,e2,e3⟩:=hR G W g7 g2;have U:l.length+60001*(k+1)<=6000100:=U;refine sE (bz 2 aa (dY (dO T.e (8)) (d2:=.a ((G.length:ag):ah)) ()) ())<|sE (lz 2 aa (8) (by simp;lia))<|D5 (x5 ?_)<|.a0<|.a0<|.a0<|.a0<|.no<|.no<|.no<|.no<|.no<|.no .a2;refine((W,(M.b bs c ((u.drop<|t+1).take (M.a c).1)<|gS u (t+1+(M.a c).1) (M.a c).2).1,l++[((G.length:ag):ah)]++G,eY u (t+1+(M.a c).1) (M.a c).2,X,k),(h7,e2,?_,?_),HS k,?_);·nofun
     ·left
     ·show [_,_,_,_,_,_,_,_,_,_]=[_,_,_,_,_,_,_,_,_,_];simp
   ·rintro ρ' ⟨b,⟨I,Z,J,U⟩,ht,rfl⟩;obtain⟨bn,bs,l,t,m,bk⟩:=b;have I:sF M u t bs m bk:=I;have J:l++m=L:=J;have V:¬(t<u.length):=λh=>by have:=mQ ht;exact this<|Int.ofNat_lt.mpr h
    refine q5 2 aa<|B5 (bb (2)) ?_;obtain rfl:=j2 I V;rw[<-J];show az.d _=aM (l++[]);rw[kH]
  exact(_,g1,λ_=>aq,O6 ar,λv d F' H' hd rl r=>by subst hd;exact q v F' H' rl.fh r)
end
def GF(n:aR):Prop:=(∀e∈n.a,aI 20 e.h.2)\/((fC n).isSome=ao/\∀e∈n.a,aI 1290 e.h.2)
structure eT(n:aR)(s:ja):Prop where
 nm:nO n
 a1:s.net=aW n
 a8:∀e∈n.a,iK e.g/\iK e.h/\iK e.o/\iK e.l
 a2:zO n s.boilers
 a6:∀t∈n.b,t.length<=8/\∀c∈t,0<=c
 hp:∀e∈n.a,0<=e.h.1/\(e.c≠2->e.h=(0,1))
 hi:GF n
section
variable{n:aR}{s:ja}(h:eT n s)
include h
def eT.ok:bw n:=h.nm.b
def eT.b2:s.net.edges.length=n.a.length:=by rw[h.a1];simp[aW]
def eT.a4(i:ah):qO s i=dB n i:=by unfold qO fN dB;rw[h.b2];lia
def eT.b7(i:ah):zY s i=oE n i:=by unfold zY fN oE;rw[h.a1,ly];lia
def eT.a7{i:ag}:wc s (i:ah)=(n.a[i]?).map bU:=by unfold wc;rw[aE ¬_,h.a1];simp[aW]
end
def KG(x y:ah):(fN x 0 (eQ:ag)=aw\/fN y 1 (eQ:ag)=aw\/sX x y=aw)↔ip x y=aw:=by unfold fN sX ip oy eQ;left
def Ev(x y:ah):(fN x 0 (eQ:ag)=aw\/fN y 1 (eQ:ag)=aw)↔oy x y=aw:=by unfold fN oy eQ;left
def Rz(x:ah):fN x (-((eQ:ag):ah)) (eQ:ag)=lT x:=by unfold fN lT eQ;nofun
def Cx{l:af (ah×ah)}(h:∀q∈l,iK q):qM (l.map λq=>aQ q.1 q.2)=l.flatMap dH:=by
 unfold qM;induction l with|nil=>rfl|cons q l a=>show gn (aQ q.1 q.2)++(l.map λq=>aQ q.1 q.2).flatMap gn=dH q++l.flatMap dH;rw[a λp b=>h p<|cO _ b,show gn (aQ q.1 q.2)=dH q from fk dH<|h q (_)]
def xL:∀(k:ag) (l:af ah) (c:af (ah×ah)),l.length<=k->kO l=ai c->∀q∈c,q.1∈l/\q.2∈l:=by
 intro k;induction k with
 |zero=>
  intro l c d h q f
  match l,d,h with|[],_,h=>cases h;cases f
 |succ k e=>
  intro l c d h q f
  match l,d,h with
  |[],_,h=>cases h;cases f
  |[_],_,h=>cases h
  |a::b::r,d,h=>(simp_all[kO,p'];grind?)
def JC(ht:mL t)(b:kO t=ai ps)(a:gG ps=r)(c:r.a.length=n.a.length):Cp n r ps:=(a.symm,by rw[<-c,<-a];unfold gG;simp,λq f=>by obtain⟨e,d⟩:=xL t.length t ps (b_ _) b q f;exact(Ts t.length t ps (b_ _) b q f,ht.a _ e,ht.a _ d))
section
variable{n:aR}{s:ja}(h:eT n s)
include h
def PO:gU s .flows=(s,0::iG (dg n).a (dg n).b):=by show (Prod.mk s (0::qM (fi s.net)))=_;rw[h.a1,(lq h.ok).is.a4]
def wS:gU s .pressures=(s,0::iG (ro n<|c_ n).a (ro n<|c_ n).b):=by show (Prod.mk s (0::qM (pT s.net)))=_;rw[h.a1,(SL h.ok).a4]
def TO:gU s .groups=(s,0::dm (iV n)):=by show (Prod.mk s (0::(gp s.net).map λ(v:ag)=>(v:ah)))=_;rw[h.a1,KY h.ok];rfl
def wT:gU s .work=(s,0::(dH (bh<|nj n<|dg n)++dH (bh<|(mh n<|dg n).getD aU))):=by show (Prod.mk s (0::(gn (rP s.net<|fi s.net)++gn ((Hg s.net<|fi s.net).getD aU))))=_;have a:=lq h.ok;rw[h.a1,Jw h.ok a.is a.a2,Lk h.ok a];rfl
def IN(a b:af ah):gU s (.check a b)=(s,LY (n,[],[a,b])):=by
 show(match sY a,sY b with
  |some f,ai p=>iO s [if Nr s.net f p=ao then 1 else 0]|_,_=>eu s 1)=(s,match fM a,fM b with|some r,ai p=>[0,if sD n r p=ao then 1 else 0]|_,_=>[-1])
 cases l:fM a with|none=>rw[BX l];rfl|some r=>
  obtain⟨k,d,g⟩:=zv l;cases c:fM b with|none=>rw[BX c,d];rfl|some p=>obtain⟨j,i,e⟩:=zv c;rw[d,i,h.a1];dsimp only;rw[S6 h.ok g e];rfl
def ED{t:af ah}{r:bF}{e:af dq}(a:mL t)(c:fM t=ai r)(d:jR r e)(b:jV s.net e=ao):ic n r e:=by refine(zu a.b a.a c,d,?_);unfold jV at b;rw[h.b2]at b;lia
def HO{t:af ah}(b:mL t):gU s (.energy t)=(s,Gf (n,[],[t])):=by
 show(match sY t with
  |none=>eu s 1|some f=>if jV s.net f=aw then eu s 4 else match zZ s.net f with|none=>eu s 6|some x=>iO s<|gn x++gn ((zZ s.net<|fi s.net).getD aU))=(s,match fM t with|none=>[-1]|some r=>if jP n r.a=aw then [-4]else match kR n r with|none=>[-6]|some x=>0::(dH x++dH ((kR n<|dg n).getD (0,1))))
 cases g:fM t with|none=>rw[BX g];rfl|some r=>
  obtain⟨fs,e,a⟩:=zv g;rw[e];dsimp only;rw[Cm h.ok a,<-h.a1];cases d:jV s.net fs with|false=>rfl|true=>
   have c:=ED h b g a d;rw[aE ⋯,aE ⋯,VZ h.ok c,VZ h.ok<|lq h.ok,<-h.a1];cases zZ s.net fs with|none=>rfl|some x=>cases zZ s.net (fi s.net)<;>rfl
def GM(i j:ah):gU s (.across i j)=(s,Gs (n,[i,j],[])):=by show(if qO s i=aw\/qO s j=aw then eu s 1 else iO s<|gn<|gW ((fi<|vZ s.net i.toNat<|cG 1).getD j.toNat aU)<|(fi s.net).getD j.toNat aU)=(s,if dB n i=aw\/dB n j=aw then [-1]else 0::dH (bh<|aQ ((hG n<|f_ n i.toNat).a.getD j.toNat 0) (hG n<|f_ n i.toNat).b));rw[h.a4,h.a4];by_cases a:dB n i=aw\/dB n j=aw;rw[aG a,aG a];rfl;rw[aE a,aE a];have e:dB n i=ao:=∅;have d:dB n j=ao:=∅;obtain⟨k,rfl,c⟩:=oN e;obtain⟨m,rfl,b⟩:=oN d;rw[show((k:ag):ah).toNat=k from aa,show((m:ag):ah).toNat=m from aa,T6 h.ok c b,h.a1];rfl
def dT:gU s .warmth=(s,RA (n,[],[])):=by
 show(match xW s.net (fi s.net) s.boilers with
  |none=>eu s 6|some a=>iO s<|qM a)=(s,match jf n (dg n)with
  |none=>[-6]|some r=>0::iG r.a r.b)
 have b:=lq h.ok;rw[h.a1];cases f:jf n (dg n)with
 |none=>rw[Rx h.ok b h.a2 f];rfl|some r=>obtain⟨a,d,c,e⟩:=EA h.ok b h.a2 f;rw[d];dsimp only;rw[c.a4];rfl
def AP:gU s .heat=(s,UU (n,[],[])):=by
 show(match xW s.net (fi s.net) s.boilers with
  |none=>eu s 6|some a=>iO s<|qM ((s.net.edges.zip<|fi s.net).map λ(q:_×_)=>wb a q.1 q.2)++qM ((bP<|cD s.net).map λv=>if(mT s.boilers v).isSome=ao then wd s.net (fi s.net) a v else aU))=(s,match jf n (dg n)with
  |none=>[-6]|some r=>0::iG (mF n (dg n) r).a (mF n (dg n) r).b)
 have b:=lq h.ok;rw[h.a1];cases f:jf n (dg n)with
 |none=>rw[Rx h.ok b h.a2 f];rfl|some r=>obtain⟨a,e,d,c⟩:=EA h.ok b h.a2 f;rw[e];dsimp only;rw[(UT h.ok b h.a2 d c).a4,ly];unfold tU qM;rw[OD];rfl
def EP{t:af ah}(u:mL t):gU s (.least t)=(s,UA (n,[],[t])):=by
 show(match sY t with
  |none=>eu s 1|some f=>if(ur s.net).isNone=ao then eu s 3 else if jV s.net f=aw then eu s 4 else match xX s.net f with|none=>eu s 6|some x=>iO s<|gn x.1++qM x.2)=(s,match nE n t with|.inl k=>[k]|.inr s=>ky (0::dH s.b) s.a)
 unfold nE;cases o:fM t with|none=>rw[BX o];rfl|some r=>
  obtain⟨fs,y,p⟩:=zv o;obtain⟨z,d,c⟩:=p'.mp (show(kO t).map gG=ai r from o);rw[y];dsimp only;rw[Cm h.ok p,<-h.a1,show ur s.net=fC n by rw[h.a1,Fl]];cases g:fC n with|none=>rfl|some k=>
   rw[aE ¬_];dsimp only;cases v:jV s.net fs with|false=>rfl|true=>
    have i:=ED h u o p v;obtain⟨e,j,_⟩:=zk g;rw[aE ⋯,aE ⋯,j];dsimp only;have b:jV (aW n) fs=ao:=by rw[<-h.a1];exact v
    have l:xX s.net fs=(lY n r k e).map λs=>(aQ s.b.1 s.b.2,s.a.map λq=>aQ q.1 q.2):=by rw[h.a1];exact RC h.ok i b g j
    rw[l];cases w:lY n r k e with|none=>rfl|some a=>have m:=JL h.ok i b g j (JC u d c i.tl) w;show (Prod.mk s (0::(gn (aQ a.b.1 a.b.2)++qM (a.a.map λq=>aQ q.1 q.2))))=_;rw[Cx λq A=>(m.o q A).2.2.2.2,show gn (aQ a.b.1 a.b.2)=dH a.b from fk dH m.b];rfl
def ZN(i:ah):gU s (.edge i)=(s,Gi (n,[i],[])):=by
 show(if qO s i=aw then eu s 1 else match wc s i with
  |none=>eu s 1|some e=>iO s<|[(e.kind:ah),(e.a:ah),(e.b:ah)]++(gn e.g++(gn e.h++(gn e.opening++(gn e.gives++gn e.room)))))=(s,if dB n i=aw then [-1]else match n.a[i.toNat]? with|none=>[-1]|some e=>LI e)
 rw[h.a4];cases t:dB n i with|false=>rfl|true=>
  rw[aE ⋯,aE ⋯];obtain⟨k,rfl,v⟩:=oN t;rw[h.a7,show((k:ag):ah).toNat=k from aa];cases u:n.a[k]? with|none=>rfl|some e=>obtain⟨r,q,p,m⟩:=h.a8 e<|eC u;have j:gn (aQ e.g.1 e.g.2)=dH e.g:=fk dH r;have f:gn (aQ e.h.1 e.h.2)=dH e.h:=fk dH q;have d:gn (aQ e.o.1 e.o.2)=dH e.o:=fk dH p;have c:gn (aQ e.l.1 e.l.2)=dH e.l:=fk dH m;show (Prod.mk s (0::([(e.c:ah),(e.b:ah),(e.a:ah)]++(gn (aQ e.g.1 e.g.2)++(gn (aQ e.h.1 e.h.2)++(gn (aQ e.o.1 e.o.2)++(gn (aQ e.l.1 e.l.2)++gn (cG e.k))))))))=_;rw[j,f,d,c];rfl
def LS(t:af ah):gU s (.read<|iT t)=(s,Bx<|iT t):=by
 show(match jx (iT t)with
  |.error e=>iO s [0,(e:ah)]|.ok n=>iO s [1,(cD n:ah),(n.edges.length:ah)])=(s,match jx (iT t)with
  |.error e=>[0,0,(e:ag)]|.ok s=>[0,1,(s.names.length:ag),(s.edges.length:ag)])
 cases jx (iT t)<;>rfl
def TP(i x y:ah):gU s (.more i x y)=(s,Fo (n,[i,x,y],[])):=by
 show(if qO s i=aw\/fN x 0 (eQ:ag)=aw\/fN y 1 (eQ:ag)=aw\/sX x y=aw then eu s 1 else match wc s i,ur s.net with
  |some e,ai k=>if e.kind≠1 then eu s 3 else iO s<|gn ((fi s.net).getD k aU)++gn ((fi<|uo s.net i.toNat<|aQ x y).getD k aU)
  |_,_=>eu s 3)=(s,if dB n i=aw\/ip x y=aw then [-1]else
 match n.a[i.toNat]?,fC n with
 |some e,ai k=>if e.c≠1 then [-3]else 0::(dH (bh<|(fi<|aW n).getD k aU)++dH (bh<|(fi<|uo (aW n) i.toNat<|aQ x y).getD k aU))
 |_,_=>[-3])
 rw[h.a4];have c:(dB n i=aw\/fN x 0 (eQ:ag)=aw\/fN y 1 (eQ:ag)=aw\/sX x y=aw)↔(dB n i=aw\/ip x y=aw):=ME Eo<|KG x y;by_cases b:dB n i=aw\/ip x y=aw;rw[aG<|c.mpr b,aG b];rfl;rw[aE λq=>b<|c.mp q,aE b];have d:dB n i=ao:=();obtain⟨k,rfl,f⟩:=oN d;rw[h.a7,show((k:ag):ah).toNat=k from aa,show ur s.net=fC n by rw[h.a1,Fl],h.a1];cases g:n.a[k]? with
 |none=>cases fC n<;>rfl
 |some e=>
  cases fC n with|none=>rfl|some m=>show(if e.c≠1 then eu s 3 else _)=(s,if e.c≠1 then _ else _);by_cases a:e.c≠1;rw[aG a,aG a];rfl;rw[aE a,aE a];rfl
end
def aeM(x:dq):CY x=qp (bh x):=by unfold CY qp;show _=uv x.num.toNat++(if((x.den:ag):ah)=1 then []else 47::uv ((x.den:ag):ah).toNat);left
def RY(h:iK q):CY (aQ q.1 q.2)=qp q:=by rw[aeM,show bh (aQ q.1 q.2)=q from h]
def Hp(h:k<3):(iW.getD k ⟨#[]⟩).cps.toList=XU k:=by
 match k,h with|0,_=>decide+kernel|1,_=>decide+kernel|2,_=>decide+kernel
def Rl(a b:af ag):dm (a++b)=dm a++dm b:=eV ..
def Rk(a:ag)(b:af ag):dm (a::b)=(a:ah)::dm b:=aa
section
variable{n:aR}{s:ja}(h:eT n s)
include h
def eT.b1(k:ag):dm ((aW n).names.getD k [])=n.b.getD k []:=by
 show dm ((n.b.map (·.map A_)).getD k [])=_;rw[gO,cV,gO];cases e:n.b[k]? with|none=>rfl|some t=>exact Rj (h.a6 t<|eC e).2
def eT.pr:Cq n:=(λx b=>(h.a6 x b).1,h.ok.c,λe a=>by have E:=h.ok.a e a;exact(E.n,E.b,E.a,(by have:=E.f;lia,E.d,E.i.1.a0 ⋯,E.i.2.a0 ⋯),((h.hp e a).1,E.j,E.k.1,E.k.2)))
def eT.b9{e:bB}(b:e∈n.a):dm (CZ (aW n) (bU e)++[10])=mE n e:=by obtain⟨d,c,_,_⟩:=h.a8 e b;have E:=h.ok.a e b;unfold mE lR;rw[Hp E.n];show dm ((XU e.c++(32::((aW n).names.getD e.b []++(32::((aW n).names.getD e.a []++(32::(CY (aQ e.g.1 e.g.2)++(if e.c=2 then 32::CY (aQ e.h.1 e.h.2)else []))))))))++[10])=_;rw[RY d,RY c];by_cases a:e.c=2;rw[aG a,aG a];simp only[Rl,Rk,h.b1];simp[dm];rw[aE a,aE a];simp only[Rl,Rk,h.b1];rfl
def FS:gU s .print=(s,0::EG n):=by
 show (Prod.mk s (0::(Vbbcao.showNet s.net).map λ(c:ag)=>(c:ah)))=_;rw[h.a1];have a:∀l:af bB,(∀e∈l,e∈n.a)->((l.map bU).flatMap λe=>CZ (aW n) e++[10]).map (λ(c:ag)=>(c:ah))=l.flatMap (mE n):=by
  intro l;induction l with|nil=>intro _;rfl|cons e l d=>intro b;show((CZ (aW n) (bU e)++[10])++(l.map bU).flatMap λe=>CZ (aW n) e++[10]).map (λ(c:ag)=>(c:ah))=mE n e++l.flatMap (mE n);rw[eV,d λx f=>b x<|cO _ f,<-h.b9<|b e (_)];rfl
 have:=a n.a λ_ g=>g;show (Prod.mk s (0::((n.a.map bU).flatMap λe=>CZ (aW n) e++[10]).map λ(c:ag)=>(c:ah)))=_;rw[this];rfl
end
def Td:∀(l c:af bB) (k:ag),l.map (·.c)=c.map (·.c)->((bj k l).filter λq=>aT<|(q.2.c:Int)=2).map (·.1)=((bj k c).filter λq=>aT<|(q.2.c:Int)=2).map (·.1)
 |[],[],_,_=>aa|[],_::_,_,h=>by cases h
 |_::_,[],_,h=>by cases h
 |a::l,b::c,k,h=>by injection h with e d;show(((k,a)::bj (k+1) l).filter _).map _=(((k,b)::bj (k+1) c).filter _).map _;rw[wz,wz];have f:=Td l c (k+1) d;simp only[e];by_cases g:aT ((b.c:ah)=2)=ao;simp[*];nofun
def TK(h:n.a.map (·.c)=n'.a.map (·.c)):fC n=fC n':=by grind[fC,lZ,Td]
def Tf:∀(l:af (ah×ah)) (b:ah) (m:ag),(∀q∈l,aI 20 q.2)->aI m b->aI (m+20*l.length) (l.foldl (λb q=>b*q.2) b)
 |[],b,m,_,a=>a|q::l,b,m,h,a=>by have:=Tf l (b*q.2) (m+20) (λx c=>h x<|cO _ c)<|a.a1<|h q (_);exact this.a0 (by left)
def Kv:∀(l:af (ah×ah)) (b:ah),(∀q∈l,q.2=1)->l.foldl (λb q=>b*q.2) b=b
 |[],b,_=>aa|q::l,b,h=>by show l.foldl (λb q=>b*q.2) (b*q.2)=b;rw[h q (_),j1,Kv l b λx a=>h x<|cO _ a]
def US(hl:n.a.length<=14)(m:∀e∈n.a,e.c≠2->e.h=(0,1))(c:GF n):aI 1300 ((n.a.map (·.h)).foldl (λb q=>b*q.2) 1):=by
 rcases c with c|⟨o,l⟩;have:=Tf (n.a.map (·.h)) 1 1 (λq t=>by obtain⟨e,d,rfl⟩:=cJ.mp t;exact c e d)<|aI.a2;rw[cb]at this;exact this.a0 !_;obtain⟨k,g⟩:=Zx.mp o;obtain⟨e,d,r⟩:=zk g;have p:=(eM.mp d).1;have s:n.a[k]=e:=(eM.mp d).2;have j:n.a=n.a.take k++e::n.a.drop (k+1):=by (subst_vars;nofun)
 have h:∀i x,n.a[i]?=ai x->i≠k->x.h.2=1:=λi x a f=>by rw[m x (eC a) λq=>f<|BD g (q:=(i,x)) (xl a) q]
 rw[j,eV,rV,Kv _ 1 λq t=>?_];rw[eE];show aI 1300<|((n.a.drop<|k+1).map (·.h)).foldl (λb q=>b*q.2)<|1*e.h.2;rw[Kv _ _ λq t=>?_,QK];exact(l e<|eC d).a0 ⋯;obtain⟨x,a,rfl⟩:=cJ.mp t;obtain⟨i,c,rfl⟩:=iC a;rw[List.getElem_drop];exact h (k+1+i) _ (cK _) !_;obtain⟨x,a,rfl⟩:=cJ.mp t;obtain⟨i,c,rfl⟩:=iC a;rw[AD]at c;rw[List.getElem_take];exact h i _ (cK _) !_
structure zM(N:ag)(e:bB):Prop where
 a:gT N e
 b:iK e.g/\iK e.h/\iK e.o/\iK e.l
 c:0<=e.h.1/\(e.c≠2->e.h=(0,1))
def eT.a5(h:eT n s)(a:e∈n.a):zM n.b.length e:=(h.ok.a e a,h.a8 e a,h.hp e a)
def eT.up(h:eT n s)(a:n'.b=n.b)(f:n'.a.map (·.x)=n.a.map (·.x))(c:n'.d=n.d)(d:n'.e=n.e)(b:∀e∈n'.a,zM n.b.length e)(g:GF n')(i:s'.net=aW n')(j:s'.boilers=s.boilers):eT n' s':=by
 have k:n'.a.length=n.a.length:=by have:=fk uI f;simpa using this
 have O:=h.ok;refine(((by rw[a];exact O.d,by rw[k];exact O.c,λe q=>by rw[a];exact(b e q).a,by rw[c,d];exact O.l,by rw[c];exact O.i,by rw[c,a];exact O.g,by rw[d];exact O.f,US (by rw[k];exact O.c) (λe q=>(b e q).c.2) g),by rw[f];exact h.nm.a),i,λe q=>(b e q).b,⟨λv q=>?_⟩,by rw[a];exact h.a6,λe q=>(b e q).c,g);rw[j,h.a2.a v ∅];simp[*,gw]
def Tk{l:af α}{a:α}{f:α->α}(h:l[i]?=ai a):l.modify i f=l.set i (f a):=by obtain⟨k,rfl⟩:=eM.mp h;refine yt λj=>?_;rw[List.getElem?_modify,List.getElem?_set];split;rename_i c;subst c;simp[k];simp
def Up{l:af α}{a b:α}(g:α->β)(h:l[i]?=ai a)(e:g b=g a):(l.set i b).map g=l.map g:=by refine yt λj=>?_;left
def KN(he:n.a[i]?=ai e)(a:f (bU e)=bU e'):({aW n with edges:=(aW n).edges.modify i f}:fY)=aW (fU n i e'):=by show((_,(n.a.map bU).modify i f):fY)=(_,(n.a.set i e').map bU);have:(n.a.map bU)[i]?=ai (bU e):=∅;rw[Tk this,a,n_];rfl
def KR{l:af α}{a x:α}(h:x∈l.set i a):x∈l\/x=a:=Az h
def eT.a9{n:aR}{s c:ja}(h:eT n s){i:ag}{e b:bB}(d:n.a[i]?=ai e)(k:b.x=e.x)(t:zM n.b.length b)(m:b.c=e.c)(j:aI 20 b.h.2\/b.h=e.h)(l:c.net=aW (fU n i b))(o:c.boilers=s.boilers):eT (fU n i b) c:=by
 have f:=eC d;refine h.up aa (Up (·.x) d k) aa aa (λx q=>?_) ?_ l o
 ·rcases KR q with q|rfl;·exact h.a5 q
  ·symm
 ·rcases h.hi with q|⟨g,p⟩;·refine .inl λx a=>?_;rcases KR a with r|rfl;all_goals grind
  ·refine .inr (by rw[TK (n':=n)<|Up (·.c) d m];exact g,λx a=>?_);rcases KR a with r|rfl;·symm
   ·rcases j with z|z;·exact z.a0 ⋯
    ·nofun
section
variable{n:aR}{s:ja}(h:eT n s)
include h
def CR(i x y:ah):(gU s<|.opens i x y).2=(sr n i x y).1/\eT (sr n i x y).2 (gU s<|.opens i x y).1:=by
 show((if qO s i=aw\/fN x 0 (eQ:ag)=aw\/fN y 1 (eQ:ag)=aw\/sX x y=aw then eu s 1 else match wc s i with
  |some e=>if e.kind=1 then iO {s with net:=uo s.net i.toNat<|aQ x y} []else eu s 3
  |none=>eu s 1):ja×af ah).2=_/\eT _ (if qO s i=aw\/fN x 0 (eQ:ag)=aw\/fN y 1 (eQ:ag)=aw\/sX x y=aw then eu s 1 else match wc s i with
  |some e=>if e.kind=1 then iO {s with net:=uo s.net i.toNat<|aQ x y} []else eu s 3
  |none=>eu s 1).1
 unfold sr;rw[h.a4];have d:(dB n i=aw\/fN x 0 (eQ:ag)=aw\/fN y 1 (eQ:ag)=aw\/sX x y=aw)↔(dB n i=aw\/ip x y=aw):=ME Eo<|KG x y;by_cases a:dB n i=aw\/ip x y=aw;rw[aG<|d.mpr a,aG a];exact(aa,h);rw[aE λq=>a<|d.mp q,aE a];have u:dB n i=ao:=();have t:ip x y=ao:=∅;obtain⟨k,rfl,w⟩:=oN u;rw[h.a7,show((k:ag):ah).toNat=k from aa];cases c:n.a[k]? with|none=>exact(aa,h)|some e=>have E:=h.a5<|eC c;obtain⟨r,p,o,m,v⟩:=BB t;obtain⟨l,j,g,f⟩:=Fc r p o m;show((if e.c=1 then _ else _:ja×af ah).2=(if e.c=1 then _ else _:af ah×aR).1)/\eT (if e.c=1 then _ else _:af ah×aR).2 (if e.c=1 then _ else _:ja×af ah).1;by_cases b:e.c=1;rw[aG b,aG b];refine(aa,h.a9 c aa (?_,(E.b.1,E.b.2.1,BN x y,E.b.2.2.2),E.c) aa (.inr aa) ?_ aa);exact(E.a.n,E.a.b,E.a.a,E.a.c,E.a.f,E.a.d,E.a.i,E.a.j,E.a.k,l,j,(g.a0 ⋯,f.a0 ⋯),E.a.v,E.a.r,E.a.u,E.a.t,E.a.s);show uo s.net k (aQ x y)=_;rw[h.a1];exact KN c (by show((_,_,_,_,_,aQ x y,_,_):dM)=(_,_,_,_,_,aQ (bh<|aQ x y).1 (bh<|aQ x y).2,_,_);rw[zc];rfl);rw[aE b,aE b];exact(aa,h)
def wP(i x y:ah):(gU s<|.head i x y).2=(sx n i x y).1/\eT (sx n i x y).2 (gU s<|.head i x y).1:=by
 show((if qO s i=aw\/fN x 0 (eQ:ag)=aw\/fN y 1 (eQ:ag)=aw then eu s 1 else match wc s i with
  |some e=>if e.kind=2 then iO {s with net:={s.net with edges:=s.net.edges.modify i.toNat λe=>{e with h:=aQ x y}}} []else eu s 3
  |none=>eu s 1):ja×af ah).2=_/\eT _ (if qO s i=aw\/fN x 0 (eQ:ag)=aw\/fN y 1 (eQ:ag)=aw then eu s 1 else match wc s i with
  |some e=>if e.kind=2 then iO {s with net:={s.net with edges:=s.net.edges.modify i.toNat λe=>{e with h:=aQ x y}}} []else eu s 3
  |none=>eu s 1).1
 unfold sx;rw[h.a4];have f:(dB n i=aw\/fN x 0 (eQ:ag)=aw\/fN y 1 (eQ:ag)=aw)↔(dB n i=aw\/oy x y=aw):=ME Eo<|Ev x y;by_cases b:dB n i=aw\/oy x y=aw;rw[aG<|f.mpr b,aG b];exact(aa,h);rw[aE λq=>b<|f.mp q,aE b];have u:dB n i=ao:=();have t:oy x y=ao:=∅;obtain⟨k,rfl,v⟩:=oN u;rw[h.a7,show((k:ag):ah).toNat=k from aa];cases c:n.a[k]? with|none=>exact(aa,h)|some e=>have E:=h.a5<|eC c;obtain⟨r,p,o,m⟩:=SX t;obtain⟨l,j,g,d⟩:=Fc r p o m;show((if e.c=2 then _ else _:ja×af ah).2=(if e.c=2 then _ else _:af ah×aR).1)/\eT (if e.c=2 then _ else _:af ah×aR).2 (if e.c=2 then _ else _:ja×af ah).1;by_cases a:e.c=2;rw[aG a,aG a];refine(aa,h.a9 c aa (?_,(E.b.1,BN x y,E.b.2.2.1,E.b.2.2.2),l,λq=>bG a q) aa (.inl d) ?_ aa);exact(E.a.n,E.a.b,E.a.a,E.a.c,E.a.f,E.a.d,E.a.i,j,(g.a0 ⋯,d.a0 ⋯),E.a.q,E.a.m,E.a.p,E.a.v,E.a.r,E.a.u,E.a.t,E.a.s);show({s.net with edges:=s.net.edges.modify k λe=>{e with h:=aQ x y}}:fY)=_;rw[h.a1];exact KN c (by show((_,_,_,_,aQ x y,_,_,_):dM)=(_,_,_,_,aQ (bh<|aQ x y).1 (bh<|aQ x y).2,_,_,_);rw[zc];rfl);rw[aE a,aE a];exact(aa,h)
def SP(i x y z:ah):(gU s<|.loss i x y z).2=(tT n i x y z).1/\eT (tT n i x y z).2 (gU s<|.loss i x y z).1:=by
 show((if qO s i=aw\/fN x 0 (eQ:ag)=aw\/fN y 1 (eQ:ag)=aw\/sX x y=aw\/fN z (-((eQ:ag):ah)) (eQ:ag)=aw then eu s 1 else
  iO {s with net:={s.net with edges:=s.net.edges.modify i.toNat λe=>{e with gives:=aQ x y,room:=cG z}}} []):ja×af ah).2=_/\eT _ (if qO s i=aw\/fN x 0 (eQ:ag)=aw\/fN y 1 (eQ:ag)=aw\/sX x y=aw\/fN z (-((eQ:ag):ah)) (eQ:ag)=aw then eu s 1 else
  iO {s with net:={s.net with edges:=s.net.edges.modify i.toNat λe=>{e with gives:=aQ x y,room:=cG z}}} []).1
 unfold tT;rw[h.a4,Rz];have d:(dB n i=aw\/fN x 0 (eQ:ag)=aw\/fN y 1 (eQ:ag)=aw\/sX x y=aw\/lT z=aw)↔(dB n i=aw\/ip x y=aw\/lT z=aw):=by (constructor<;>intros<;>grind?[KG])
 by_cases c:dB n i=aw\/ip x y=aw\/lT z=aw;rw[aG<|d.mpr c,aG c];exact(aa,h);rw[aE λq=>c<|d.mp q,aE c];have w:dB n i=ao:=();have v:ip x y=ao:=∅;have A:lT z=ao:=∅;obtain⟨k,rfl,u⟩:=oN w;rw[show((k:ag):ah).toNat=k from aa];have a:=cK u;rw[a];have E:=h.a5<|eC a;obtain⟨t,r,p,o,m⟩:=BB v;obtain⟨l,j,g,f⟩:=Fc t r p o;refine(aa,h.a9 a aa (?_,(E.b.1,E.b.2.1,E.b.2.2.1,BN x y),E.c) aa (.inr aa) ?_ aa);refine(E.a.n,E.a.b,E.a.a,E.a.c,E.a.f,E.a.d,E.a.i,E.a.j,E.a.k,E.a.q,E.a.m,E.a.p,l,j,?_,(g,f),?_);show(bh<|aQ x y).1<=(bh<|aQ x y).2;rw[xp (_)];exact Int.ediv_le_ediv (by have:=QN x (b:=y) !_;nofun) m;unfold lT at A;simp at A;exact JF A.1 A.2;show({s.net with edges:=s.net.edges.modify k λe=>{e with gives:=aQ x y,room:=cG z}}:fY)=_;rw[h.a1];exact KN a (by show((_,_,_,_,_,_,aQ x y,cG z):dM)=(_,_,_,_,_,_,aQ (bh<|aQ x y).1 (bh<|aQ x y).2,cG z);rw[zc];rfl)
end
def QX:∀l:af (ah×ah),(l.map (·.1)).zip (l.map (·.2))=l
 |[]=>aa|q::l=>by show (Prod.mk q.1 q.2)::(l.map (·.1)).zip (l.map (·.2))=_;rw[QX l]
def kt(n:aR)(l:af (ah×ah))(u:ah):gw (pF n l) u=l.lookup u:=by show((l.map (·.1)).zip<|l.map (·.2)).lookup u=_;rw[QX]
def Us(v t u:ah):∀l:af (ah×ah),(l.any λq=>aT<|q.1=v)=ao->(l.map λq=>if q.1=v then(q.1,t)else q).lookup u=if u=v then ai t else l.lookup u
 |[],h=>by cases h
 |q::l,h=>by
  obtain⟨a,b⟩:=q;rw[eE];by_cases j:a=v;subst j;show qY u ((if a=a then(a,t)else(a,b))::_)=_;rw[aG aa,oe,oe];by_cases e:u=a;nofun;rw[aE e,show(u==a)=aw by simpa using e];dsimp only;clear h;induction l with|nil=>rfl|cons q l g=>obtain⟨c,d⟩:=q;rw[eE];by_cases i:c=a;grind;left
  show qY u ((if a=v then(a,t)else(a,b))::_)=_;rw[aE j,oe,oe];have f:(l.any λq=>aT<|q.1=v)=ao:=();by_cases e:u=a;nofun;rw[show(u==a)=aw by simpa using e];exact Us v t u l f
def gt(l:af (ah×ah))(v t u:ah):(pI l v t).lookup u=if u=v then ai t else l.lookup u:=by unfold pI;split;rename_i h;exact Us v t u l h;left
def Ut(v u:ah):∀l:af (ah×ah),(qz l v).lookup u=if u=v then aq else l.lookup u
 |[]=>by by_cases h:u=v<;>simp[qz,h]|q::l=>by obtain⟨a,b⟩:=q;have c:=Ut v u l;unfold qz at*;rw[wz];by_cases d:a=v;left;left
def M5(bs:Hi)(v u:ag)(x:dq):mT (bs.filter (λx=>x.1 !=v)++[(v,x)]) u=if u=v then ai x else mT bs u:=by unfold mT;left
def L5(bs:Hi)(v u:ag):mT (bs.filter<|λx=>x.1 !=v) u=if u=v then aq else mT bs u:=by unfold mT;left
def Tb(l:af (ah×ah))(v t:ah):(pI l v t).map (·.1)=if v∈l.map (·.1)then l.map (·.1)else l.map (·.1)++[v]:=by
 have z:(l.any λq=>aT<|q.1=v)=ao↔v∈l.map (·.1):=by simp
 unfold pI;by_cases c:v∈l.map (·.1);rw[aG (z.mpr c),aG c,eS];exact lK λq _=>(by show(if q.1=v then(q.1,t)else q).1=_;split<;>rfl);rw[aE (λh=>c (z.mp h)),aE c,eV];rfl
def OI{l:af (ah×ah)}{v t z:ah}(h:z∈(pI l v t).map (·.2)):z∈l.map (·.2)\/z=t:=by (nofun;grind?[pI])
def eT.b6{n:aR}{s a:ja}(h:eT n s)(l:af (ah×ah))(f:(l.map (·.1)).Nodup)(e:∀k:ah,k∈l.map (·.1)->0<=k/\k<n.b.length)(d:∀v∈l.map (·.2),aI 20 v)(b:a.net=s.net)(c:∀v:ag,v<n.b.length->mT a.boilers v=(l.lookup (v:ah)).map cG):eT (pF n l) a:=by have O:=h.ok;refine(((O.d,O.c,O.a,by show(l.map _).length=(l.map _).length;simp,f,e,d,O.j),h.nm.a),by rw[b,h.a1];rfl,h.a8,⟨λv q=>?_⟩,h.a6,h.hp,h.hi);rw[c v q,kt]
section
variable{n:aR}{s:ja}(h:eT n s)
include h
def eT.b8:((n.d.zip n.e).map (·.1))=n.d/\((n.d.zip n.e).map (·.2))=n.e:=by have:=h.ok.l;simp[*,List.map_fst_zip,List.map_snd_zip]
def KM(v t:ah):(gU s<|.boiler v t).2=(tZ n v t).1/\eT (tZ n v t).2 (gU s<|.boiler v t).1:=by
 show((if zY s v=aw\/fN t (-((eQ:ag):ah)) (eQ:ag)=aw then eu s 1 else iO {s with boilers:=s.boilers.filter (λx=>x.1 !=v.toNat)++[(v.toNat,cG t)]} []):ja×af ah).2=_/\eT _ (if zY s v=aw\/fN t (-((eQ:ag):ah)) (eQ:ag)=aw then eu s 1 else iO {s with boilers:=s.boilers.filter (λx=>x.1 !=v.toNat)++[(v.toNat,cG t)]} []).1;unfold tZ;rw[h.b7,Rz];by_cases d:oE n v=aw\/lT t=aw;·rw[aG d,aG d];exact(aa,h)
 ·rw[aE d,aE d];have g:oE n v=ao:=∅;have hw:lT t=ao:=∅;unfold oE at g;simp at g;obtain⟨k,rfl⟩:∃k:ag,v=(k:ag):=(v.toNat,!_);obtain⟨f,j⟩:=h.b8;refine(aa,h.b6 _ ?_ ?_ ?_ aa λu l=>?_)
  ·rw[Tb,f];split;·exact h.ok.i
   ·rename_i q;exact Ou.mpr (h.ok.i,(),λa ha b i=>by simp at i;subst i;intro e;subst e;exact q ha)
  ·rw[Tb,f];intro z c;split at c;·exact h.ok.g z c
   ·rcases nZ.mp c with c|c;·exact h.ok.g z c
    ·nofun
  ·intro z c;rcases OI c with q|rfl;·rw[j]at q;exact h.ok.f z q
   all_goals simp_all[lT,JF]
  ·rw[gt];show mT (s.boilers.filter (λx=>x.1 !=k)++[(k,cG t)]) u=_;rw[M5];by_cases q:u=k;·nofun
   ·rw[aE q,aE !_];exact h.a2.a u l
def TS(v:ah):(gU s<|.unboil v).2=(sf n v).1/\eT (sf n v).2 (gU s<|.unboil v).1:=by
 show((if zY s v=aw then eu s 1 else if(s.boilers.any λx=>x.1==v.toNat)=aw then eu s 4 else iO {s with boilers:=s.boilers.filter λx=>x.1 !=v.toNat} []):ja×af ah).2=_/\eT _ (if zY s v=aw then eu s 1 else if(s.boilers.any λx=>x.1==v.toNat)=aw then eu s 4 else iO {s with boilers:=s.boilers.filter λx=>x.1 !=v.toNat} []).1;unfold sf;rw[h.b7];cases b:oE n v with|false=>exact(aa,h)|true=>
  rw[aE (show ¬(ao=aw) by decide),aE (show ¬(ao=aw) by decide)];unfold oE at b;simp at b;obtain⟨k,rfl⟩:∃k:ag,v=(k:ag):=(v.toNat,(by grind));have e:(s.boilers.any λx=>x.1==((k:ag):ah).toNat)=(gw n (k:ah)).isSome:=by have:=fk Option.isSome<|h.a2.a k ∅;unfold mT at this;left
  rw[e];cases g:(gw n (k:ah)).isSome with|false=>exact(aa,h)|true=>rw[aE (show ¬(ao=aw) by decide),aE (show ¬(ao=aw) by decide)];obtain⟨c,f⟩:=h.b8;have j:∀q∈qz (n.d.zip n.e) k,q∈n.d.zip n.e:=λq i=>(tr.mp i).1;refine(aa,h.b6 _ ?_ ?_ ?_ aa λu d=>?_);have:((qz (n.d.zip n.e) k).map (·.1)).Sublist ((n.d.zip n.e).map (·.1)):=B3 _ OE;rw[c]at this;exact h.ok.i.sublist this;intro z a;obtain⟨q,i,rfl⟩:=cJ.mp a;exact h.ok.g _ ();intro z a;obtain⟨q,i,rfl⟩:=cJ.mp a;exact h.ok.f _ ();rw[Ut];show mT (s.boilers.filter<|λx=>x.1 !=k) u=_;rw[L5];by_cases q:u=k;nofun;rw[aE q,aE (by left)];exact h.a2.a u d
end
def ss{n m:fY}{t:af ag}(h:wa n t=ai m)(c:∀e∈n.edges,e.kind≠2->e.h=aU):∀e∈m.edges,e.kind≠2->e.h=aU:=by unfold wa at h;split at h;split at h;rename_i b g f _ _ _;split at h;lia;rename_i i;dsimp only at h;split at h;lia;cases h;intro e a d;rcases nZ.mp a with a|a;symm;nofun;lia;nofun
def Uu:∀(l:af (af ag)) (k:ag) (n m:fY),jT k n l=.ok m->(∀e∈n.edges,e.kind≠2->e.h=aU)->∀e∈m.edges,e.kind≠2->e.h=aU
 |[],k,n,m,h,a=>by cases h;exact a
 |t::l,k,n,m,h,a=>by unfold jT at h;split at h;nofun;rename_i b c;exact Uu l (k+1) b m h<|ss c a
def am{t:af ag}{m:fY}(h:jx t=.ok m):∀e∈m.edges,e.kind≠2->e.h=aU:=by unfold jx at h;grind[Uu]
def Ln{q:ah×ah}(h:0<q.2):bh (oM q)=q:=by obtain⟨a,b⟩:=q;have h:0<b:=h;show (Prod.mk a<|((b.toNat:ag):ah))=(a,b);lia
def Lq{m:ag}{q:ah×ah}(h:uc m q):aQ q.1 q.2=oM q:=by have:=Fd h.e;rwa[Ln h.a]at this
def VA{m:ag}{q:ah×ah}(h:uc m q):iK q:=by unfold iK;rw[Lq h,Ln h.a]
def gh:iK (1,1):=by unfold iK;decide
def gg:iK (0,1):=by unfold iK;decide
def Tl{x:ax}{a:af (af ag)}{b:af bB}(h:vK a b):jH a b=aW (x,a.map dm,b,[],[]):=by
 show((a,b.map Cd):fY)=((a.map dm).map (·.map A_),b.map bU);congr 1;rw[eS]
 conv=>lhs;rw[<-Ow a]
 refine lK λt _=>?_;show t=(t.map Ba).map A_;rw[eS]
 conv=>lhs;rw[<-Ow t]
 rfl;refine lK λe c=>?_;have B:=h.a e c;show((e.c,e.b,e.a,oM e.g,oM e.h,oM e.o,oM e.l,cG e.k):dM)=(e.c,e.b,e.a,aQ e.g.1 e.g.2,aQ e.h.1 e.h.2,aQ e.o.1 e.o.2,aQ e.l.1 e.l.2,cG e.k);rw[Lq B.g,Lq B.h,B.o,B.l];rfl
def ad'{x:ax}{t f:af (af ag)}{m:af ag}{b:af bB}(h:vK f b)(u:jx m=.ok (jH f b))(p:(b.map (·.x)).Nodup):eT (x,f.map dm,b,[],[]) {net:=jH f b}:=by
 have k:∀e∈b,e.c≠2->e.h=(0,1):=λe a w=>by have:=am u (Cd e) (AA a) w;have:oM e.h=aU:=this;rw[<-Ln (h.a e a).h.a,this];rfl
 have i:∀e∈b,zM f.length e:=λe a=>by have B:=h.a e a;refine((B.m,B.f,B.k,B.j,B.i,B.g.a,(B.g.d,B.g.c),B.h.a,(B.h.d.a0 ⋯,B.h.c.a0 ⋯),by rw[B.o];decide,by rw[B.o];decide,by rw[B.o];exact(aI.a0 (n:=1) aI.a2 ⋯,aI.a0 (n:=1) aI.a2 ⋯),by rw[B.l];decide,by rw[B.l];decide,by rw[B.l];decide,by rw[B.l];exact(aI.a2,aI.a2),by rw[B.n];exact aI.a2),(VA B.g,VA B.h,by rw[B.o];exact gh,by rw[B.l];exact gg),B.h.b,k e a)
 have j:GF (x,f.map dm,b,[],[]):=.inl λe a=>(h.a e a).h.c;refine(((by rw[cb];exact h.c,h.b,λe a=>by rw[cb];exact(i e a).a,aa,(),(λ_ q=>nomatch q),(λ_ q=>nomatch q),US h.b (λe a=>k e a) j),p),Tl h,λe a=>(i e a).b,⟨λv _=>aa⟩,λy s=>?_,λe a=>(i e a).c,j);obtain⟨z,r,rfl⟩:=cJ.mp s;refine(by unfold dm;rw[cb];exact h.d z r,λc A=>?_);obtain⟨d,_,rfl⟩:=cJ.mp A;symm
def WP{n:aR}{s:ja}(h:eT n s)(t:af ah){a:af ah}{d:aR}(j:Ud n t a d):a=(gU s<|.net<|iT t).2/\eT d (gU s<|.net<|iT t).1:=by
 show a=(match jx (iT t)with
  |.error _=>eu s 2|.ok n=>iO {net:=n} [(cD n:ah),(n.edges.length:ah)]).2/\eT d (match jx (iT t)with
  |.error _=>eu s 2|.ok n=>iO {net:=n} [(cD n:ah),(n.edges.length:ah)]).1
 rcases j with⟨⟨e,b⟩,rfl,rfl⟩|⟨c,f,b,i,g,rfl,rfl⟩;rw[b];exact(aa,h);rw[b];refine(?_,ad' (t:=c) i b g);show KO c f=[0,((c.length:ag):ah),(((f.map Cd).length:ag):ah)];rw[cb];rfl
def tP(st:oQ)(k i:ag)(x:bB)(q:ah×ah):bB:=if i=k then qm (gj x q) st.b else gj x q
def JN{st:oQ}(d:st.a.length=n.a.length)(e:k<n.a.length):(nt n st k).x=n.x/\(nt n st k).b=n.b/\(nt n st k).d=n.d/\(nt n st k).e=n.e/\(nt n st k).a.length=n.a.length/\∀i x q,n.a[i]?=ai x->st.a[i]?=ai q->(nt n st k).a[i]?=ai (tP st k i x q):=by
 unfold nt;have b:((n.a.zip st.a).map λq=>gj q.1 q.2).length=n.a.length:=∅;have a:k<((n.a.zip st.a).map λq=>gj q.1 q.2).length:=∅;rw[cK a];refine(aa,aa,aa,aa,?_,λi x q c f=>?_);show(((n.a.zip st.a).map λq=>gj q.1 q.2).set k _).length=_;rw[j',b];show(((n.a.zip st.a).map λq=>gj q.1 q.2).set k<|qm ((n.a.zip st.a).map λq=>gj q.1 q.2)[k] st.b)[i]?=_;have z:((n.a.zip st.a).map λq=>gj q.1 q.2)[i]?=ai (gj x q):=by rw[cV,(List.getElem?_zip_eq_some (z:=(x,q))).mpr (c,f)];rfl
 unfold tP;by_cases g:k=i;subst g;rw[cK a]at z;rw[mY a,aG aa,kX z];rw[hW g,z,aE (dZ g)]
def SZ{c:oQ}(f:c.a.length=n.a.length)(g:k<n.a.length){P:ag->bB->Prop}(h:∀i x q,n.a[i]?=ai x->c.a[i]?=ai q->P i (tP c k i x q)):∀i y,(nt n c k).a[i]?=ai y->P i y:=λi y d=>by obtain⟨_,_,_,_,m,j⟩:=JN (st:=c) f g;have e:=(eM.mp d).1;rw[m]at e;have a:=cK e;have b:=cK (l:=c.a) (i:=i) ∅;have:=j i _ _ a b;rw[this]at d;cases d;exact h i _ _ a b
def JM{c:oQ}(e:c.a.length=n.a.length)(f:k<n.a.length)(g:bB->β)(l:af β)(d:l.length=n.a.length)(h:∀i x q,n.a[i]?=ai x->c.a[i]?=ai q->l[i]?=ai (g<|tP c k i x q)):(nt n c k).a.map g=l:=by obtain⟨_,_,_,_,o,m⟩:=JN (st:=c) e f;refine yt λi=>?_;rw[cV];by_cases j:i<n.a.length;have a:=cK j;have b:=cK (l:=c.a) (i:=i) ∅;grind?;nofun
def TZ{a:oQ}:(tP a k i x q).c=x.c/\(tP a k i x q).x=x.x:=by unfold tP;split<;>exact(aa,aa)
def ad9(h:eT n s){c:oQ}(A:fC n=ai k)(t:k<n.a.length)(j:WT c n.a.length):eT (nt n c k) {s with net:=Dc s.net (aQ c.b.1 c.b.2)<|c.a.map λq=>aQ q.1 q.2}:=by
 have r:=j.d;obtain⟨N,C,K,J,M,L⟩:=JN (st:=c) r t;have f:∀i x,n.a[i]?=ai x->(x.c=2↔i=k):=λi x b=>by constructor;exactλq=>BD A (q:=(i,x)) (xl b) q;rintro rfl;obtain⟨e,B,w⟩:=zk A;rw[b]at B;cases B;exact w
 have I:∀i y,(nt n c k).a[i]?=ai y->zM n.b.length y/\aI 1290 y.h.2:=SZ r t λi x q b g=>by have E:=h.a5<|eC b;obtain⟨H,G,F,D,z⟩:=j.o q<|eC g;have a:gT n.b.length (gj x q):=(E.a.n,E.a.b,E.a.a,E.a.c,E.a.f,E.a.d,E.a.i,E.a.j,E.a.k,H,G,(F,D),E.a.v,E.a.r,E.a.u,E.a.t,E.a.s);unfold tP;by_cases d:i=k;rw[aG d];refine(((a.n,a.b,a.a,a.c,a.f,a.d,a.i,j.f,(j.a.1.a0 ⋯,j.a.2.a0 ⋯),a.q,a.m,a.p,a.v,a.r,a.u,a.t,a.s),(E.b.1,j.b,z,E.b.2.2.2),j.e,λq=>bG ((f i x b).mpr d) q),j.a.2);rw[aE d];have v:x.c≠2:=λq=>d<|(f i x b).mp q;refine((a,(E.b.1,E.b.2.1,z,E.b.2.2.2),E.c),?_);show aI 1290 x.h.2;rw[E.c.2 v];exact aI.a0 (n:=1) aI.a2 ⋯
 have m:∀y∈(nt n c k).a,zM n.b.length y/\aI 1290 y.h.2:=λy p=>by obtain⟨i,d,e⟩:=iC p;exact I i y (by rw[<-e];exact cK d)
 have u:(nt n c k).a.map (·.c)=n.a.map (·.c):=JM r t _ _ () λi x q b g=>by rw[cV,b];exact fk ai TZ.1.symm
 refine h.up C ?_ K J (λy p=>(m y p).1) (.inr (?_,λy p=>(m y p).2)) ?_ aa;exact JM r t _ _ () λi x q b g=>by rw[cV,b];exact fk ai TZ.2.symm
 grind[TK];show Dc s.net _ _=_;rw[h.a1];unfold Dc aW;rw[C];congr 1;refine(JM r t bU _ ∅ λi x q b g=>?_).symm;rw[cV,show((n.a.map bU).zip<|c.a.map λq=>aQ q.1 q.2)[i]?=ai (bU x,aQ q.1 q.2)from DI.mpr (by rw[cV,b];rfl,by rw[cV,g];rfl)];show ai ((x.c,x.b,x.a,aQ x.g.1 x.g.2,if x.c=2 then aQ c.b.1 c.b.2 else aQ x.h.1 x.h.2,aQ q.1 q.2,aQ x.l.1 x.l.2,cG x.k):dM)=_;unfold tP;by_cases d:i=k;rw[aG d,aG<|(f i x b).mpr d];rfl;rw[aE d,aE λq=>d<|(f i x b).mp q];rfl
def PS(h:eT n s)(p:mL t):(gU s<|.throttle t).2=(tF n t).1/\eT (tF n t).2 (gU s<|.throttle t).1:=by
 show(match sY t with
  |none=>eu s 1|some f=>if(ur s.net).isNone=ao then eu s 3 else if jV s.net f=aw then eu s 4 else match xX s.net f with|none=>eu s 6|some x=>iO {s with net:=Dc s.net x.1 x.2} (gn x.1)).2=_/\eT _ (match sY t with|none=>eu s 1|some f=>if(ur s.net).isNone=ao then eu s 3 else if jV s.net f=aw then eu s 4 else match xX s.net f with|none=>eu s 6|some x=>iO {s with net:=Dc s.net x.1 x.2} (gn x.1)).1
 unfold tF nE;cases z:fM t with|none=>rw[BX z];exact(aa,h)|some r=>
  obtain⟨fs,w,o⟩:=zv z;obtain⟨y,i,g⟩:=p'.mp (show(kO t).map gG=ai r from z);rw[w];dsimp only;rw[Cm h.ok o,<-h.a1,show ur s.net=fC n by rw[h.a1,Fl]];cases c:fC n with|none=>exact(aa,h)|some k=>
   rw[aE ¬_];dsimp only;cases u:jV s.net fs with|false=>exact(aa,h)|true=>
    have j:=ED h p z o u;obtain⟨e,d,_⟩:=zk c;rw[aE ⋯,aE ⋯,d];dsimp only;have b:jV (aW n) fs=ao:=by rw[<-h.a1];exact u
    have l:xX s.net fs=(lY n r k e).map λs=>(aQ s.b.1 s.b.2,s.a.map λq=>aQ q.1 q.2):=by rw[h.a1];exact RC h.ok j b c d
    rw[l];cases v:lY n r k e with|none=>exact(aa,h)|some a=>have m:=JL h.ok j b c d (JC p i g j.tl) v;refine(?_,ad9 h c (eM.mp d).1 m);show 0::gn (aQ a.b.1 a.b.2)=_;rw[show gn (aQ a.b.1 a.b.2)=dH a.b from fk dH m.b]
inductive ee:ag->af ah->af (af ah)->Prop
 |q {t:af ah}:xH t->ee 0 [] [t]
 |D {t:af ah}:xH t->ee 1 [] [t]
 |e:ee 2 [] []
 |k {i x y:ah}:ee 3 [i,x,y] []
 |c {i x y:ah}:ee 4 [i,x,y] []
 |p:ee 5 [] []
 |m:ee 6 [] []
 |n:ee 7 [] []
 |A {a b:af ah}:mL a->mL b->ee 8 [] [a,b]
 |w {t:af ah}:mL t->ee 9 [] [t]
 |h {i j:ah}:ee 10 [i,j] []
 |g {t:af ah}:mL t->ee 11 [] [t]
 |d {t:af ah}:mL t->ee 12 [] [t]
 |o {i x y z:ah}:ee 13 [i,x,y,z] []
 |C {v t:ah}:ee 14 [v,t] []
 |f {v:ah}:ee 15 [v] []
 |u:ee 16 [] []
 |s:ee 17 [] []
 |r:ee 18 [] []
 |l {i:ah}:ee 19 [i] []
 |B {i x y:ah}:ee 20 [i,x,y] []
def adR(h:Nm z=ao):aI 60 z:=by unfold Nm at h;simp at h;unfold aI;omega
def Bu(h:(aT (t.length<=40)&&t.all λz=>Nm z)=ao):mL t:=have h:=Xg.mp h;(iM h.1,λz a=>adR<|mw.mp h.2 z a)
def RD(h:(aT (t.length<=800)&&t.all λz=>XT z 8)=ao):xH t:=have h:=Xg.mp h;(iM h.1,λz a=>by have:=mw.mp h.2 z a;unfold XT at this;simp at this;exact this)
def vg(s:ja)(c:ah)(b:af ah)(a:af (af ah)):ja×af ah:=Nn s ((c::b)::a)
def WG(h:CV ((c::l)::r)=ao):0<=c/\ee c.toNat l r:=by
 rcases c with n|m;rotate_left;exact(oT h).elim
 refine(Int.natCast_nonneg n,?_);show ee n l r;iterate 21 (rcases n with _|n;rotate_left)
 exact(oT h).elim
 all_goals (iterate 5 (all_goals try (rcases l with _|⟨_,l⟩<;>try exact(oT h).elim)));iterate 3 (all_goals try (rcases r with _|⟨_,r⟩<;>try exact(oT h).elim))
 exact .q<|RD h;exact .D<|RD h;exact .e;exact .k;exact .c;exact .p;exact .m;exact .n;have p:=Xg.mp h;have q:=Xg.mp p.2;exact .A (Bu (Xg.mpr (p.1,q.1)))<|Bu q.2
 exact .w<|Bu h;exact .h;exact .g<|Bu h;exact .d<|Bu h;exact .o;exact .C;exact .f;exact .u;exact .s;exact .r;exact .l;exact .B
def Cy(c:ah)(a:iL):Prop:=(∃s,eT a.n s)/\0<=c/\ee c.toNat a.b a.c
def Gx(c:ah)(a:iL)(b:af ah)(d:aR):Prop:=∀s,eT a.n s->b=(vg s c a.b a.c).2/\eT d (vg s c a.b a.c).1/\b.length<=60000
def Bg(c:ah):aC:=(["answer_net","answer_read","answer_print","answer_opens","answer_head","answer_flows","answer_pressures","answer_work","answer_check","answer_energy","answer_across","answer_least","answer_throttle","answer_loss","answer_boiler","answer_unboil","answer_warmth","answer_heat","answer_groups","answer_edge","answer_more"]:af aC).getD c.toNat ⟨#[]⟩
section
variable{K:aZ}
def mO.up(h:mO P w K e b k x d D0 R0)(n:k<=47)(o:∀a,Dm a->D0 a/\∀c g,R0 a c g->R a c g):mO P w K e b 47 x d Dm R:=by obtain⟨f,C,j,F,m,i,p⟩:=h.ex;refine(f,C,j,(F.a3 n).a2 λM H Q E l=>?_,m,i,p);obtain⟨G,a,s,r,t,q⟩:=l;obtain⟨I,D⟩:=o a t;exact(G,a,s,r,I,λv c g L J B A z y u=>q v c g L J (D c g B) A z y u)
def oA(h:cI P w K e b k x (mM d Pre g))(j:k<=47)(l:∀n f a,ee c.toNat f a->∀s,eT n s->Pre (n,f,a)/\vg s c f a=(s,g (n,f,a))/\(g (n,f,a)).length<=60000):mO P w K e b 47 x d (Cy c) (Gx c):=by refine h.a1.up j λ(n,f,a) ((s,i),q,m)=>((i.ok,(l n f a m s i).1),λo p (t,r) s i=>?_);left
end
def EC(h:l.length<=m)(a:m<=1000):(0::iG l b).length<=60000:=by grind[iG,wU]
def rd(l:af (ah×ah)):(l.flatMap dH).length=2*l.length:=by
 induction l with|nil=>rfl|cons q l a=>rw[uK,hU,a];show 2+_=2*(l.length+1);lia
section
variable{K:aZ}
def xi(h:mO P w K f b 47 x d D0 R0)(l:∀n g a,ee c.toNat g a->∀s,eT n s->D0 (n,g,a)/\∀i j,R0 (n,g,a) i j->i=(vg s c g a).2/\eT j (vg s c g a).1/\i.length<=60000):mO P w K f b 47 x d (Cy c) (Gx c):=by refine h.up (b_ _) λ(n,g,a) ((s,k),o,m)=>((l n g a m s k).1,λi j e s k=>?_);exact (l n g a m s k).2 i j e
def ei(k:ag)(l:af ah)(r:af (af ah)):Prop:=match k with
 |0|1=>l=[]/\∃t,r=[t]/\xH t
 |8=>l=[]/\∃a b,r=[a,b]/\mL a/\mL b
 |9|11|12=>l=[]/\∃t,r=[t]/\mL t
 |3|4|20=>(∃i x y,l=[i,x,y])/\r=[]
 |10|14=>(∃i j,l=[i,j])/\r=[]
 |13=>(∃i x y z,l=[i,x,y,z])/\r=[]
 |15|19=>(∃v,l=[v])/\r=[]
 |_=>l=[]/\r=[]
def ej(h:ee k l r):ei k l r:=by
 induction h with|A a b=>exact(aa,_,_,aa,a,b)|_=>first|exact(aa,aa)|exact(aa,_,aa,‹_›)|exact((_,aa),aa)|exact((_,_,aa),aa)|exact((_,_,_,aa),aa)|exact((_,_,_,_,aa),aa)
def Y5{a b d e:α}(h:[a,b]=[d,e]):a=d/\b=e:=by simpa using h
def Y6{a b c d e f:α}(h:[a,b,c]=[d,e,f]):a=d/\b=e/\c=f:=by simpa using h
def Y7{a b c g d e f i:α}(h:[a,b,c,g]=[d,e,f,i]):a=d/\b=e/\c=f/\g=i:=by simpa using h
def rt(D:cq K f d)(c:ah)(a:iL)(h:Cy c a):mO P w K f b 47 (Bg c) d (Cy c) (Gx c):=by
 obtain⟨⟨s0,N⟩,h0,l⟩:=h;obtain⟨k,rfl⟩:=En h0;obtain⟨n0,H,G⟩:=a;have l:ee k H G:=l;clear N;induction l with
 |q _=>
  refine xi (ac D) λn j g l s o=>?_;obtain⟨rfl,_,rfl,L⟩:=ej l;refine((o.nm,_,aa,L),λp C (t,e,hq)=>?_);cases e;obtain⟨B,A⟩:=WP o _ hq;refine(B,A,?_);rcases hq with⟨_,rfl,_⟩|⟨nl,el,_,_,_,rfl,_⟩;simp;show 3<=60000;decide
 |D _=>
  refine oA (Gc D) ⋯ λn j g l s o=>?_;obtain⟨rfl,_,rfl,L⟩:=ej l;refine((_,aa,L),LS o _,?_);(simp only[Bx];split<;>nofun)
 |e=>
  refine oA (rc D) ⋯ λn j g l s o=>?_;obtain⟨rfl,rfl⟩:=ej l;refine(o.pr,FS o,?_);have:=EF o.pr n.a λe S=>S;have:=o.ok.c;grind[EG]
 |k=>
  refine xi (lc D) λn j g l s o=>?_;obtain⟨⟨i,x,y,rfl⟩,rfl⟩:=ej l;refine((o.nm,_,_,_,aa),λp C (_,_,_,e,u)=>?_);obtain⟨rfl,rfl,rfl⟩:=Y6 e;obtain⟨B,A⟩:=CR o i x y;obtain⟨q,F⟩:=Aw (show (Prod.mk p C)=((sr n i x y).1,(sr n i x y).2)from u);subst q F;refine(B.symm,A,?_);(unfold sr;(repeat' split)<;>exact wx aa)
 |c=>
  refine xi (Fa D) λn j g l s o=>?_;obtain⟨⟨i,x,y,rfl⟩,rfl⟩:=ej l;refine((o.nm,_,_,_,aa),λp C (_,_,_,e,u)=>?_);obtain⟨rfl,rfl,rfl⟩:=Y6 e;obtain⟨B,A⟩:=wP o i x y;obtain⟨q,F⟩:=Aw (show (Prod.mk p C)=((sx n i x y).1,(sx n i x y).2)from u);subst q F;refine(B.symm,A,?_);(unfold sx;(repeat' split)<;>exact wx aa)
 |p=>
  refine oA (na D qu) ⋯ λn j g l s o=>?_;obtain⟨rfl,rfl⟩:=ej l;exact(dU,PO o,EC (m:=14) (by rw[(lq o.ok).tl];exact o.ok.c) ⋯)
 |m=>
  refine oA (pc D qu) ⋯ λn j g l s o=>?_;obtain⟨rfl,rfl⟩:=ej l;exact(dU,wS o,EC (m:=8) (by rw[(Tr<|qu.a n o.ok).2];exact o.ok.d) ⋯)
 |n=>
  refine oA (l9 D) ⋯ λn j g l s o=>?_;obtain⟨rfl,rfl⟩:=ej l;exact(dU,wT o,by show 5<=60000;decide)
 |A _ _=>
  refine oA (i' D) ⋯ λn j g l s o=>?_;obtain⟨rfl,_,_,rfl,E,Z⟩:=ej l;refine((_,_,aa,E,Z),IN o _ _,?_);(simp only[LY];split<;>nofun)
 |w _=>
  refine oA (ga D) ⋯ λn j g l s o=>?_;obtain⟨rfl,_,rfl,E⟩:=ej l;refine((_,aa,E),HO o E,?_);show(Gf _).length<=60000;unfold Gf;split;nofun;split;nofun;split;nofun;show 5<=60000;decide
 |h=>
  refine oA (X9 D) ⋯ λn j g l s o=>?_;obtain⟨⟨_,_,rfl⟩,rfl⟩:=ej l;refine((_,_,aa),GM o _ _,?_);show(Gs _).length<=60000;unfold Gs;split;ac_rfl;show 3<=60000;decide
 |g _=>
  refine oA (Vo D) ⋯ λn j g l s o=>?_;obtain⟨rfl,t,rfl,E⟩:=ej l
  refine((_,aa,E),EP o E,?_);show(match nE n t with|.inl k=>[k]|.inr s=>ky (0::dH s.b) s.a).length<=60000
  cases e:nE n t with|inl k=>show 1<=60000;decide|inr T=>
   obtain⟨r,k,ed,Q,X,S,Y,M⟩:=Uz e;obtain⟨fs,ea,U⟩:=zv Q;obtain⟨ps,R,O⟩:=p'.mp (show(kO t).map gG=ai r from Q);have J:jV (aW n) fs=ao:=by rw[<-Cm o.ok U];exact Y
   have I:=ED o E Q U (by rw[o.a1];exact J);have W:=JL o.ok I J X S (JC E R O I.tl) M;show(ky (0::dH T.b) T.a).length<=60000;unfold ky;rw[hU,rd,W.d];have:=o.ok.c;show 3+_<=_;lia
 |d _=>
  refine xi (Sc D) λn j g l s o=>?_;obtain⟨rfl,t,rfl,E⟩:=ej l;refine((o.nm,_,aa,E),λp C (_,e,u)=>?_);cases e;obtain⟨B,A⟩:=PS o E;obtain⟨q,F⟩:=Aw (show (Prod.mk p C)=((tF n t).1,(tF n t).2)from u);subst q F;refine(B.symm,A,?_);unfold tF;split;nofun;show 3<=60000;decide
 |o=>
  refine xi (db D) λn j g l s o=>?_;obtain⟨⟨i,x,y,z,rfl⟩,rfl⟩:=ej l;refine((o.nm,_,_,_,_,aa),λp C (_,_,_,_,e,u)=>?_);obtain⟨rfl,rfl,rfl,rfl⟩:=Y7 e;obtain⟨B,A⟩:=SP o i x y z;obtain⟨q,F⟩:=Aw (show (Prod.mk p C)=((tT n i x y z).1,(tT n i x y z).2)from u);subst q F;refine(B.symm,A,?_);(unfold tT;(repeat' split)<;>exact wx aa)
 |C=>
  refine xi (Y9 D) λn j g l s o=>?_;obtain⟨⟨v,t,rfl⟩,rfl⟩:=ej l;refine((o.nm,_,_,aa),λp C (_,_,e,u)=>?_);obtain⟨rfl,rfl⟩:=Y5 e;obtain⟨B,A⟩:=KM o v t;obtain⟨q,F⟩:=Aw (show (Prod.mk p C)=((tZ n v t).1,(tZ n v t).2)from u);subst q F;refine(B.symm,A,?_);(simp only[tZ];split<;>nofun)
 |f=>
  refine xi (ld D) λn j g l s o=>?_;obtain⟨⟨v,rfl⟩,rfl⟩:=ej l;refine((o.nm,_,aa),λp C (_,e,u)=>?_);cases e;obtain⟨B,A⟩:=TS o v;obtain⟨q,F⟩:=Aw (show (Prod.mk p C)=((sf n v).1,(sf n v).2)from u);subst q F;refine(B.symm,A,?_);(nofun;grind?[sf])
 |u=>
  refine oA (k9 D) ⋯ λn j g l s o=>?_;obtain⟨rfl,rfl⟩:=ej l
  refine(dU,dT o,?_);show(match jf n (dg n)with
   |none=>[-6]|some r=>0::iG r.a r.b).length<=60000
  cases hw:jf n (dg n)with
  |none=>show 1<=60000;decide|some r=>obtain⟨V,e1,u,q⟩:=EA o.ok (lq o.ok) o.a2 hw;exact EC (m:=8) (by rw[u.a3,q];exact o.ok.d) ⋯
 |s=>
  refine oA (ab D) ⋯ λn j g l s o=>?_;obtain⟨rfl,rfl⟩:=ej l
  refine(dU,AP o,?_);show(match jf n (dg n)with
   |none=>[-6]|some r=>0::iG (mF n (dg n) r).a (mF n (dg n) r).b).length<=60000
  cases hw:jf n (dg n)with
  |none=>show 1<=60000;decide|some r=>have I:=lq o.ok;obtain⟨V,e1,u,q⟩:=EA o.ok I o.a2 hw;refine EC (m:=22) ?_ ⋯;rw[(UT o.ok I o.a2 u q).a3];unfold tU;rw[hU,cb,cb,uH,kG];have:=o.ok.d;have:=o.ok.c;have:=I.a2;lia
 |r=>
  refine oA (Da D) ⋯ λn j g l s o=>?_;obtain⟨rfl,rfl⟩:=ej l;refine(dU,TO o,?_);show(dm<|iV n).length+1<=60000;unfold dm iV;rw[cb,vx];have:=o.ok.d;lia
 |l=>
  refine oA (ca D) ⋯ λn j g l s o=>?_;obtain⟨⟨_,rfl⟩,rfl⟩:=ej l;refine((_,aa),ZN o _,?_);show(Gi _).length<=60000;unfold Gi;split;simp;split;grind;show 14<=60000;decide
 |B=>
  refine oA (Db D) ⋯ λn j g l s o=>?_;obtain⟨⟨_,_,_,rfl⟩,rfl⟩:=ej l;refine((_,_,_,aa),TP o _ _ _,?_);show(Fo _).length<=60000;unfold Fo;split;grind;split;split;nofun;show 5<=60000;decide;ac_rfl
end
def nr(c:ah):ag×ag:=(Dh c).getD (0,0)
def sJ:zL ja:=(nr,λ_ c b a=>CV ((c::b)::a)=ao,vg)
def By(ns:af ah)(q:ag):∀j,eY ns q (j+1)=eY ns (q+1+(ns.getD q 0).toNat) j
 |0=>aa|j+1=>by show eY ns q (j+1)+1+(ns.getD (eY ns q<|j+1) 0).toNat=eY ns _ j+1+(ns.getD (eY ns _ j) 0).toNat;rw[By ns q j]
def ww(ns:af ah)(q k:ag):gS ns q (k+1)=sk ns q::gS ns (q+1+(ns.getD q 0).toNat) k:=by unfold gS;rw[Ot,eE,eS];grind[lK,sk,eY,By]
def Wj{a r:af ah}(h:a.drop q=z::r):q<a.length/\a.getD q 0=z/\a.drop (q+1)=r:=by grind?[Nat.lt_of_not_le,List.drop_eq_nil_of_le,List.drop_eq_getElem_cons]
def SH(ns:af ah):∀(k q:ag) (a:af (af ah)) (t:af ah),Zu k (ns.drop q)=ai (a,t)->q<=ns.length->a=gS ns q k/\t=ns.drop (eY ns q k)/\zH ns q k
 |0,q,a,t,h,_=>by cases h;exact(aa,aa,⟨λi e=>bG e<|ZD i⟩)
 |k+1,q,a,t,h,hq=>by
  unfold Zu at h;split at h;nofun;rename_i x s b;split at h;nofun;rename_i v u d;cases h;unfold PyFlat.row at b;split at b;nofun;rename_i z r n;split at b;rename_i m;cases b;obtain⟨p,c,f⟩:=Wj n;have w:r.length=ns.length-(q+1):=(by grind?);have o:r.drop z.toNat=ns.drop (q+1+(ns.getD q 0).toNat):=by rw[<-f,L1,c]
  rw[o]at d;obtain⟨l,j,g⟩:=SH ns k _ _ _ d !_;refine(?_,?_,⟨λi e=>?_⟩);rw[ww,<-l];congr 1;unfold sk;rw[c,f];rw[By];exact j;cases i with|zero=>refine(p,by show 0<=ns.getD q 0;rw[c];exact m.1,?_);show q+1+(ns.getD q 0).toNat<=ns.length;rw[c];omega|succ i=>rw[By,By];exact g.a i ∅
  nofun
def ix(ns:af ah)(q k:ag):(gS ns q k).length=k:=by unfold gS;simp
def m5(h:ee k nums rows):rows.length<=2:=by induction h<;>exact wx aa
def Yy(ns:af ah):∀(f p:ag) (s:ja) (cs:af (af<|af ah)),Oe Dh f (ns.drop p)=ai cs->p<=ns.length->(∀c∈cs,CV c=ao)->sF sJ ns p s (Zt<|Zv Nn s cs) cs.length:=by
 intro f;induction f with
 |zero=>
  intro p s cs h G x;cases e:ns.drop p with
  |nil=>
   rw[e]at h;cases h;have:p=ns.length:=by left
   subst this;exact .a0
  |cons z r=>rw[e]at h;cases h
 |succ f D=>
  intro p s cs h G x;cases e:ns.drop p with
  |nil=>
   rw[e]at h;cases h;have:p=ns.length:=by (nofun;lia)
   subst this;exact .a0
  |cons z r=>
   rw[e]at h;unfold Oe at h;split at h;·nofun
   ·rename_i c t b;split at h;·nofun
    ·rename_i d l;cases h;unfold PyFlat.call at b;dsimp only at b;split at b;·nofun
     ·rename_i n k w;split at b;·nofun
      ·rename_i H;split at b;·lia
       ·rename_i v u a;cases b;obtain⟨K,J,q⟩:=Wj e;have L:r.length=ns.length-(p+1):=(by left);have C:p+1+n<=ns.length:=();have I:r.drop n=ns.drop (p+1+n):=by rw[<-q,L1]
        rw[I]at a;obtain⟨o,F,E⟩:=SH ns k _ _ _ a C;have B:nr z=(n,k):=by unfold nr;rw[w];rfl
        have m:CV ((z::r.take n)::v)=ao:=x _ (_);have M:k<=2:=by have:=m5 (WG m).2;rw[o,ix]at this;exact this
        have j:eY ns (p+1+n) k<=ns.length:=by
         cases k with|zero=>exact C|succ k=>exact(E.a k (_)).2.2
        rw[F]at l;have i:=D (eY ns (p+1+n) k) (vg s z (r.take n) v).1 d l j λc b=>x c<|cO _ b;have A:(sJ.a z).1=n:=by show(nr z).1=n;rw[B]
        have y:(sJ.a z).2=k:=by show(nr z).2=k;rw[B]
        have g:= @sF.a1 ja sJ ns p s z (Zt<|Zv Nn (vg s z (r.take n) v).1 d) d.length K J ∅ (by left) ∅ (by rw[A,y,q,<-o];exact m) (by rw[A,y,q,<-o];exact i);rw[A,y,q,<-o]at g;exact g
def adO(c:af (af ah)):Hm c=c:=by
 rcases c with _|⟨_|⟨n|n,t⟩,r⟩;rfl;rfl;rotate_left;rfl
 iterate 21 (rcases n with _|n;rotate_left)
 rfl
 all_goals (iterate 5 (all_goals try (rcases t with _|⟨_,t⟩<;>try rfl)));iterate 3 (all_goals try (rcases r with _|⟨_,r⟩<;>try rfl))
def Ty(h:Nu l=ao):∃k,k<=100/\sF sJ l 0 vY (Nv l) k:=by
 unfold Nu at h;unfold Nv;unfold PyVbbcao.calls at*;cases a:Oe Dh l.length l with
 |none=>rw[a]at h;cases h
 |some d=>
  rw[a]at h;have b:d.map Hm=d:=by rw[show Hm=id from GH adO,Ow]
  dsimp only at h ⊢;rw[b]at h ⊢;simp only[PyFlat.atMost,K4,qH,CB]at h;exact(d.length,h.1,Yy l l.length 0 vY d a (mW _)<|λc a=>mw.mp h.2.1 c a)
section
variable{K:aZ}
def AT(y:ax):eT (y,[],[],[],[]) vY:=(((mW _,mW _,λ_ h=>(nomatch h),aa,DH,λ_ h=>(nomatch h),λ_ h=>(nomatch h),aI.a0 (n:=1) (show aI 1 1 from aI.a2) ⋯),DH),aa,λ_ h=>(nomatch h),⟨λv h=>bG h<|ZD v⟩,λ_ h=>(nomatch h),λ_ h=>(nomatch h),.inl λ_ h=>(nomatch h))
def B2(h:ee k l r):k<=20:=by induction h<;>exact wx aa
def adW(F:wI K "answers" "answers" (aK 124) f0 fd0)(D:cq K b e)(C:qE P w K b "ANSWERERS" va)(B:qE P w K b "HOW_MANY_NUMBERS" vn)(A:qE P w K b "HOW_MANY_ROWS" vr)(E:∀k:ag,k<=20->eR va (k:ah)=b (Bg (k:ah)))
  (hn:∀c r,cy (.d 0) r->cy (.d ((nr c).1:ag)) ((eR vn c).getD r))(t:∀c r,cy (.d 0) r->cy (.d ((nr c).2:ag)) ((eR vr c).getD r)):
  gR P w K b d kb 49 f0 fd0 ["calls"] (Bj K sJ vY):=by
 refine m9 sJ vY eT (Dm:=Cy) (R:=Gx) D.T F (Fs D) (Z9 D.v C Bg λc a h=>(rt D c a h,?_)) (K9 D) B A hn t AT λn s c m l o i=>?_;obtain⟨_,v,j⟩:=h;obtain⟨k,rfl⟩:=En v;refine E k ?_;obtain⟨y,g,f⟩:=a;have j:ee k g f:=j;exact B2 j;obtain⟨q,p⟩:=WG i;exact(((s,o),q,p),λx z u _=>u s o)
end
def It{K:aZ}(i:yK H)(g:l.length<=100000)(c:Nu l=ao)(f:xs=[.c ar])(n:dX K H ar (l.map aH.d)):
  Bj K sJ vY xs H (λv d=>ot K d v<|.list<|(Nv l).map NU) E:=by
 obtain⟨k,h,a⟩:=Ty c;refine(ar,l,_,k,f,λb o e=>?_,n,g,h,a,λv m d s r=>?_);rcases i b with q|⟨j,u,q⟩;nofun;rw[q]at e;cases e;rfl;cases r using W2 with|a0 q r=>have:=r.a7;subst this;exact .a0 (dX.of<|s _ _ q)<|Qe _
section
variable{P:cn}{w:bS}{K:aZ}{h:bT}{b:aC->aJ aB}
def o8{e:du}{m g i d j:aB}(X:K.In h)(G:h.Ns iA b)(a:tj K iA x=ai (ai<|.ref f))
  (l:K.lookup f=ai (oc,od,.func<|nX x x (pw e) (iQ e) (bf e) .none m g i an d j,osl))(c:Dj K d x=ao)(k:mr K (.ref f)=ao):cu K b x e:=
 (f,_,Qb l c k,Aj X G a)
def BQ{e:du}{r g j d o:aB}(X:K.In h)(G:h.Ns iA b)(a:tj K iA x=ai (ai<|.ref C))
  (i:pZ K (.ref C) "__init__"=ai (ai<|.ref f))(l:K.lookup f=ai (oc,od,.func<|nX "__init__" q (pw e) (iQ e) (bf e) .none r g j an d o,osl))(c:Dj K d q=ao)(k:mr K (.ref f)=ao)
  (m:NQ K C=ao)(n:NS K (.ref f)=ao)(p:mr K (.ref C)=ao):xK K b x q e C:=
 (f,_,Qb l c k,Aj X G a,(m,i,n,p))
def Ck(pg:HC K C YR=ao)(g:HD K C=ao)(c:NO K C=ao)(a:pZ K (.ref C) "__setattr__"=ai (ai<|.builtin "object.__setattr__"))(e:∀f∈ns,sb K C f)(d:ns.Nodup|>2):jS K C ns:=((pg,g,c,a),e,d)
def jI(h:pZ K (.ref C) f=ai aq)(r:∀f∈ns,sb K C f):∀g∈f::ns,sb K C g:=λg a=>by rcases fq.mp a with rfl|a;exact h;symm
def BF:∀g∈([]:af aC),sb K C g:=λ_ h=>nomatch h
def me(X:K.In h)(G:h.Ns iA b)(a:tj K iA x=ai (ai<|.int i t)):∃t,b x=ai (.int i t):=(t,Aj X G a)
def Dp(X:K.In h)(G:h.Ns iA b)(e:tj K iA "KIND_WORDS"=ai (ai<|.ref a))(l:K.lookup a=ai (.type "tuple",od,.seq (List.toArray [.str "pipe" t1,.str "valve" t2,.str "pump" t3]) n,sl)):Cs K b:=(a,_,_,n,Aj X G e,l,aa,aa,by show 3<=dG;decide,.cons (t1,aa)<|.cons (t2,aa)<|.cons (t3,aa) .nil)
def VY(e:Dw):aJ (ah×aB):=match e.key with
 |.int k _=>if e.hash=Yz k then ai (k,e.val)else aq
 |_=>aq
def Ge:af Dw->aJ (af<|ah×aB)
 |[]=>ai []|e::a=>match VY e,Ge a with|some q,ai r=>ai (q::r)|_,_=>aq
def VW:∀{es:af Dw} {a:af (ah×aB)},Ge es=ai a->Pairs (tf P w) es a/\∀e∈es,∃k,(tf P w).is k e.key=ao/\e.hash=(tf P w).hash k
 |[],a,h=>by cases h;exact(.nil,λ_ h=>nomatch h)
 |e::es,a,h=>by
  unfold Ge at h;split at h;rename_i q r c l;cases h;obtain⟨g,m⟩:=VW (es:=es) l;unfold VY at c;split at c;rename_i k t i;split at c;rename_i j;cases c;have f:(tf P w).is k e.key=ao:=by rw[i];exact intKind_is _ _ _ _
  refine(.cons f aa g,λx d=>?_);rcases fq.mp d with rfl|d;exact(k,f,j);symm;nofun;nofun;nofun
def Lb(X:K.In h)(G:h.Ns iA b)(e:tj K iA x=ai (ai<|.ref a))(l:K.lookup a=ai (.type "dict",aq,.dict es ep,#[]))(f:(a==qS)=aw)(d:Ge es.toList=ai vs)(c:(vs.map (·.1)).Nodup):qE P w K b x vs:=by obtain⟨j,i⟩:=VW (P:=P) (w:=w) d;exact(a,_,Aj X G e,l,f,es,ep,(aa,aa,aa),aa,λe g=>i e<|O0.mpr g,j,c)
end
def RE{g:ah->ag}(f:∀q∈vs,∃t,q.2=.int (g q.1:ag) t)(i:∀c,c∉vs.map (·.1)->g c=0)(c:ah)(r:aB)(h:cy (.d 0) r):cy (.d (g c:ag)) ((eR vs c).getD r):=by
 unfold eR;cases e:vs.find? (λb=>aT<|b.1=c)with
 |none=>left|some q=>have j:=ZT e;have a:=List.find?_some e;have a:q.1=c:=∅;obtain⟨t,d⟩:=f q j;show cy _ q.2;rw[d,a];exact(t,aa)
def TL(c:ah)(h:c∉([3,4,10,13,14,15,19,20]:af ah)):(nr c).1=0:=by by_cases u:c=0;rw[u];rfl;by_cases t:c=1;rw[t];rfl;by_cases n:c=2;rw[n];rfl;by_cases w:c=3;grind;by_cases v:c=4;grind;by_cases l:c=5;rw[l];rfl;by_cases k:c=6;rw[k];rfl;by_cases j:c=7;rw[j];rfl;by_cases i:c=8;rw[i];rfl;by_cases g:c=9;rw[g];rfl;by_cases s:c=10;grind;by_cases f:c=11;rw[f];rfl;by_cases e:c=12;rw[e];rfl;by_cases r:c=13;grind;by_cases q:c=14;grind;by_cases p:c=15;nofun;by_cases d:c=16;rw[d];rfl;by_cases b:c=17;rw[b];rfl;by_cases a:c=18;rw[a];rfl;by_cases o:c=19;nofun;by_cases m:c=20;nofun;unfold nr Dh;nofun
def Ix(c:ah)(h:c∉([0,1,8,9,11,12]:af ah)):(nr c).2=0:=by by_cases w:c=0;grind;by_cases v:c=1;grind;by_cases q:c=2;rw[q];rfl;by_cases p:c=3;rw[p];rfl;by_cases o:c=4;rw[o];rfl;by_cases n:c=5;rw[n];rfl;by_cases m:c=6;rw[m];rfl;by_cases l:c=7;rw[l];rfl;by_cases u:c=8;grind;by_cases t:c=9;grind;by_cases k:c=10;rw[k];rfl;by_cases s:c=11;nofun;by_cases r:c=12;nofun;by_cases j:c=13;rw[j];rfl;by_cases i:c=14;rw[i];rfl;by_cases g:c=15;rw[g];rfl;by_cases f:c=16;rw[f];rfl;by_cases e:c=17;rw[e];rfl;by_cases d:c=18;rw[d];rfl;by_cases b:c=19;rw[b];rfl;by_cases a:c=20;rw[a];rfl;unfold nr Dh;nofun
def FB(c:ah)(r:aB)(a:cy (.d 0) r):cy (.d ((nr c).1:ag)) ((eR ([(3,.int 3 t1),(4,.int 3 t2),(10,.int 2 t3),(13,.int 4 t4),(14,.int 2 t5),(15,.int 1 t6),(19,.int 1 t7),(20,.int 3 t8)]:af (ah×aB)) c).getD r):=by refine RE (vs:=[(3,.int 3 t1),(4,.int 3 t2),(10,.int 2 t3),(13,.int 4 t4),(14,.int 2 t5),(15,.int 1 t6),(19,.int 1 t7),(20,.int 3 t8)]) (g:=λc=>(nr c).1) (λq b=>?_) TL c r a;simp only[fq,ZP,or_false]at b;rcases b with rfl|rfl|rfl|rfl|rfl|rfl|rfl|rfl<;>exact(_,aa)
def Fx(c:ah)(r:aB)(a:cy (.d 0) r):cy (.d ((nr c).2:ag)) ((eR ([(0,.int 1 t1),(1,.int 1 t2),(8,.int 2 t3),(9,.int 1 t4),(11,.int 1 t5),(12,.int 1 t6)]:af (ah×aB)) c).getD r):=by refine RE (vs:=[(0,.int 1 t1),(1,.int 1 t2),(8,.int 2 t3),(9,.int 1 t4),(11,.int 1 t5),(12,.int 1 t6)]) (g:=λc=>(nr c).2) (λq b=>?_) Ix c r a;simp only[fq,ZP,or_false]at b;rcases b with rfl|rfl|rfl|rfl|rfl|rfl<;>exact(_,aa)
def U7{K:aZ}(d:mg "answers"=ai (.ref fa))
  (aRow:tj K iA "Row"=ai (ai<|.ref cRow))(t:tj K iA "Edge"=ai (ai<|.ref cEdge))(x:tj K iA "Network"=ai (ai<|.ref cNet))(v:tj K iA "Setting"=ai (ai<|.ref cSet))(u:tj K iA "Stream"=ai (ai<|.ref cStr))
  (D:cq K mg (cRow,cEdge,cNet,cSet,cStr))(A:qE P w K mg "ANSWERERS" va)(z:qE P w K mg "HOW_MANY_NUMBERS" [(3,.int 3 t1),(4,.int 3 t2),(10,.int 2 t3),(13,.int 4 t4),(14,.int 2 t5),(15,.int 1 t6),(19,.int 1 t7),(20,.int 3 t8)])(y:qE P w K mg "HOW_MANY_ROWS" [(0,.int 1 u1),(1,.int 1 u2),(8,.int 2 u3),(9,.int 1 u4),(11,.int 1 u5),(12,.int 1 u6)])
  (ha:∀k:ag,k<=20->eR va (k:ah)=mg (Bg (k:ah))):
  ∃c:jY,(∀(s:ba) (b:af aB),b.length=(["calls"]:af aC).length->yk s c (b,[]) ((["calls"]:af aC).zip b))/\∀a:bT,K.In a->a.Ns iA mg->gR P w K mg a kb 49 fa c ["calls"] (Bj K sJ vY):=by
 obtain⟨f,c,F,e⟩:=D.f.a;rw[d]at e;cases e;refine(c,λs b h=>?_,λa _ _=>adW F D A z y ha FB Fx);obtain⟨o,n,B,j,m,r,l,q,g,rfl,p,i⟩:=F.ex;obtain⟨_,rfl⟩:=List.length_eq_one_iff.mp h;exact .of_eq aa
def mt{a:aC->aJ aB}(y:eR va 0=a "answer_net")(x:eR va 1=a "answer_read")(w:eR va 2=a "answer_print")(v:eR va 3=a "answer_opens")(u:eR va 4=a "answer_head")(t:eR va 5=a "answer_flows")(s:eR va 6=a "answer_pressures")(r:eR va 7=a "answer_work")(q:eR va 8=a "answer_check")(p:eR va 9=a "answer_energy")(n:eR va 10=a "answer_across")(m:eR va 11=a "answer_least")(l:eR va 12=a "answer_throttle")(j:eR va 13=a "answer_loss")(i:eR va 14=a "answer_boiler")(g:eR va 15=a "answer_unboil")(f:eR va 16=a "answer_warmth")(e:eR va 17=a "answer_heat")(d:eR va 18=a "answer_groups")(c:eR va 19=a "answer_edge")(b:eR va 20=a "answer_more"):∀k:ag,k<=20->eR va (k:ah)=a (Bg (k:ah)):=λk o=>match k,o with|0,_=>y|1,_=>x|2,_=>w|3,_=>v|4,_=>u|5,_=>t|6,_=>s|7,_=>r|8,_=>q|9,_=>p|10,_=>n|11,_=>m|12,_=>l|13,_=>j|14,_=>i|15,_=>g|16,_=>f|17,_=>e|18,_=>d|19,_=>c|20,_=>b|k+21,h=>bG h ∅
end Zz
open Zz PySem.W
theorem PySem.Challenge.cw_waterloops_s01_answers_holds : PySem.Challenge.rw_waterloops_s01_answers.Holds := by
 have ws:=Ws9;w_on;k_headS;(case hw=>exact ⟨[.list [.int 2]],by decide+kernel,by decide+kernel⟩)
 k_fillS
 refine aam (r:=rw_waterloops_s01_answers) (k:=49) (CX:=kb) (ps:=["calls"]) (D:=λK=>Bj K sJ vY) Ws9 aa aa aa aa ⟨aa,by decide,by decide⟩ (λ_ _=>kIn_of) ?F ?S (λ_ _ _ _ z=>z)
 ·intro _ _ _ _ _ X G h
  refine' U7 h ?a ?b ?c ?d ?e ?D ?i ?j ?k ?l
  (case a|b|c|d|e=>k_is)
  (case i|j|k=>apply Lb X G<;>first|k_is|rfl|decide)
  (case l=>apply Zz.mt<;>exact(Aj X G (by k_is)).symm)
  constructor
  ·constructor
   iterate 5 refine Ck ?_ ?_ ?_ ?_ ?_<;>repeat' first|exact BF|refine jI ?_ ?_|k_is
   iterate 30 first|exact me X G (by k_is)|exact pY X G (by k_is)
  ·apply Dp X G<;>k_is
  all_goals first|(apply o8 X G<;>k_is)|(apply BQ X G<;>k_is)
 ·intro K H xs a hO hwi hask hx;cases hx with|a h1 h2=>cases h2;cases h1 with|a0 hs ha=>cases PZ a.1 _ ha;exact It hO (fx (Codec.inNat_iff.mp (Xg.mp (Xg.mp hwi).1).1).2 (by decide)) hask aa hs
