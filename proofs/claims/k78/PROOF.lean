import PyProof.Rows.All
import Wide.All
import OpenK.AllK
import Wide.FinOn
import Lean
import PyProof.EqAt
import PyProof.EqKinds
import PyProof.TupleCall
import PySem.Challenge.RW_pollproof_k78_two_hands_exactly
open List
set_option Elab.async false
set_option linter.all false
set_option compiler.extract_closed false
set_option maxRecDepth 100000
open _root_ renaming Array->AL,Array.forIn_toList->JM,Array.getD->Hn,Array.getD_eq_getD_getElem?->V2,Array.getElem?_eq_getElem->V3,Array.getElem?_eq_none->V4,Array.length_toList->Ec,Array.mk->Ir,Array.toList_map->Os,Bool->AI,Bool.and_eq_true->Gb,Bool.and_false->Ot,Bool.eq_iff_iff->Ho,Bool.false->Aq,Bool.false_and->Iu,Bool.false_eq_true->CY,Bool.false_ne_true->Bl,Bool.false_or->Ou,Bool.not_true->Iv,Bool.or_false->Ov,Bool.true->Af,Bool.true_or->Ow,DecidableEq->F6,False->BA,False.elim->Ex,ForInStep.yield->F7,Int->Ab,Int.add_assoc->VM,Int.add_mul->LF,Int.add_zero->GD,Int.dvd_trans->O2,Int.ediv_le_self->VN,Int.ediv_nonneg->O3,Int.eq_ofNat_of_zero_le->F8,Int.fdiv_eq_ediv_of_nonneg->DH,Int.fmod_eq_emod_of_nonneg->VO,Int.gcd->Cw,Int.gcd_dvd_left->VP,Int.gcd_dvd_right->LG,Int.gcd_pos_of_ne_zero_left->O4,Int.gcd_pos_of_ne_zero_right->VQ,Int.le_of_eq->LH,Int.le_of_lt->BH,Int.le_of_mul_le_mul_right->LI,Int.le_refl->Dy,Int.lt_of_le_of_lt->VR,Int.lt_trans->O5,Int.mul_assoc->LJ,Int.mul_comm->GE,Int.mul_ediv_cancel_left->LK,Int.mul_fdiv_cancel_left->LL,Int.mul_le_mul_of_nonneg_left->JQ,Int.mul_le_mul_of_nonneg_right->GF,Int.mul_neg_of_neg_of_pos->O6,Int.mul_neg_of_pos_of_neg->VS,Int.mul_nonneg->Gd,Int.mul_nonpos_of_nonneg_of_nonpos->VT,Int.mul_one->EF,Int.mul_pos->D1,Int.mul_zero->O7,Int.natAbs_mul->VU,Int.natAbs_natCast->Ge,Int.natCast_nonneg->IC,Int.ne_of_gt->E_,Int.one_mul->LM,Int.pow_pos->ID,Int.pow_succ->O8,Int.toNat_natCast->B7,Int.toNat_of_nonneg->VV,Int.zero_add->F9,LawfulMonad.pure_bind->MD,Lean.mkIdent->D5,List->Ac,List.Pairwise.nil->LO,List.Perm.map->VW,List.Perm.refl->Hs,all_cons->VX,all_eq_true->O9,any_cons->IE,any_eq_true->VY,append_assoc->Ee,append_nil->Ch,cons_append->VZ,cons_lt_cons_iff->V_,eq_of_mem_replicate->LP,exists_mem_of_ne_nil->V',ext_getElem->JU,ext_getElem?->JV,List.filterMap->Wa,filterMap_append->Wb,filterMap_cons->JW,filter_append->EG,filter_cons->Ht,filter_cons_of_neg->LQ,filter_cons_of_pos->LR,filter_nil->Wc,List.find?_cons->Ez,List.find?_some->Wd,flatMap_append->We,foldl_append->OA,foldl_cons->Fb,forIn_cons->OB,forIn_nil->LS,getD_eq_getElem?_getD->BI,List.getElem?_append_left->LU,List.getElem?_append_right->JX,List.getElem?_drop->Wf,List.getElem?_eq_getElem->Cm,List.getElem?_eq_none->FB,List.getElem?_map->Ba,List.getElem?_range->LV,List.getElem?_replicate->LW,List.getElem?_set_ne->Wg,List.getElem?_set_self->Wh,getElem_idxOf->OC,getElem_mem->LX,idxOf_lt_length_of_mem->Wi,List.length->BM,length_append->Bj,length_cons->BP,length_filterMap_le->LY,length_filter_le->EH,length_map->At,length_nil->DI,length_pos_of_mem->IF,length_range->D6,length_replicate->FC,length_set->LZ,length_singleton->L_,length_take->OD,length_take_le->FD,length_zip->GI,List.lookup->Hu,lookup_cons->FE,List.lt_irrefl->OE,List.lt_trans->Wj,List.map->FF,mapM_cons->Wk,mapM_nil->Wl,mapM_toArray->Wm,map_append->AK,map_congr_left->E1,map_cons->Bg,map_map->Bf,map_nil->IG,map_replicate->L',map_set->JY,mem_append->Hv,mem_append_left->CB,mem_append_right->B8,mem_cons->Ef,mem_cons_of_mem->Bc,mem_cons_self->AV,mem_of_find?_eq_some->OF,mem_of_getElem?->Bt,mem_of_mem_take->Wn,mem_or_eq_of_mem_set->Mb,mem_singleton->OG,nil_append->Wo,nodup_append->Wp,nodup_cons->IH,nodup_nil->Fc,List.not_mem_nil->Bm,of_mem_zip->Fd,pairwise_iff_getElem->Mc,pairwise_map->Md,List.range->Bo,range_succ->Hw,List.replicate->Cy,replicate_succ'->Om,set_append_right->Eg,size_toArray->BJ,sum_append->Wq,sum_cons->D7,take_add_one->Dk,take_length->OH,take_of_length_le->Cn,take_succ->Me,take_zero->Ws,List.toArray->Fe,zip_cons_cons->JZ,zip_map_left->OI,zip_map_right->Mf,zip_nil_right->OJ,Nat->Ae,Nat.Coprime->II,Nat.add_assoc->Mg,Nat.div_div_eq_div_mul->Wu,Nat.div_eq_of_eq_mul_right->Wv,Nat.dvd_mul_left->Ww,Nat.eq_of_mul_eq_mul_right->Wx,Nat.gcd->DJ,Nat.gcd_dvd_right->Wy,Nat.gcd_le_right->W3,Nat.lcm->Mh,Nat.le_add_right->OK,Nat.le_of_eq->OM,Nat.le_of_lt->DK,Nat.le_refl->A1,Nat.le_succ->Dl,Nat.le_succ_of_le->W4,Nat.le_trans->BE,Nat.lt_irrefl->C',Nat.lt_of_le_of_lt->Dn,Nat.lt_of_lt_of_le->B',Nat.lt_of_succ_lt->W5,Nat.lt_succ_of_lt->ON,Nat.lt_succ_self->Mi,Nat.min_self->Mj,Nat.ne_of_gt->IJ,Nat.ne_of_lt->B1,Nat.not_lt_zero->W6,Nat.pow_le_pow_right->GJ,Nat.sub_self->EI,Nat.succ_le_succ->IK,Nat.testBit_eq_decide_div_mod_eq->W7,Nat.testBit_two_pow_add_eq->W8,Nat.zero_add->OO,Nat.zero_le->Br,Ne.symm->BF,Option->A5,Option.isSome_map->OP,Option.isSome_some->WD,Option.map_some->GK,Option.none->Ai,Option.some->Aa,Option.some.inj->Bn,Option.some.injEq->WE,Or.inl->B2,Or.inr->IL,Prod.ext->FG,Prod.fst->Kb,Prod.mk.inj->Kc,Prod.snd->OR,PyProof.Rows.AllBare->Ga,PyProof.Rows.IntsAre->C_,PyProof.Rows.KeyOrd.kle_of_klt->LN,PyProof.Rows.KeyOrd.kle_refl->FA,PyProof.Rows.KeyOrd.kle_trans->GG,PyProof.Rows.boot_abs->Mp,PyProof.Rows.boot_bool->WG,PyProof.Rows.boot_int->WH,PyProof.Rows.boot_isinstance->Hy,PyProof.Rows.boot_list->GM,PyProof.Rows.boot_max->Mq,PyProof.Rows.boot_min->OS,PyProof.Rows.boot_sorted->Mr,PyProof.Rows.boot_sum->Ms,PyProof.Rows.callWith_type1->Mt,PyProof.Rows.entry_list_sort->M7,PyProof.Rows.entry_sorted->M8,PyProof.Rows.kind_sorted->M9,PyProof.Rows.listItems_at->MB,PyProof.Rows.listUpdate_at->HK,PyProof.Rows.plain_sorted->MC,PyProof.Rows.seqEpoch_at->Kn,PyProof.Rows.slot_list_sort->MF,PySem.Addr->Ad,PySem.Arguments->Hm,PySem.Around->AR,PySem.Around.frames_deeper->V1,PySem.Around.under->Oq,PySem.Around.under_plainId->JL,PySem.AutoSeq1.sub_tuple_tuple->V5,PySem.BindsTo->GB,PySem.Builtin->CZ,PySem.Builtin.Builtins.bindParams->V6,PySem.Builtin.Dict.keyAndDefault->V7,PySem.Builtin.Dict.noArgs->V8,PySem.Builtin.Dict.showsAll->Iw,PySem.Builtin.Dict.takeOut->V9,PySem.Builtin.Dict_items.ownsTuple->JN,PySem.Builtin.Int.intBits->Ed,PySem.Builtin.List.listTooLong->Ox,PySem.Builtin.Tuple.tupleHashOf->Iy,PySem.Builtin.bitAnd->CJ,PySem.Builtin.bitNot->Oy,PySem.Builtin.bitOr->Iz,PySem.Calls.Name_function_global->VA,PySem.Calls.callWith_builtin->JO,PySem.Calls.call_function_entry->VB,PySem.Calls.evalArgs_plain->L5,PySem.Calls.spliced_cons->F5,PySem.Calls.spliced_nil->GC,PySem.Code.isFrame->Oz,PySem.Data.cell->I0,PySem.Data.fields->L6,PySem.DictEntry->DG,PySem.Env->BC,PySem.Expr->A4,PySem.F.args_dict_get_3->WI,PySem.F.args_dict_keyiterator_next_1->VC,PySem.F.args_dict_valueiterator_next_1->VE,PySem.F.args_tuple_lt_2->WJ,PySem.F.entry_dict_get->WK,PySem.F.entry_dict_keyiterator_next->VF,PySem.F.entry_dict_valueiterator_next->VG,PySem.F.entry_min_loop->O0,PySem.F.entry_tuple_lt->WL,PySem.F.plainAttrs_dict->Ke,PySem.F.plainAttrs_list->CP,PySem.F.plain_list_iadd->WN,PySem.F.plain_min_loop->Hq,PySem.F.slot_dict_get->OT,PySem.F.slot_dict_iter->VH,PySem.F.slot_dict_keyiterator_next->L8,PySem.F.slot_dict_pop->WO,PySem.F.slot_dict_setdefault->WP,PySem.F.slot_dict_valueiterator_next->L9,PySem.F.slot_dict_values_iter->VI,PySem.F.slot_list_append->EJ,PySem.F.slot_list_extend->Mu,PySem.F.slot_list_index->OU,PySem.F.slot_list_pop->WQ,PySem.F.slot_tuple_hash->VL,PySem.F.slot_tuple_lt->OV,PySem.F.type_list_index->WR,PySem.F.type_list_pop->WS,PySem.Fin->OW,PySem.FuncData->AE,PySem.GenState->JP,PySem.Heap->AD,PySem.Heap.SameBut->Ey,PySem.Heap.SameBut.refl->LA,PySem.Heap.SameBut.update->IA,PySem.Heap.get?_push_ne->LC,PySem.Heap.get?_push_of_some->Bv,PySem.Heap.get?_push_size->BD,PySem.Heap.get?_update_other->Gc,PySem.Heap.get?_update_self->Hr,PySem.Heap.lt_size->A_,PySem.Heap.size_push->IB,PySem.Heap.size_update->LD,PySem.IsL.update->WT,PySem.Keyword->GH,PySem.Model->Ff,PySem.NameKind->Gf,PySem.NameKind.cell->Hx,PySem.NameKind.free->Gg,PySem.Obj->A2,PySem.Obj.cls_mapFields->W9,PySem.Obj.data_mapDictKeys->Ml,PySem.Obj.data_mapFields->Mn,PySem.Obj.isFreed_of_dict->WA,PySem.Obj.isFreed_of_fields->WB,PySem.Obj.mapFields->Mo,PySem.Obj.mapSeq->Co,PySem.OsState->Eh,PySem.Paired->Cq,PySem.Paired.length->GL,PySem.Paired.snoc->OQ,PySem.Params->Ka,PySem.PassesOwn.never->Ci,PySem.Program->A9,PySem.PyData->Ca,PySem.PyData.canLayAll0->IM,PySem.PyData.depthAll->IN,PySem.PyData.eqv->FH,PySem.PyData.eqvAll->Kd,PySem.Result->IQ,PySem.Scope->Bu,PySem.Sem->CQ,PySem.SeqAt.EqAt->M4,PySem.SeqAt.EqAt.int_int->Pl,PySem.SeqAt.EqAt.int_str->Xg,PySem.SeqAt.EqAt.str_int->Xh,PySem.SeqAt.shaped->Gj,PySem.Shared->Aj,PySem.Stmt->AC,PySem.Str->Ak,PySem.Str.ofString->A0,PySem.Tok->Do,PySem.Value->Ah,PySem.Value.bool->C0,PySem.Value.float->Pm,PySem.Value.int->GT,PySem.Value.none->BQ,PySem.Value.ref->AO,PySem.Value.str->IR,PySem.Value.type->Dp,PySem.W.Frag->A8,PySem.W.KasT.kasWp_bind->JS,PySem.W.OpenLaw->OX,PySem.W.OpenRow.toRowW->J_,PySem.W.RowW.records->Kg,PySem.W.SharedT->GR,PySem.W.WalkO->WU,PySem.W.boot_drawn->IS,PySem.W.boot_heap->BX,PySem.W.boot_toks->IT,PySem.W.callWith_K->Mv,PySem.W.cellsFrom_some->WV,PySem.W.codeIn->Kf,PySem.W.emptyDict->Gh,PySem.W.findIn->Fg,PySem.W.fnOf->GN,PySem.W.handedIn->WW,PySem.W.hasDictIn->OY,PySem.W.instObj->GO,PySem.W.isFn->OZ,PySem.W.kas_rev->IU,PySem.W.keepIn->GP,PySem.W.kia_one->Fh,PySem.W.kitMeta->Mw,PySem.W.kitOne->Hz,PySem.W.kitx_dict->WX,PySem.W.kitx_list->WY,PySem.W.lookIn->Mx,PySem.W.makesIn->WZ,PySem.W.methodCall_KW->O_,PySem.W.methodObj->Pa,PySem.W.mroIn->W_,PySem.W.plainGet->My,PySem.W.plainGet_of->Pb,PySem.W.plainOver->Xa,PySem.W.specialIn->Pc,PySem.W.takerIn->Pd,PySem.W.takesIn->Xb,PySem.Walks.list->Pn,PySem.Within->Pe,PySem.World->A3,PySem.binaryOp->E3,PySem.boot_len->Gi,PySem.call->Pf,PySem.call_meets->Ki,PySem.call_meetsIn->M6,PySem.codeAny_builtin->Kj,PySem.codeAny_mono->HJ,PySem.compareOp->Cj,PySem.fastBuiltinMro->M3,PySem.foldedSetIterable->E4,PySem.importedModules->Db,PySem.isSubtype_tuple_tuple->Pr,PySem.mainGlobals->Dc,PySem.mem_of_lookup->E2,PySem.model->A6,PySem.plainId_quiet->Km,PySem.seqIndex_neg->Pu,PySem.seqIndex_of->Pw,PySem.sizeLine->AB,PySem.sizeLine_eq->CC,PySem.size_of_entries->ME,PySem.starEach->Bh,PySem.storedH_new->Px,PySem.sysModules->Cr,PySem.tupleKind_room_in1->Ko,PySem.wpAny->Au,PySem.wpAny_Assign_Subscript->Xx,PySem.wpAny_Call_Name_kw->GU,PySem.wpAny_Call_method->Py,PySem.wpAny_Dict_empty->Pz,PySem.wpAny_Name->P0,PySem.wpAny_assign_Name->Xy,PySem.wpAny_attempt->Kp,PySem.wpAny_bind->An,PySem.wpAny_call->P1,PySem.wpAny_callSpecial?_slot->MG,PySem.wpAny_call_entry->EK,PySem.wpAny_comprehension_free->X0,PySem.wpAny_dictEntries->Gn,PySem.wpAny_dictEpoch->IV,PySem.wpAny_dictFind_heap->X1,PySem.wpAny_eqBool_int->X2,PySem.wpAny_execs_cons->X3,PySem.wpAny_execs_nil->MH,PySem.wpAny_fieldsOf->IW,PySem.wpAny_forIn_list->Kq,PySem.wpAny_getItem_heap->X4,PySem.wpAny_holding->Dq,PySem.wpAny_isInstance->Kr,PySem.wpAny_isOneOf_keyiter->X6,PySem.wpAny_isOneOf_valiter->MI,PySem.wpAny_letGo->IX,PySem.wpAny_load->P2,PySem.wpAny_loadPart'->L4,PySem.wpAny_mono->DM,PySem.wpAny_newFunctionEnv->X7,PySem.wpAny_newList->IY,PySem.wpAny_newObj_type->Fi,PySem.wpAny_notOrdered_dict->Ks,PySem.wpAny_of_eq->MJ,PySem.wpAny_passesOwn->HM,PySem.wpAny_pure->Ay,PySem.wpAny_pyIter_enum->X9,PySem.wpAny_pyIter_list->MK,PySem.wpAny_pyIter_slot->XA,PySem.wpAny_pyIter_zip->XB,PySem.wpAny_rule->IZ,PySem.wpAny_seqItems->Kt,PySem.wpAny_setField->ML,PySem.wpAny_setItem_heap->XC,PySem.wpAny_specialOf->Ku,PySem.wpAny_standAt->MM,PySem.wpAny_truthy_bool->FI,PySem.wpAny_tryCatch->MN,PySem.wpAny_tupleItemsOf->P3,PySem.wpAny_typeNameOfWhole_keyiter->MO,PySem.wpAny_typeNameOfWhole_valiter->MP,PySem.wpAny_typeNameOf_keyiter->MQ,PySem.wpAny_typeNameOf_valiter->MR,PySem.wpAny_updateDictKeys->XD,PySem.wpAny_updateSeq->P4,Rat->Ap,Rat.divInt_eq_div->Pg,Rat.div_def->Ph,Rat.div_mul_cancel->Xc,Rat.intCast_add->GQ,Rat.intCast_mul->Cb,Rat.intCast_sub->Pi,Rat.le_iff->Pj,Rat.le_of_lt->IP,Rat.le_refl->DL,Rat.le_total->Pk,Rat.mul_le_mul_of_nonneg_left->Xd,Rat.mul_le_mul_of_nonneg_right->Xe,Rat.mul_nonneg->HG,Rat.num_divInt_den->Xf,StateT.run_pure->Xi,String->DX,Sum.inl->AH,Sum.inl.inj->GS,Sum.inr->HH,True->HI,True.intro->Da,absurd->Aw,beq_self_eq_true->Kh,bne_self_eq_false->Pp,congrArg->Bx,decide_eq_false->AS,decide_eq_false_iff_not->Kk,decide_eq_true->AT,decide_eq_true_eq->Gk,if_false->C6,if_neg->Ao,if_pos->Ar,if_true->Kl,map_eq_pure_bind->Xp,of_decide_eq_false->HL,of_decide_eq_true->CK,or_false->Gm
namespace Head
open PySem PySem.W PyProof.Rows
def G8 (p:A9) (w:A3) (n0:Ae) (ann:A5 Ah):Ae->GR->Thread->A5 GR
 | 0,_,_=>Ai
 | n+1,s,t=>match through t with
   | true=>Aa s
   | false=>match stepOk n0 ann t with
     | false=>Ai
     | true=>match stepT (denote treeTable) p w s t with
       | some (s',t')=>G8 p w n0 ann n s' t'
       | none=>Ai
theorem S2 {p:A9} {w:A3} {n0:Ae} {ann:A5 Ah}:∀{n:Ae} {s s':GR} {t:Thread},G8 p w n0 ann n s t=Aa s'->topRun treeTable p w n0 ann n s.abs t=Aa s'.abs
 | 0,_,_,_,h=>by cases h
 | n+1,s,s',t,h=>by
   unfold G8 at h;unfold topRun
   cases he:through t with
   | true=>rw [he] at h;cases h;rfl
   | false =>
     rw [he] at h
     cases hk:stepOk n0 ann t with
     | false=>rw [hk] at h;cases h
     | true =>
       rw [hk] at h
       cases hs:stepT (denote treeTable) p w s t with
       | none=>rw [hs] at h;cases h
       | some r=>obtain ⟨s2,t2⟩:=r;rw [hs] at h;rw [stepT_spec hs];exact S2 h
def FO:Ac A2->Ae->BT->A5 BT
 | [],_,t=>Aa t
 | o :: os,n,t=>match ((t.ins n o).get n).isSome with
   | true=>FO os (n+1) (t.ins n o)
   | false=>Ai
theorem Q4 {life:Life}:∀{os:Ac A2} {n:Ae} {t t':BT} {xs:Ac A2},(absHeap t n life)=⟨xs.toArray,life⟩->FO os n t=Aa t'->absHeap t' (n+os.length) life=⟨(xs++os).toArray,life⟩
 | [],n,t,t',xs,a,h=>by
   cases h
   rw [Ch];exact a
 | o :: os,n,t,t',xs,a,h=>by
   unfold FO at h
   cases g:((t.ins n o).get n).isSome with
   | false=>rw [g] at h;cases h
   | true =>
     rw [g] at h
     have b:absHeap (t.ins n o) (n+1) life=⟨(xs++[o]).toArray,life⟩:=by
      rw [absHeap_ins g,a];show (⟨xs.toArray.push o,life⟩:AD)=_;rw [push_toArray]
     have c:=Q4 b h;rw [Ee] at c;rw [BP,show n+(os.length+1)=n+1+os.length by omega];exact c
theorem YX {H:AD} {T:BT} (h:FO H.objs.toList 0 .nil=Aa T):absHeap T H.objs.size H.life=H:=by
 have c:=Q4 (life:=H.life) (n:=0) (t:=.nil) (xs:=[]) rfl h;rw [OO,Ec] at c;rw [c];obtain ⟨a,l⟩:=H;show (⟨([]++a.toList).toArray,l⟩:AD)=⟨a,l⟩;rw [Wo,Array.toArray_toList]
theorem left {p q:A9} {loose:Ac Ak} {Xt:Aj->AI} {α:Type} {Yf:Aj->α} {Ya:A3->α} {N:Ae} {g0:AI}
 (e:opening p=plainProg p.main.scope.names) (hN:Nat.ble 600 N=Af) (f:∀s,fenceModules? p s=Aa s)
 (h:∀(w:A3) (os:Eh),((FO (BX w.params).objs.toList 0 .nil).bind fun T=>(G8 p w (BX w.params).objs.size ((BX w.params).nsMap Dc "__annotations__") N ⟨T,(BX w.params).objs.size,(BX w.params).life,Ir [],IS,IT,os⟩ (topStub p)).map fun s =>
  (((BX w.params).isNs Dc,staticsOk (Db p.main.body) (BX w.params) s.abs.heap && namesBound p s.abs.heap && gensDone s.abs && laidKept (BX w.params) s.abs.heap),openSeen q loose (Db p.main.body) Xt g0 s.abs,Yf s.abs)) =
  Aa ((Af,Af),openGood q loose,Ya w)):LeftO p q loose Xt Yf Ya N g0:=fun w=>by
 obtain ⟨⟨hp,gs,d,k,os⟩,e1,e2⟩:=Option.map_eq_some_iff.mp (boot_open e hN f w);obtain ⟨rfl,rfl,rfl,rfl⟩:hp=BX w.params/\gs=Ir []/\d=IS/\k=IT:=by simpa using e2
 have z:=h w os
 cases gT:FO (BX w.params).objs.toList 0 .nil with
 | none=>rw [gT] at z;cases z
 | some T =>
   rw [gT] at z;obtain ⟨s,r,y⟩:=Option.map_eq_some_iff.mp z;have r':=S2 r;injection y with y1 y2
   injection y1 with y3 y4
   injection y2 with y5 y6
   have a:(⟨T,(BX w.params).objs.size,(BX w.params).life,Ir [],IS,IT,os⟩:GR).abs=⟨BX w.params,Ir [],IS,IT,os⟩:=by
    unfold SharedT.abs;rw [YX gT]
   rw [a] at r';unfold openEnds;rw [e1];show (topFrom treeTable p w N _).map _=_
   have t:topFrom treeTable p w N ⟨BX w.params,Ir [],IS,IT,os⟩=Aa s.abs:=by
    unfold topFrom;dsimp only;rw [y3,r'];show (match staticsOk (Db p.main.body) (BX w.params) s.abs.heap && namesBound p s.abs.heap && gensDone s.abs && laidKept (BX w.params) s.abs.heap with | true=>_ | false=>_)=_;rw [y4]
   rw [t];exact Bx Aa (FG y5 y6)
end Head
namespace Head
open PySem PySem.W PyProof.Rows
noncomputable def R0 (p:A9) (w:A3) (N:Ae) (os:Eh):A5 GR:=(FO (BX w.params).objs.toList 0 .nil).bind fun T=>G8 p w (BX w.params).objs.size ((BX w.params).nsMap Dc "__annotations__") N ⟨T,(BX w.params).objs.size,(BX w.params).life,Ir [],IS,IT,os⟩ (topStub p)
theorem Z8 {p q:A9} {loose:Ac Ak} {Xt:Aj->AI} {α:Type} {Yf:Aj->α} {Ya:A3->α} {N:Ae} {g0:AI}
 (e:opening p=plainProg p.main.scope.names) (hN:Nat.ble 600 N=Af) (f:∀s,fenceModules? p s=Aa s)
 (h1:∀(w:A3) (os:Eh),(R0 p w N os).map (fun s=>((BX w.params).isNs Dc,staticsOk (Db p.main.body) (BX w.params) s.abs.heap && namesBound p s.abs.heap && gensDone s.abs && laidKept (BX w.params) s.abs.heap))=Aa (Af,Af))
 (h2:∀(w:A3) (os:Eh),(R0 p w N os).map (fun s=>((openSeen q loose (Db p.main.body) Xt g0 s.abs).1,(openSeen q loose (Db p.main.body) Xt g0 s.abs).2.1))=Aa ((openGood q loose).1,(openGood q loose).2.1))
 (h4:∀(w:A3) (os:Eh),(R0 p w N os).map (fun s=>(openSeen q loose (Db p.main.body) Xt g0 s.abs).2.2.1)=Aa (openGood q loose).2.2.1)
 (h5:∀(w:A3) (os:Eh),(R0 p w N os).map (fun s=>(openSeen q loose (Db p.main.body) Xt g0 s.abs).2.2.2)=Aa (openGood q loose).2.2.2)
 (h3:∀(w:A3) (os:Eh),(R0 p w N os).map (fun s=>Yf s.abs)=Aa (Ya w)):LeftO p q loose Xt Yf Ya N g0:=left e hN f fun w os=>by
 have a:=h1 w os;have b:=h2 w os;have b2:=h4 w os;have b3:=h5 w os;have c:=h3 w os;show ((FO (BX w.params).objs.toList 0 .nil).bind fun T=>(G8 _ _ _ _ _ _ _).map _)=_;obtain ⟨s,r,y⟩:=Option.map_eq_some_iff.mp a;rw [r] at b b2 b3 c;unfold R0 at r
 cases gT:FO (BX w.params).objs.toList 0 .nil with
 | none=>rw [gT] at r;cases r
 | some T =>
   rw [gT] at r;change G8 _ _ _ _ _ _ _=Aa s at r;show (G8 _ _ _ _ _ _ _).map _=_;rw [r];have b:((openSeen q loose (Db p.main.body) Xt g0 s.abs).1,(openSeen q loose (Db p.main.body) Xt g0 s.abs).2.1)=((openGood q loose).1,(openGood q loose).2.1):=Bn b;have b2:(openSeen q loose (Db p.main.body) Xt g0 s.abs).2.2.1=(openGood q loose).2.2.1:=Bn b2;have b3:(openSeen q loose (Db p.main.body) Xt g0 s.abs).2.2.2=(openGood q loose).2.2.2:=Bn b3;have c:Yf s.abs=Ya w:=Bn c;have b':openSeen q loose (Db p.main.body) Xt g0 s.abs=openGood q loose:=FG (Kc b).1 (FG (Kc b).2 (FG b2 b3));show Aa (_,openSeen q loose (Db p.main.body) Xt g0 s.abs,Yf s.abs)=_;rw [b',c];exact Bx Aa (FG y rfl)
def Jg (s:GR) (a:Ad):A5 A2:=match s.tree.get a with
 | some o=>if a < s.n then alive o else Ai
 | none=>Ai
theorem YR {s:GR} {a:Ad} {o:A2} (h:Jg s a=Aa o):s.abs.heap.get? a=Aa o:=by
 unfold Jg at h
 cases g:s.tree.get a with
 | none=>rw [g] at h;cases h
 | some o' =>
   rw [g] at h;dsimp only at h;by_cases c:a < s.n
   ·rw [Ar c] at h;exact (abs_get c g).trans h
   ·rw [Ao c] at h
    cases h
theorem Nn {s:GR}:∀{as:Ac Ad} {l:Ac (A5 A2)},(∀x∈l,x.isSome=Af)->as.map (Jg s)=l->as.map s.abs.heap.get?=l
 | [],[],_,_=>rfl
 | a :: as,x :: l,k,h=>by
   injection h with h1 h2
   obtain ⟨o,e⟩:=Option.isSome_iff_exists.mp (k x (AV ..));rw [e] at h1 ⊢;rw [Bg,YR h1,Nn (fun y m=>k y (Bc _ m)) h2]
 | [],_ :: _,_,h=>nomatch h
 | _ :: _,[],_,h=>nomatch h
theorem Aar {p:A9} {N:Ae} {K:Ka->Frag} {as ts:Ac Ad} {ea:∀P,as=(K P).map (·.1)} (h3:∀(w:A3) (os:Eh),(R0 p w N os).map (fun s=>(as.map (Jg s),ts.map (Jg s)))=Aa ((K w.params).map (fun p=>Aa p.2),ts.map fun _=>Aa (tabObj #[]))) (w:A3) (os:Eh):(R0 p w N os).map (fun s=>Hook.obs (kmHook K as ea ts) s.abs)=Aa (Hook.val (kmHook K as ea ts) w):=by
 obtain ⟨s,r,y⟩:=Option.map_eq_some_iff.mp (h3 w os);rw [r];obtain ⟨y1,y2⟩:=Kc y;refine Bx Aa (FG (Nn (fun x m=>?_) y1) (Nn (fun x m=>?_) y2))
 ·obtain ⟨_,_,rfl⟩:=mem_map.mp m;rfl
 ·obtain ⟨_,_,rfl⟩:=mem_map.mp m;rfl
end Head
namespace Head
open PySem PySem.W PyProof.Rows
abbrev q0:A9:=view PySem.Challenge.pw_pollproof_k78_two_hands_exactly [30,86]
abbrev r0:OpenRow:=OpenLaw.row PySem.Challenge.rw_pollproof_k78_two_hands_exactly
abbrev lo0:Ac Ak:=[A0 "_wall",A0 "PollError",A0 "NoNumber",A0 "NoChange",A0 "NoWay",A0 "TooHard",A0 "all_of",A0 "holds",A0 "with_one",A0 "without",A0 "size",A0 "members",A0 "is_whole",A0 "divisor",A0 "down",A0 "up",A0 "numbers_by_slip",A0 "sheet_from",A0 "ballots_in",A0 "number_of",A0 "check_row",A0 "changed",A0 "free_for",A0 "turn_of",A0 "rows_to",A0 "pairs_by_seats",A0 "Margin",A0 "lies",A0 "fraction",A0 "minus",A0 "times",A0 "parted",A0 "under",A0 "begin",A0 "even_part",A0 "table_row",A0 "table",A0 "common_bottom",A0 "weighed",A0 "tallies",A0 "share_at",A0 "part_kept",A0 "with_kept",A0 "kept_by",A0 "state_behind",A0 "MOST_OPENED",A0 "least_filling",A0 "need_of_seat",A0 "need_of_out",A0 "need",A0 "Case",A0 "first_case",A0 "state_of",A0 "case_behind",A0 "cases_behind",A0 "put_waiting",A0 "take_waiting",A0 "SeatsMargin",A0 "MOST_HANDS",A0 "MOST_SEATS",A0 "are_hands",A0 "are_seats",A0 "are_lots",A0 "Way",A0 "MOST_PLACES",A0 "Seats",A0 "_law_cell",A0 "_law_mixed",A0 "_law_lots",A0 "_law_whole",A0 "_law_slips",A0 "_law_front"]
set_option maxRecDepth 100000 in
set_option maxHeartbeats 0 in
theorem Aa7 (w:A3) (os:Eh):(R0 r0.prog w 100000 os).map (fun s=>((BX w.params).isNs Dc,staticsOk (Db r0.prog.main.body) (BX w.params) s.abs.heap && namesBound r0.prog s.abs.heap && gensDone s.abs && laidKept (BX w.params) s.abs.heap))=Aa (Af,Af):=by kernel_rfl
set_option maxRecDepth 100000 in
set_option maxHeartbeats 0 in
theorem Aa8 (w:A3) (os:Eh):(R0 r0.prog w 100000 os).map (fun s=>((openSeen q0 lo0 (Db r0.prog.main.body) (fun s=>xlAt q0 [] s && recOk (Kg (J_ r0)) s) Af s.abs).1,(openSeen q0 lo0 (Db r0.prog.main.body) (fun s=>xlAt q0 [] s && recOk (Kg (J_ r0)) s) Af s.abs).2.1))=Aa ((openGood q0 lo0).1,(openGood q0 lo0).2.1):=by kernel_rfl
set_option maxRecDepth 100000 in
set_option maxHeartbeats 0 in
theorem Aa9 (w:A3) (os:Eh):(R0 r0.prog w 100000 os).map (fun s=>(openSeen q0 lo0 (Db r0.prog.main.body) (fun s=>xlAt q0 [] s && recOk (Kg (J_ r0)) s) Af s.abs).2.2.1)=Aa (openGood q0 lo0).2.2.1:=by kernel_rfl
set_option maxRecDepth 100000 in
set_option maxHeartbeats 0 in
theorem AaA (w:A3) (os:Eh):(R0 r0.prog w 100000 os).map (fun s=>(openSeen q0 lo0 (Db r0.prog.main.body) (fun s=>xlAt q0 [] s && recOk (Kg (J_ r0)) s) Af s.abs).2.2.2)=Aa (openGood q0 lo0).2.2.2:=by kernel_rfl
local macro_rules | `(tactic| o_head $H)=>do
 let (hl,hw,hc):=(D5 `hl,D5 `hw,D5 `hc)
 `(tactic| (
   refine holds_open (r:=r0) (q:=q0) (loose:=[A0 "_wall",A0 "PollError",A0 "NoNumber",A0 "NoChange",A0 "NoWay",A0 "TooHard",A0 "all_of",A0 "holds",A0 "with_one",A0 "without",A0 "size",A0 "members",A0 "is_whole",A0 "divisor",A0 "down",A0 "up",A0 "numbers_by_slip",A0 "sheet_from",A0 "ballots_in",A0 "number_of",A0 "check_row",A0 "changed",A0 "free_for",A0 "turn_of",A0 "rows_to",A0 "pairs_by_seats",A0 "Margin",A0 "lies",A0 "fraction",A0 "minus",A0 "times",A0 "parted",A0 "under",A0 "begin",A0 "even_part",A0 "table_row",A0 "table",A0 "common_bottom",A0 "weighed",A0 "tallies",A0 "share_at",A0 "part_kept",A0 "with_kept",A0 "kept_by",A0 "state_behind",A0 "MOST_OPENED",A0 "least_filling",A0 "need_of_seat",A0 "need_of_out",A0 "need",A0 "Case",A0 "first_case",A0 "state_of",A0 "case_behind",A0 "cases_behind",A0 "put_waiting",A0 "take_waiting",A0 "SeatsMargin",A0 "MOST_HANDS",A0 "MOST_SEATS",A0 "are_hands",A0 "are_seats",A0 "are_lots",A0 "Way",A0 "MOST_PLACES",A0 "Seats",A0 "_law_cell",A0 "_law_mixed",A0 "_law_lots",A0 "_law_whole",A0 "_law_slips",A0 "_law_front"]) (N:=100000)
    (Xt:=fun s=>xlAt q0 [] s && recOk (Kg (J_ r0)) s)
    (XP:=XL q0 []) (Yf:=Hook.obs $H) (Ya:=Hook.val $H) (YP:=Hook.says $H)
    ?$hl (Hook.of $H) (Hook.keeps $H) (fun s e=>xl_of s (Bool.and_eq_true_iff.mp e).1) XL.keeps
    (by rfl) (by rfl) (by rfl) (fun s e=>recFacts_of (Bool.and_eq_true_iff.mp e).2) (by rfl) (by assumption)
    (by decide +kernel) ⟨rfl,rfl,rfl,rfl,rfl,by decide +kernel⟩ ?$hw ?$hc;
   (next=>(exact Z8 (by kernel_rfl) (by decide) (fun s=>by kernel_rfl) Aa7 Aa8 Aa9 AaA (Aar (fun w os=>by kernel_rfl))))))
set_option maxRecDepth 100000 in
set_option maxHeartbeats 0 in
open_top top for PySem.Challenge.rw_pollproof_k78_two_hands_exactly
end Head
local macro_rules | `(tactic| omega)=>`(tactic| first | lia | omega (config:={}))
namespace L2
open PySem PySem.Spec PyProof.Rows
abbrev Key:=Sum Ab Ak
def Gz:Key->Ah->AI
 | .inl k,v=>Value.isInt k v
 | .inr x,v=>Value.isStrOf x v
def Zq (w:A3):Key->Ab
 | .inl k=>hashInt k
 | .inr x=>hashStr w x
theorem ES:∀{k:Key} {v:Ah},Gz k v=Af->(∃i t,k=AH i/\v=GT i t)\/(∃x t,k=HH x/\v=IR x t)
 | .inl i,v,h=>by
   obtain ⟨t,e⟩:=Value.isInt_shape (k:=i) (v:=v) h;exact .inl ⟨i,t,rfl,e⟩
 | .inr x,v,h=>by
   obtain ⟨t,e⟩:=Value.isStrOf_shape (x:=x) (v:=v) h;exact .inr ⟨x,t,rfl,e⟩
theorem Zr (i:Ab) (t:Do):Gz (.inl i) (.int i t)=Af:=by simp [Gz,Value.isInt]
theorem Zs (x:Ak) (t:Do):Gz (.inr x) (.str x t)=Af:=by simp [Gz,Value.isStrOf]
theorem Zt (a b:Ab):decide ((AH a:Key)=AH b)=(a == b):=by
 by_cases e:a=b
 ·subst e;simp
 ·have h:¬ (AH a:Key)=AH b:=fun q=>e (GS q);rw [AS h];exact (beq_eq_false_iff_ne.mpr e).symm
theorem Zw (a b:Ak):decide ((HH a:Key)=HH b)=decide (a=b):=by
 by_cases e:a=b
 ·subst e;simp
 ·have h:¬ (HH a:Key)=HH b:=fun q=>e (Sum.inr.inj q);rw [AS h,AS e]
theorem Zu (a:Ab) (b:Ak):decide ((AH a:Key)=HH b)=Aq:=AS (fun q=>nomatch q)
theorem Zv (a:Ak) (b:Ab):decide ((HH a:Key)=AH b)=Aq:=AS (fun q=>nomatch q)
def BO (prog:A9) (w:A3):PySem.KeyKind prog w Key where
 is:=Gz
 hash:=Zq w
 inj:=fun v a b ha hb=>by
  rcases ES ha with ⟨i,t,rfl,rfl⟩ | ⟨x,t,rfl,rfl⟩
  ·rcases ES hb with ⟨j,u,rfl,e⟩ | ⟨y,u,rfl,e⟩
   ·injection e with e1 _;rw [e1]
   ·exact nomatch e
  ·rcases ES hb with ⟨j,u,rfl,e⟩ | ⟨y,u,rfl,e⟩
   ·exact nomatch e
   ·injection e with e1 _;rw [e1]
 byValue:=fun k v h=>by
  rcases ES h with ⟨i,t,rfl,rfl⟩ | ⟨x,t,rfl,rfl⟩ <;> rfl
 pyHash:=fun hv h=>by
  rcases ES hv with ⟨i,t,rfl,rfl⟩ | ⟨x,t,rfl,rfl⟩
  ·exact wpAny_pyHash_int h
  ·exact wpAny_pyHash_str h
 eqBool:=fun hu hv h=>by
  rcases ES hu with ⟨i,t,rfl,rfl⟩ | ⟨x,t,rfl,rfl⟩
  ·rcases ES hv with ⟨j,u,rfl,rfl⟩ | ⟨y,u,rfl,rfl⟩
   ·rw [Zt] at h;exact X2 h
   ·rw [Zu] at h;exact Xg i t y u _ _ _ _ h
  ·rcases ES hv with ⟨j,u,rfl,rfl⟩ | ⟨y,u,rfl,rfl⟩
   ·rw [Zv] at h;exact Xh x t j u _ _ _ _ h
   ·rw [Zw] at h;exact wpAny_eqBool_str h
 «strs»:=fun k x t v h=>by
  rcases ES h with ⟨i,u,rfl,e⟩ | ⟨y,u,rfl,e⟩
  ·exact nomatch e
  ·injection e with e1 _
   subst e1
   cases v <;> rfl
theorem ZV (prog:A9) (w:A3) (i:Ab) (t:Do):(BO prog w).is (.inl i) (.int i t)=Af:=Zr i t
theorem ZW (prog:A9) (w:A3) (x:Ak) (t:Do):(BO prog w).is (.inr x) (.str x t)=Af:=Zs x t
end L2
namespace L2
open PySem PySem.Spec PyProof.Rows
inductive V where
 | non | bl (b:AI) | int (i:Ab) | str (x:Ak) | byt (b:AL UInt8) | flt (b:UInt64) | ref (a:Ad) | ty (n:DX)
 deriving F6
noncomputable def AQ:V->Ah->Prop
 | .non,u=>u=BQ
 | .bl b,u=>u=C0 b
 | .int i,u=>∃t,u=GT i t
 | .str x,u=>∃t,u=IR x t
 | .byt b,u=>∃t,u=Value.bytes b t
 | .flt b,u=>∃t,u=Pm b t
 | .ref a,u=>u=AO a
 | .ty n,u=>u=Dp n
abbrev AU:Ac V->Ac Ah->Prop:=Cq AQ
theorem AU.length {xs:Ac V} {us:Ac Ah} (r:AU xs us):xs.length=us.length:=GL r
theorem AU.get:∀{xs:Ac V} {us:Ac Ah} {i:Ae} {x:V},AU xs us->xs[i]?=Aa x->∃u,us[i]?=Aa u/\AQ x u
 | _,_,_,_,.nil,e=>by simp at e
 | _,_,0,_,.cons r _,e=>by simp at e;subst e;exact ⟨_,rfl,r⟩
 | _,_,i+1,x,.cons _ t,e=>by
   obtain ⟨u,h1,h2⟩:=AU.get (i:=i) (x:=x) t (by simpa using e);exact ⟨u,by simpa using h1,h2⟩
theorem AU.set {x:V} {u:Ah} (r:AQ x u):∀{xs:Ac V} {us:Ac Ah} (i:Ae),AU xs us->AU (xs.set i x) (us.set i u)
 | _,_,_,.nil=>.nil
 | _,_,0,.cons _ t=>.cons r t
 | _,_,i+1,.cons q t=>.cons q (AU.set r i t)
theorem AU.append:∀{xs ys:Ac V} {us ws:Ac Ah},AU xs us->AU ys ws->AU (xs++ys) (us++ws)
 | _,_,_,_,.nil,s=>s
 | _,_,_,_,.cons r t,s=>.cons r (AU.append t s)
noncomputable def CL:A5 V->A5 Ah->Prop
 | some v,Aa u=>AQ v u
 | none,Ai=>HI
 | _,_=>BA
noncomputable def KV {κ:Type}:Ac (κ × V)->Ac (κ × Ah)->Prop:=Cq fun (p:κ × V) (q:κ × Ah)=>p.1=q.1/\AQ p.2 q.2
def kV:Key->V
 | .inl i=>.int i
 | .inr x=>.str x
inductive HO where
 | lst (xs:Ac V)
 | tup (xs:Ac V)
 | dK (kvs:Ac (Key × V)) | dT (kvs:Ac (Ac Key × V))
 | set (S:Ab->AI) (n:Ae)
 | ins (C dx:Ad) (fs:Ac (Ak × V))
 | own (x:Ad)
 | xd (fs:Ac (Ak × V))
 | met (f x:Ad)
 | rng (lo hi:Ab)
 | frz (o:A2) (u:HO)
 | tbl (ps:AL Ah)
 | ext (φ:AD->Prop)
abbrev Hp:=Ad->A5 HO
noncomputable def upd (H:Hp) (a:Ad) (o:HO):Hp:=fun b=>if b=a then Aa o else H b
theorem Az {H:Hp} {a:Ad} {o:HO}:upd H a o a=Aa o:=by unfold upd;rw [Ar rfl]
theorem AF {H:Hp} {a b:Ad} {o:HO} (h:b≠a):upd H a o b=H b:=by unfold upd;rw [Ao h]
theorem DV {H:Hp} {a:Ad} {o u:HO}:upd (upd H a o) a u=upd H a u:=by
 funext b;unfold upd;split <;> rfl
theorem Ce {H:Hp} {a b:Ad} {o u:HO} (h:H a=Aa o) (h':H b=Aa u) (d:o≠u):a≠b:=by
 intro e;subst e;rw [h] at h';exact d (Bn h')
theorem Em {H:Hp} {a b:Ad} {o:HO} (h:H a=Aa o) (h':H b=Ai):a≠b:=by
 intro e;subst e;rw [h] at h';cases h'
section
variable (P:A9) (w:A3)
noncomputable def Bi (H:Hp) (h:AD) (a:Ad):HO->Prop
 | .lst xs=>xs.length<=AB/\∃(its:Ac Ah) (n:Ae),AU xs its/\h.get? a=Aa { cls:=.type "list",data:=.seq its.toArray n }
 | .tup xs=>xs.length<=AB/\∃its:Ac Ah,AU xs its/\IsTup h a its.toArray
 | .dK kvs=>kvs.length<=AB/\(a == Cr)=Aq/\∃vs,KV kvs vs/\h.DictOf (BO P w) a vs
 | .dT kvs=>kvs.length<=AB/\(a == Cr)=Aq/\∃xs:Ac (Ac Key × Ad × Ah),
  Cq (fun (p:Ac Key × V) (q:Ac Key × Ad × Ah)=>p.1=q.1/\H q.2.1=Aa (.tup (p.1.map kV))/\AQ p.2 q.2.2) kvs xs /\
  ∃o es ep,h.get? a=Aa o/\o.ExactDict/\o.data=.dict es ep/\es.toList=xs.map (entryOfKey (tupleKind (BO P w)))/\(xs.map (·.1)).Nodup
 | .set S n=>h.SetOf (intKind P w) a S n
 | .ins C dx fs=>H dx=Aa (.own a)/\fs.length<=1000/\dx≠a/\h.get? a=Aa (GO C dx) /\
  ∃mA,h.Ns1 dx mA/\(∀f,CL (fs.lookup f) (mA f))/\Pe mA (fs.map (·.1))
 | .own _=>∃o,h.get? a=Aa o
 | .xd fs=>∃mA,h.Ns1 a mA/\∀f,CL (fs.lookup f) (mA f)
 | .rng lo hi=>∃t u v,h.get? a=Aa { cls:=.type "range",data:=.fields #[.int lo t,.int hi u,.int 1 v] }
 | .frz o u=>h.get? a=Aa o/\Bi H h a u
 | .tbl ps=>h.get? a=Aa { cls:=.none,data:=.fields ps }
 | .met f x=>h.get? a=Aa (Pa (.ref f) (.ref x))
 | .ext φ=>φ h/\(∃o,h.get? a=Aa o)/\∀h1 h2:AD,φ h1->(∀o,h1.get? a=Aa o->h2.get? a=Aa o)->φ h2
noncomputable def HOk (H:Hp) (h:AD):Prop:=∀a o,H a=Aa o->Bi P w H h a o
end
section
variable {P:A9} {w:A3} {H H':Hp} {h h':AD} {a:Ad} {o:HO}
theorem Bi.lt (x:Bi P w H h a o):a < h.objs.size:=by
 cases o with
 | lst xs=>obtain ⟨_,_,_,_,e⟩:=x;exact A_ e
 | tup xs=>obtain ⟨_,_,_,p⟩:=x;exact p.lt
 | dK kvs=>obtain ⟨_,_,_,_,o,_,_,e,_⟩:=x;exact A_ e
 | dT kvs=>obtain ⟨_,_,_,_,o,_,_,e,_⟩:=x;exact A_ e
 | set S n=>obtain ⟨o,_,_,_,e,_⟩:=x;exact A_ e
 | ins C dx fs=>obtain ⟨_,_,_,e,_⟩:=x;exact A_ e
 | own y=>obtain ⟨_,e⟩:=x;exact A_ e
 | xd fs=>obtain ⟨_,⟨_,_,_,e,_⟩,_⟩:=x;exact A_ e
 | rng lo hi=>obtain ⟨_,_,_,e⟩:=x;exact A_ e
 | frz ob u=>obtain ⟨e,_⟩:=x;exact A_ e
 | tbl ps=>exact A_ (show h.get? a=Aa _ from x)
 | met f y=>exact A_ (show h.get? a=Aa _ from x)
 | ext φ=>obtain ⟨_,⟨_,e⟩,_⟩:=x;exact A_ e
theorem Paired.mapP {α β:Type} {F G:α->β->Prop}:∀{l₁:Ac α} {l₂:Ac β},Cq F l₁ l₂->(∀a b,F a b->G a b)->Cq G l₁ l₂
 | _,_,.nil,_=>.nil
 | _,_,.cons r t,f=>.cons (f _ _ r) (Paired.mapP t f)
theorem Bi.stay (x:Bi P w H h a o) (k:∀b u,(b=a\/H b=Aa (.own a))->h.get? b=Aa u->h'.get? b=Aa u)
 (ho:∀b,H b=Aa (.own a)->H' b=Aa (.own a)) (ht:∀b xs,H b=Aa (.tup xs)->H' b=Aa (.tup xs)):Bi P w H' h' a o:=by
 induction o with
 | lst xs=>obtain ⟨z,its,n,r,e⟩:=x;exact ⟨z,its,n,r,k _ _ (.inl rfl) e⟩
 | tup xs=>obtain ⟨z,its,r,ob,e,c⟩:=x;exact ⟨z,its,r,ob,k _ _ (.inl rfl) e,c⟩
 | dK kvs=>obtain ⟨z,y,vs,r,ob,es,ep,e,c⟩:=x;exact ⟨z,y,vs,r,ob,es,ep,k _ _ (.inl rfl) e,c⟩
 | dT kvs =>
   obtain ⟨z,y,xs,r,ob,es,ep,e,c⟩:=x;exact ⟨z,y,xs,Paired.mapP r fun p q z=>⟨z.1,ht _ _ z.2.1,z.2.2⟩,ob,es,ep,k _ _ (.inl rfl) e,c⟩
 | set S n=>obtain ⟨ob,es,ep,t,e,c⟩:=x;exact ⟨ob,es,ep,t,k _ _ (.inl rfl) e,c⟩
 | ins C dx fs =>
   obtain ⟨d,z,ne,e,mA,⟨od,es,ep,e2,c⟩,r⟩:=x;exact ⟨ho _ d,z,ne,k _ _ (.inl rfl) e,mA,⟨od,es,ep,k _ _ (.inr d) e2,c⟩,r⟩
 | own y=>obtain ⟨ob,e⟩:=x;exact ⟨ob,k _ _ (.inl rfl) e⟩
 | xd fs=>obtain ⟨mA,⟨od,es,ep,e,c⟩,r⟩:=x;exact ⟨mA,⟨od,es,ep,k _ _ (.inl rfl) e,c⟩,r⟩
 | rng lo hi=>obtain ⟨t,u,v,e⟩:=x;exact ⟨t,u,v,k _ _ (.inl rfl) e⟩
 | frz ob u ih=>obtain ⟨e,q⟩:=x;exact ⟨k _ _ (.inl rfl) e,ih q⟩
 | tbl ps =>
   have e:h.get? a=Aa { cls:=.none,data:=.fields ps }:=x;show h'.get? a=Aa { cls:=.none,data:=.fields ps };exact k a _ (.inl rfl) e
 | met f y =>
   have e:h.get? a=Aa (Pa (.ref f) (.ref y)):=x;show h'.get? a=Aa (Pa (.ref f) (.ref y));exact k a _ (.inl rfl) e
 | ext φ=>obtain ⟨p,⟨o,e⟩,st⟩:=x;exact ⟨st _ _ p fun o q=>k _ _ (.inl rfl) q,⟨o,k _ _ (.inl rfl) e⟩,st⟩
theorem HOk.lt (x:HOk P w H h) (e:H a=Aa o):a < h.objs.size:=(x a o e).lt
theorem HOk.fresh (x:HOk P w H h) (e:h.objs.size<=a):H a=Ai:=by
 cases q:H a with
 | none=>rfl
 | some u=>exact Aw (B' (x.lt q) e) (C' _)
theorem HOk.kept (x:HOk P w H h) (k:∀b u,h.get? b=Aa u->h'.get? b=Aa u):HOk P w H h':=fun a o e =>
 (x a o e).stay (fun b u _ q=>k b u q) (fun _ q=>q) fun _ _ q=>q
theorem HOk.laid (x:HOk P w H h) (k:∀b u,h.get? b=Aa u->h'.get? b=Aa u) (hp:h.objs.size<=a) (new:Bi P w (upd H a o) h' a o):HOk P w (upd H a o) h':=fun b u e=>by
 have hn:=x.fresh hp;by_cases hb:b=a
 ·subst hb;rw [Az] at e;cases e;exact new
 ·rw [AF hb] at e;exact (x b u e).stay (fun c v _ q=>k c v q) (fun c q=>by rw [AF (Em q hn)];exact q) fun c xs q=>by rw [AF (Em q hn)];exact q
end
noncomputable def Rd (H:Hp) (a:Ad) (u:HO):Prop:=H a=Aa u\/∃o,H a=Aa (.frz o u)
theorem Rd.ok {P:A9} {w:A3} {H:Hp} {h:AD} {a:Ad} {u:HO} (r:Rd H a u) (x:HOk P w H h):Bi P w H h a u:=by
 rcases r with r | ⟨o,r⟩
 ·exact x a u r
 ·obtain ⟨_,q⟩:=x a _ r;exact q
noncomputable def Mut:A5 HO->Prop
 | some (.lst _)=>HI
 | some (.dK _)=>HI
 | some (.dT _)=>HI
 | some (.set _ _)=>HI
 | some (.ins _ _ _)=>HI
 | some (.ext _)=>HI
 | _=>BA
section
variable {P:A9} {w:A3} {H:Hp} {h h':AD} {x e:Ad} {o':HO}
theorem HOk.write (ok:HOk P w H h) (mu:Mut (H x)) (he:e=x\/H e=Aa (.own x)) (k:∀b u,b≠e->h.get? b=Aa u->h'.get? b=Aa u) (heo:∃u,h'.get? e=Aa u)
 (new:Bi P w (upd H x o') h' x o'):HOk P w (upd H x o') h':=fun b u q=>by
 have nown:∀c y,H c=Aa (.own y)->c≠x:=fun c y r z=>by subst z;rw [r] at mu;exact mu
 have ntup:∀c xs,H c=Aa (.tup xs)->c≠x:=fun c xs r z=>by subst z;rw [r] at mu;exact mu
 by_cases hb:b=x
 ·subst hb;rw [Az] at q;cases q;exact new
 ·rw [AF hb] at q;by_cases hbe:b=e
  ·have q':H b=Aa (.own x):=by
    rcases he with z | z
    ·exact Aw (hbe.trans z) hb
    ·rw [hbe];exact z
   rw [q] at q';cases q';obtain ⟨v,hv⟩:=heo;exact ⟨v,by rw [hbe];exact hv⟩
  ·refine (ok b u q).stay (fun c v hc r=>k c v ?_ r) (fun c r=>by rw [AF (nown c b r)];exact r) fun c xs r=>by rw [AF (ntup c xs r)];exact r
   rcases hc with rfl | hc
   ·exact hbe
   ·rintro rfl;rcases he with z | z
    ·exact nown c b hc z
    ·rw [hc] at z;cases z;exact hb rfl
end
structure Un (fs ex:Ac Ad) (H H':Hp) (h h':AD):Prop where
 keep:∀b o,h.get? b=Aa o->H b=Ai->b ∉ fs->b ∉ ex->h'.get? b=Aa o
 slot:∀b o,h.get? b=Aa o->H b=Ai->b∈fs->b ∉ ex->∃sl,h'.get? b=Aa { o with slots:=sl }
 free:∀b o,h.get? b=Aa o->H b=Ai->b ∉ ex->H' b=Ai
 there:∀b o,h.get? b=Aa o->b ∉ ex->∃o',h'.get? b=Aa o'
 tups:∀b xs,H b=Aa (.tup xs)->H' b=Aa (.tup xs)
 frzs:∀b o u,H b=Aa (.frz o u)->H' b=Aa (.frz o u)
 tbls:∀b ps,H b=Aa (.tbl ps)->∃more,H' b=Aa (.tbl (ps++more))
section
variable {fs fs' ex ex':Ac Ad} {H H1 H2:Hp} {h h1 h2 h':AD} {a x e:Ad} {o:HO}
theorem Un.any (u:Un fs ex H H1 h h1) {b:Ad} {ob:A2} (q:h.get? b=Aa ob) (n:H b=Ai) (hx:b ∉ ex):∃sl,h1.get? b=Aa { ob with slots:=sl }:=by
 by_cases hb:b∈fs
 ·exact u.slot b ob q n hb hx
 ·exact ⟨ob.slots,u.keep b ob q n hb hx⟩
theorem Un.kept (k:∀b u,h.get? b=Aa u->h'.get? b=Aa u):Un fs ex H H h h' :=
 ⟨fun b ob q _ _ _=>k b ob q,fun b ob q _ _ _=>⟨ob.slots,k b ob q⟩,fun _ _ _ n _=>n,fun b ob q _=>⟨ob,k b ob q⟩,fun _ _ q=>q,fun _ _ _ q=>q,fun _ ps q=>⟨#[],by rw [q];simp⟩⟩
theorem Un.refl:Un fs ex H H h h:=Un.kept fun _ _ q=>q
theorem Un.laid (k:∀b u,h.get? b=Aa u->h'.get? b=Aa u) (hp:h.objs.size<=a) (hn:H a=Ai):Un fs ex H (upd H a o) h h' where
 keep:=fun b u q _ _ _=>k b u q
 slot:=fun b u q _ _ _=>⟨u.slots,k b u q⟩
 free:=fun b u q n _=>by rw [AF (B1 (B' (A_ q) hp))];exact n
 there:=fun b u q _=>⟨u,k b u q⟩
 tups:=fun b xs q=>by rw [AF (Em q hn)];exact q
 frzs:=fun b u xs q=>by rw [AF (Em q hn)];exact q
 tbls:=fun b ps q=>⟨#[],by rw [AF (Em q hn),q];simp⟩
theorem Un.write (mu:Mut (H x)) (he:e=x\/H e=Aa (.own x)) (k:∀b u,b≠e->h.get? b=Aa u->h'.get? b=Aa u) (heo:∃u,h'.get? e=Aa u):Un fs ex H (upd H x o) h h':=by
 have hx:∀b,H b=Ai->b≠x:=fun b n z=>by subst z;rw [n] at mu;exact mu
 have hb:∀b,H b=Ai->b≠e:=fun b n z=>by
  subst z;rcases he with r | r
  ·exact hx b n r
  ·rw [n] at r;cases r
 have hm:∀b u,H b=Aa u->¬ Mut (Aa u)->b≠x:=fun b u q nm z=>by subst z;rw [q] at mu;exact nm mu
 refine ⟨fun b u q n _ _=>k b u (hb b n) q,fun b u q n _ _=>⟨u.slots,k b u (hb b n) q⟩,fun b u q n _=>by rw [AF (hx b n)];exact n,fun b u q _=>?_,
  fun b xs q=>by rw [AF (hm b _ q fun z=>z)];exact q,fun b u xs q=>by rw [AF (hm b _ q fun z=>z)];exact q,fun b ps q=>⟨#[],by rw [AF (hm b _ q fun z=>z),q];simp⟩⟩
 by_cases hbe:b=e
 ·subst hbe;exact heo
 ·exact ⟨u,k b u hbe q⟩
end
noncomputable def trk (h:AD) (H:Hp):Ac Ad:=(Bo h.objs.size).filter fun a=>(H a).isSome
noncomputable def ER (h:AD) (H:Hp):AD:=PySem.W.hideAll h (trk h H)
theorem Y' (h:AD) (H:Hp):(ER h H).objs.size=h.objs.size:=PySem.W.hideAll_size _ _
theorem Y_ {h:AD} {H:Hp} {b:Ad} {o:A2} (e:h.get? b=Aa o) (n:H b=Ai):(ER h H).get? b=Aa o :=
 PySem.W.hideAll_get _ e fun hm=>by
  have q:(H b).isSome=Af:=(mem_filter.mp hm).2;rw [n] at q;simp at q
theorem Rt {h:AD} {H:Hp} {b:Ad} {o:A2} (e:(ER h H).get? b=Aa o):h.get? b=Aa o/\H b=Ai:=by
 have e':h.get? b=Aa o:=PySem.W.of_hideAll (trk h H) e;refine ⟨e',?_⟩
 cases q:H b with
 | none=>rfl
 | some x =>
   have hm:b∈trk h H:=mem_filter.mpr ⟨mem_range.mpr (A_ e'),by simp [q]⟩;have z:(ER h H).get? b=Ai:=PySem.W.hideAll_none (trk h H) hm;rw [z] at e;cases e
end L2
namespace L2
open PySem PySem.Spec PyProof.Rows
structure Mod (K:A8) (mg:Ak->A5 Ah) (base:AD):Prop where
 kin:K.In base
 glob:base.Ns Dc mg
 blt:∃mb,base.Ns builtinsNs mb/\∀x:Ak,x≠"__name__"->mb x=bootBuiltins x
 nolimit:base.NoLimit
structure Cx where
 prog:A9
 w:A3
 K:A8
 mg:Ak->A5 Ah
 base:AD
 A:AR
 N:Ac Ak
 s₀:Aj
 H₀:Hp
 env:BC
 outer:Ac BC
 stack:Ac BC
 ex:Ac Ad
 fn:Ak->AI
 calm:AI
 pn:Ac (Ad × A2)
 xe:Ah->Aj->Prop
def frs (l:Ac BC):Ac Ad:=l.filterMap (·.frame)
abbrev Cx.fs (X:Cx):Ac Ad:=frs X.outer
noncomputable def Vis (sc:Bu) (x:Ak):Prop:=sc.names.lookup x=Aa .local\/sc.names.lookup x=Aa .cell\/sc.names.lookup x=Aa .free
noncomputable def Loc (sc:Bu) (x:Ak):Prop:=sc.names.lookup x=Aa .local\/sc.names.lookup x=Aa .cell
noncomputable def XG (env:BC) (h:AD) (m:Ak->A5 Ah) (x:Ak) (u:Ah):Prop :=
 (env.kindOf x=Aa .local/\m x=Aa u)\/((env.kindOf x=Aa .cell\/env.kindOf x=Aa .free)/\∃c,env.cells.lookup x=Aa c/\h.IsCell c (Aa u))
structure Cx.Ok (X:Cx):Prop where
 mod:Mod X.K X.mg X.base
 kind:X.env.scope.kind=.function
 glob:X.env.globals=Dc
 blt:X.env.builtins=builtinsNs
 above:X.s₀.heap.objs.size<=X.env.locals
 inj:∀x y c,X.env.cells.lookup x=Aa c->X.env.cells.lookup y=Aa c->x=y
 has:∀x,(X.env.kindOf x=Aa .cell\/X.env.kindOf x=Aa .free)->∃c,X.env.cells.lookup x=Aa c
 cab:∀x c,X.fn x=Af->X.env.cells.lookup x=Aa c->X.s₀.heap.objs.size<=c
 hd:X.calm=Af->X.A.handled=Ai
 frames:X.A.frames=Aa X.stack
 stk:X.stack=X.outer\/(X.stack=X.env :: X.outer/\X.env.frame=Aa X.env.locals)
 exf:∀b∈X.ex,b≠X.env.locals/\∀x c,X.env.cells.lookup x=Aa c->c≠b
 bs:∀b o,X.base.get? b=Aa o->X.s₀.heap.get? b=Aa o/\X.H₀ b=Ai
 bsz:X.base.objs.size<=X.s₀.heap.objs.size
 noex:∀b o,X.base.get? b=Aa o->b ∉ X.ex
 exfs:∀b∈X.ex,b ∉ X.fs
 funs:X.s₀.heap.FunFrames X.base X.outer
 frf:∀b∈X.fs,X.H₀ b=Ai
structure Inv (X:Cx) (pins:Ac (Ad × A2)) (σ:Ac (A5 V)) (H:Hp) (s:Aj):Prop where
 ok:X.Ok
 os:s.os=X.s₀.os
 bare:Ga s.gens
 base:Un X.fs X.ex X.H₀ H X.s₀.heap s.heap
 loc:∃m,s.heap.Ns X.env.locals m/\∀(i:Ae) (x:Ak) (v:V),X.N[i]?=Aa x->σ[i]?=Aa (Aa v)->Vis X.env.scope x->∃u,AQ v u/\XG X.env s.heap m x u
 cell:∀x c,X.env.cells.lookup x=Aa c->∃v,s.heap.IsCell c v
 free:H X.env.locals=Ai
 freeC:∀x c,X.env.cells.lookup x=Aa c->H c=Ai
 pin:∀p∈X.pn++pins,s.heap.get? p.1=Aa p.2/\H p.1=Ai/\p.1≠X.env.locals/\p.1 ∉ X.fs/\∀v,p.2.data≠.cell v
 hok:HOk X.prog X.w H s.heap
 len:σ.length=X.N.length
section
variable {X:Cx} {pins:Ac (Ad × A2)} {σ:Ac (A5 V)} {H H':Hp} {s:Aj} {h':AD}
theorem Cx.Ok.nofr (ok:X.Ok) {b:Ad} {o:A2} (e:X.base.get? b=Aa o):b ∉ X.fs:=fun hb=>by
 have:=(ok.funs.mem hb).1;rw [e] at this;cases this
theorem Inv.bs (I:Inv X pins σ H s):∀b o,X.base.get? b=Aa o->s.heap.get? b=Aa o/\H b=Ai:=fun b o e =>
 ⟨I.base.keep b o (I.ok.bs b o e).1 (I.ok.bs b o e).2 (I.ok.nofr e) (I.ok.noex b o e),I.base.free b o (I.ok.bs b o e).1 (I.ok.bs b o e).2 (I.ok.noex b o e)⟩
theorem Inv.bk (I:Inv X pins σ H s):∀b o,X.base.get? b=Aa o->s.heap.get? b=Aa o:=fun b o e=>(I.bs b o e).1
theorem Inv.mod (I:Inv X pins σ H s):Mod X.K X.mg X.base:=I.ok.mod
theorem Inv.kIn (I:Inv X pins σ H s):X.K.In s.heap:=I.ok.mod.kin.keeps I.bk
theorem Inv.nolimit (I:Inv X pins σ H s):s.heap.NoLimit:=I.ok.mod.nolimit.keeps I.bk
theorem Inv.lt (I:Inv X pins σ H s):X.env.locals < s.heap.objs.size:=let ⟨_,hn,_⟩:=I.loc;hn.lt
theorem Inv.sz (I:Inv X pins σ H s):X.s₀.heap.objs.size<=s.heap.objs.size:=BE I.ok.above (DK I.lt)
theorem Inv.nofs (I:Inv X pins σ H s) {a:Ad} (h:s.heap.objs.size<=a):a ∉ X.fs:=fun hb=>by
 obtain ⟨_,o,ho,_⟩:=I.ok.funs.mem hb;exact Aw (B' (A_ ho) (BE I.sz h)) (C' _)
theorem Inv.cne (I:Inv X pins σ H s):∀x c,X.env.cells.lookup x=Aa c->c≠X.env.locals:=fun x c e z=>by
 obtain ⟨v,o,ho,hd⟩:=I.cell x c e;obtain ⟨m,⟨o',es,ep,ho',hd',_⟩,_⟩:=I.loc;rw [z,ho'] at ho;cases ho;rw [hd'] at hd;cases hd
theorem Inv.funs (I:Inv X pins σ H s):s.heap.FunFrames X.base X.outer:=by
 have all:∀(l:Ac BC),(∀b∈frs l,b∈X.fs)->X.s₀.heap.FunFrames X.base l->s.heap.FunFrames X.base l:=by
  intro l
  induction l with
  | nil=>intro _ _;trivial
  | cons env r ih =>
    intro hs hl;obtain ⟨hk,⟨L,o,hf,hn,ho,hd⟩,hr⟩:=hl;have hL:L∈X.fs:=hs L (by unfold frs;rw [JW,hf];exact AV);obtain ⟨sl,e⟩:=I.base.slot L o ho (I.ok.frf L hL) hL fun z=>I.ok.exfs L z hL;exact ⟨hk,⟨L,_,hf,hn,e,hd⟩,ih (fun b hb=>hs b (by unfold frs;rw [JW,hf];exact Bc _ hb)) hr⟩
 exact all X.outer (fun _ hb=>hb) I.ok.funs
theorem Inv.stack (I:Inv X pins σ H s):s.heap.FunFrames X.base X.stack:=by
 rcases I.ok.stk with e | ⟨e,hf⟩
 ·rw [e];exact I.funs
 ·rw [e];obtain ⟨m,hn,_⟩:=I.loc;refine .cons (by rw [I.ok.kind];decide) hf hn ?_ I.funs;exact Heap.get?_none_of_le (BE I.ok.bsz I.ok.above)
theorem Inv.stkSub (I:Inv X pins σ H s):∀b∈frs X.stack,b∈X.env.locals :: X.fs:=fun b hb=>by
 rcases I.ok.stk with e | ⟨e,hf⟩
 ·rw [e] at hb;exact Bc _ hb
 ·rw [e] at hb;unfold frs at hb;rw [JW,hf] at hb;exact hb
theorem Inv.stkFree (I:Inv X pins σ H s):∀b∈frs X.stack,H b=Ai:=fun b hb=>by
 rcases mem_cons.mp (I.stkSub b hb) with e | hb
 ·rw [e];exact I.free
 ·obtain ⟨_,o,ho,_⟩:=I.ok.funs.mem hb;exact I.base.free b o ho (I.ok.frf b hb) fun z=>I.ok.exfs b z hb
theorem Inv.step {g':AL JP} {t':Ae} {d':Drawn} {ch:Ac Ad} (I:Inv X pins σ H s)
 (hch:∀b∈ch,(b∈X.ex\/X.s₀.heap.objs.size<=b)/\b≠X.env.locals/\(∀x c,X.env.cells.lookup x=Aa c->c≠b)/\∀p∈X.pn++pins,p.1≠b)
 (keep:∀b o,b≠X.env.locals->b ∉ X.fs->b ∉ ch->s.heap.get? b=Aa o->H b=Ai->h'.get? b=Aa o)
 (slot:∀b o,b≠X.env.locals->b∈X.fs->b ∉ ch->s.heap.get? b=Aa o->H b=Ai->∃sl,h'.get? b=Aa { o with slots:=sl }) (free:∀b o,b ∉ ch->s.heap.get? b=Aa o->H b=Ai->H' b=Ai)
 (there:∀b o,b ∉ ch->s.heap.get? b=Aa o->∃o',h'.get? b=Aa o')
 (tups:∀b xs,H b=Aa (.tup xs)->H' b=Aa (.tup xs)) (frzs:∀b o u,H b=Aa (.frz o u)->H' b=Aa (.frz o u)) (tbls:∀b ps,H b=Aa (.tbl ps)->∃more,H' b=Aa (.tbl (ps++more)))
 (ns:∀m,s.heap.Ns X.env.locals m->h'.Ns X.env.locals m) (hok:HOk X.prog X.w H' h') (hg:Ga g') :
 Inv X pins σ H' { s with heap:=h',gens:=g',drawn:=d',toks:=t' }:=by
 have neL:∀b o,X.s₀.heap.get? b=Aa o->b≠X.env.locals:=fun b o e=>B1 (B' (A_ e) I.ok.above)
 have neC:∀b o,X.s₀.heap.get? b=Aa o->b ∉ X.ex->b ∉ ch:=fun b o e hx hb=>by
  rcases (hch b hb).1 with z | z
  ·exact hx z
  ·exact Aw (B' (A_ e) z) (C' _)
 have cellK:∀x c,X.env.cells.lookup x=Aa c->∀v,s.heap.IsCell c v->h'.IsCell c v:=fun x c e v ⟨o,ho,hd⟩=>by
  have nch:c ∉ ch:=fun z=>(hch c z).2.2.1 x c e rfl;by_cases hc:c∈X.fs
  ·obtain ⟨sl,q⟩:=slot c o (I.cne x c e) hc nch ho (I.freeC x c e);exact ⟨_,q,hd⟩
  ·exact ⟨o,keep c o (I.cne x c e) hc nch ho (I.freeC x c e),hd⟩
 refine ⟨I.ok,I.os,hg,⟨fun b o e n hb hx=>?_,fun b o e n hb hx=>?_,fun b o e n hx=>?_,fun b o e hx=>?_,fun b xs e=>tups b xs (I.base.tups b xs e),fun b o xs e=>frzs b o xs (I.base.frzs b o xs e),fun b ps e=>?_⟩,?_,fun x c e=>?_,?_,fun x c e=>?_,fun p hp=>?_,hok,I.len⟩
 ·exact keep b o (neL b o e) hb (neC b o e hx) (I.base.keep b o e n hb hx) (I.base.free b o e n hx)
 ·obtain ⟨sl,e1⟩:=I.base.slot b o e n hb hx;obtain ⟨sl',e2⟩:=slot b _ (neL b o e) hb (neC b o e hx) e1 (I.base.free b o e n hx);exact ⟨sl',e2⟩
 ·obtain ⟨o',e1⟩:=I.base.there b o e hx;exact free b o' (neC b o e hx) e1 (I.base.free b o e n hx)
 ·obtain ⟨o',e1⟩:=I.base.there b o e hx;exact there b o' (neC b o e hx) e1
 ·obtain ⟨m1,e1⟩:=I.base.tbls b ps e;obtain ⟨m2,e2⟩:=tbls b _ e1;exact ⟨m1++m2,by rw [e2,Array.append_assoc]⟩
 ·obtain ⟨m,hn,hl⟩:=I.loc;refine ⟨m,ns m hn,fun i x v e1 e2 e3=>?_⟩;obtain ⟨u,r,l⟩:=hl i x v e1 e2 e3;refine ⟨u,r,?_⟩;rcases l with l | ⟨k,c,e,z⟩
  ·exact .inl l
  ·exact .inr ⟨k,c,e,cellK x c e _ z⟩
 ·obtain ⟨v,z⟩:=I.cell x c e;exact ⟨v,cellK x c e v z⟩
 ·obtain ⟨m,⟨o,_,_,ho,_⟩,_⟩:=I.loc;exact free _ o (fun z=>(hch _ z).2.1 rfl) ho I.free
 ·obtain ⟨v,o,ho,hd⟩:=I.cell x c e;exact free c o (fun z=>(hch c z).2.2.1 x c e rfl) ho (I.freeC x c e)
 ·obtain ⟨e,n,ne,nf,d⟩:=I.pin p hp;have nch:p.1 ∉ ch:=fun z=>(hch p.1 z).2.2.2 p hp rfl;exact ⟨keep p.1 p.2 ne nf nch e n,free p.1 p.2 nch e n,ne,nf,d⟩
theorem Inv.un {t':Ae} (I:Inv X pins σ H s) (u:Un X.fs [] H H' s.heap h') (hok:HOk X.prog X.w H' h'):Inv X pins σ H' { s with heap:=h',toks:=t' }:=by
 obtain ⟨m,⟨o,es,ep,ho,r⟩,_⟩:=id I.loc;obtain ⟨sl,hL⟩:=u.any ho I.free (by simp)
 exact I.step (g':=s.gens) (d':=s.drawn) (ch:=[]) (fun _ z=>by cases z) (fun b o _ hb _ e n=>u.keep b o e n hb (by simp)) (fun b o _ hb _ e n=>u.slot b o e n hb (by simp)) (fun b o _ e n=>u.free b o e n (by simp)) (fun b o _ e=>u.there b o e (by simp)) u.tups u.frzs u.tbls (fun m' hm=>by
  obtain ⟨o',es',ep',ho',r'⟩:=hm;rw [ho] at ho';cases ho';exact ⟨_,es',ep',hL,r'⟩) hok I.bare
theorem Inv.call {g':AL JP} {t':Ae} {d':Drawn} {ch:Ac Ad} (I:Inv X pins σ H s) (u:Un (frs X.stack) ch H H' s.heap h') (hok:HOk X.prog X.w H' h') (hg:Ga g')
 (hch:∀b∈ch,(b∈X.ex\/X.s₀.heap.objs.size<=b)/\b≠X.env.locals/\(∀x c,X.env.cells.lookup x=Aa c->c≠b)/\∀p∈X.pn++pins,p.1≠b) :
 Inv X pins σ H' { s with heap:=h',gens:=g',drawn:=d',toks:=t' }:=by
 obtain ⟨m,⟨o,es,ep,ho,r⟩,_⟩:=id I.loc;obtain ⟨sl,hL⟩:=u.any ho I.free fun z=>(hch _ z).2.1 rfl
 exact I.step (ch:=ch) hch (fun b o hL hb hc e n=>u.keep b o e n (fun z=>(mem_cons.mp (I.stkSub b z)).elim hL hb) hc) (fun b o _ _ hc e n=>u.any e n hc) (fun b o hc e n=>u.free b o e n hc) (fun b o hc e=>u.there b o e hc) u.tups u.frzs u.tbls (fun m' hm=>by
  obtain ⟨o',es',ep',ho',r'⟩:=hm;rw [ho] at ho';cases ho';exact ⟨_,es',ep',hL,r'⟩) hok hg
theorem Inv.turned {t':Ae} {it:Ad} (I:Inv X pins σ H s) (k:∀b o,b≠it->s.heap.get? b=Aa o->h'.get? b=Aa o) (hn:H it=Ai) (hL:it≠X.env.locals)
 (h1:it∈X.ex\/X.s₀.heap.objs.size<=it) (h2:∀x c,X.env.cells.lookup x=Aa c->c≠it) (h3:∀p∈X.pn++pins,p.1≠it):Inv X pins σ H { s with heap:=h',toks:=t' }:=by
 have nit:∀b u,H b=Aa u->b≠it:=fun b u e z=>by rw [z,hn] at e;cases e
 refine I.step (g':=s.gens) (d':=s.drawn) (ch:=[it]) (fun b hb=>?_) (fun b o _ _ hc e _=>k b o (fun z=>hc (by simp [z])) e) (fun b o _ _ hc e _=>⟨o.slots,k b o (fun z=>hc (by simp [z])) e⟩) (fun _ _ _ _ n=>n)
  (fun b o hc e=>⟨o,k b o (fun z=>hc (by simp [z])) e⟩) (fun _ _ e=>e) (fun _ _ _ e=>e) (fun b ps e=>⟨#[],by rw [e];simp⟩) (fun m hm=>?_) (fun b u e=>?_) I.bare
 ·have e:b=it:=by simpa using hb
  subst e;exact ⟨h1,hL,h2,h3⟩
 ·obtain ⟨o,es,ep,ho,r⟩:=hm;exact ⟨o,es,ep,k _ o (BF hL) ho,r⟩
 ·refine (I.hok b u e).stay (fun c v hc q=>k c v ?_ q) (fun _ q=>q) fun _ _ q=>q;rcases hc with z | z
  ·rw [z];exact nit b u e
  ·exact nit c _ z
theorem Inv.tok (I:Inv X pins σ H s) (t:Ae):Inv X pins σ H { s with toks:=t }:=I.un (h':=s.heap) (t':=t) Un.refl I.hok
theorem Inv.kept {t':Ae} (I:Inv X pins σ H s) (k:∀b u,s.heap.get? b=Aa u->h'.get? b=Aa u):Inv X pins σ H { s with heap:=h',toks:=t' }:=I.un (Un.kept k) (I.hok.kept k)
theorem Inv.laid {a:Ad} {o:HO} {t':Ae} (I:Inv X pins σ H s) (k:∀b u,s.heap.get? b=Aa u->h'.get? b=Aa u) (hp:s.heap.objs.size<=a) (new:Bi X.prog X.w (upd H a o) h' a o) :
 Inv X pins σ (upd H a o) { s with heap:=h',toks:=t' }:=I.un (Un.laid k hp (I.hok.fresh hp)) (I.hok.laid k hp new)
theorem Inv.write {x e:Ad} {o:HO} {t':Ae} (I:Inv X pins σ H s) (mu:Mut (H x)) (he:e=x\/H e=Aa (.own x)) (k:∀b u,b≠e->s.heap.get? b=Aa u->h'.get? b=Aa u) (heo:∃u,h'.get? e=Aa u)
 (new:Bi X.prog X.w (upd H x o) h' x o):Inv X pins σ (upd H x o) { s with heap:=h',toks:=t' }:=I.un (Un.write mu he k heo) (I.hok.write mu he k heo new)
theorem Inv.pins_of {pins':Ac (Ad × A2)} (I:Inv X pins σ H s) (h:∀p∈pins',s.heap.get? p.1=Aa p.2/\H p.1=Ai/\p.1≠X.env.locals/\p.1 ∉ X.fs/\∀v,p.2.data≠.cell v):Inv X pins' σ H s :=
 ⟨I.ok,I.os,I.bare,I.base,I.loc,I.cell,I.free,I.freeC,fun p hp=>(mem_append.mp hp).elim (fun z=>I.pin p (CB _ z)) (h p),I.hok,I.len⟩
theorem Rp {N:Ac Ak} (hN:N.Nodup) {i j:Ae} {x:Ak} (a:N[i]?=Aa x) (b:N[j]?=Aa x):i=j:=by
 obtain ⟨h1,e1⟩:=List.getElem?_eq_some_iff.mp a;obtain ⟨h2,e2⟩:=List.getElem?_eq_some_iff.mp b;exact (getElem_inj hN).mp (e1.trans e2.symm)
theorem UN {M:Ff} {A:AR} {E:Ah->Aj->Prop} {i:Ae} {x:Ak} {v:V} {u:Ah} {Q:Unit->Aj->Prop} (I:Inv X pins σ H s) (hN:X.N.Nodup) (hi:X.N[i]?=Aa x) (hx:Loc X.env.scope x) (r:AQ v u)
 (h:∀s',Inv X pins (σ.set i (Aa v)) H s'->(∃a,Ey a s.heap s'.heap/\(a=X.env.locals\/X.env.cells.lookup x=Aa a))->Q () s') (hf:X.fn x=Af\/X.env.scope.names.lookup x=Aa .local:=by first | exact .inl rfl | exact .inr rfl | assumption):Au M A (storeName X.env x u) Q E s:=by
 obtain ⟨m,hn,hl⟩:=id I.loc;have hcls:(X.env.scope.kind == .class || (X.env.scope.kind == .module && X.env.locals != X.env.globals))=Aq:=by rw [I.ok.kind];rfl
 have hiσ:i < σ.length:=by rw [I.len];exact (List.getElem?_eq_some_iff.mp hi).1
 have cne:=I.cne
 have tracked:∀{a:Ad} {h':AD},(∃o,s.heap.get? a=Aa o/\H a=Ai)->Ey a s.heap h'->HOk X.prog X.w H h':=fun {a h'} ha hs b ob e=>by
  obtain ⟨_,_,hfree⟩:=ha;refine (I.hok b ob e).stay (fun c w' hc q=>(hs.2 c ?_).trans q) (fun _ q=>q) fun _ _ q=>q;rintro rfl;rcases hc with rfl | hc
  ·rw [hfree] at e;cases e
  ·rw [hfree] at hc;cases hc
 rcases hx with hk | hk
 ·refine wpAny_storeName_local hk hn (fun h' hn' hs=>?_) hcls;obtain ⟨oL,_,_,hoL,_⟩:=id hn;refine h _ ⟨I.ok,I.os,I.bare,⟨fun b o e n hb hx=>?_,fun b o e n hb hx=>?_,I.base.free,fun b o e hx=>?_,I.base.tups,I.base.frzs,I.base.tbls⟩,⟨_,hn',fun j y v' e1 e2 e3=>?_⟩,fun y c e=>?_,I.free,I.freeC,fun p hp=>?_,tracked ⟨oL,hoL,I.free⟩ hs,by simpa using I.len⟩ ⟨_,hs,.inl rfl⟩
  ·exact (hs.2 b (B1 (B' (A_ e) I.ok.above))).trans (I.base.keep b o e n hb hx)
  ·obtain ⟨sl,e1⟩:=I.base.slot b o e n hb hx;exact ⟨sl,(hs.2 b (B1 (B' (A_ e) I.ok.above))).trans e1⟩
  ·obtain ⟨o',e1⟩:=I.base.there b o e hx;exact ⟨o',(hs.2 b (B1 (B' (A_ e) I.ok.above))).trans e1⟩
  ·by_cases hj:j=i
   ·subst hj;rw [hi] at e1;cases e1;rw [Wh hiσ] at e2
    cases e2
    exact ⟨u,r,.inl ⟨hk,by simp⟩⟩
   ·rw [Wg (BF hj)] at e2;obtain ⟨u',r',q⟩:=hl j y v' e1 e2 e3;refine ⟨u',r',?_⟩;rcases q with ⟨k,e⟩ | ⟨k,c,e,z⟩
    ·refine .inl ⟨k,?_⟩;have:y≠x:=fun e=>hj (Rp hN e1 (e ▸ hi));simp [this,e]
    ·exact .inr ⟨k,c,e,z.sameBut hs (cne y c e)⟩
  ·obtain ⟨w',z⟩:=I.cell y c e;exact ⟨w',z.sameBut hs (cne y c e)⟩
  ·obtain ⟨e,n,ne,nf,d⟩:=I.pin p hp;exact ⟨(hs.2 p.1 ne).trans e,n,ne,nf,d⟩
 ·have hfn:X.fn x=Af:=by
   rcases hf with z | z
   ·exact z
   ·rw [z] at hk;cases hk
  obtain ⟨c,hc⟩:=I.ok.has x (.inl hk);obtain ⟨w',z⟩:=I.cell x c hc;refine wpAny_storeName_cell I.ok.kind hk hc z (fun h' hc' hs=>?_);obtain ⟨oc,hoc,hocd⟩:=id z;refine h { s with heap:=h' } ⟨I.ok,I.os,I.bare,⟨fun b o e n hb hx=>?_,fun b o e n hb hx=>?_,I.base.free,fun b o e hx=>?_,I.base.tups,I.base.frzs,I.base.tbls⟩,⟨m,hn.sameBut hs (BF (cne x c hc)),fun j y v' e1 e2 e3=>?_⟩,fun y c' e=>?_,I.free,I.freeC,fun p hp=>?_,tracked ⟨oc,hoc,I.freeC x c hc⟩ hs,by simpa using I.len⟩ ⟨c,hs,.inr hc⟩
  ·exact (hs.2 b (B1 (B' (A_ e) (I.ok.cab x c hfn hc)))).trans (I.base.keep b o e n hb hx)
  ·obtain ⟨sl,e1⟩:=I.base.slot b o e n hb hx;exact ⟨sl,(hs.2 b (B1 (B' (A_ e) (I.ok.cab x c hfn hc)))).trans e1⟩
  ·obtain ⟨o',e1⟩:=I.base.there b o e hx;exact ⟨o',(hs.2 b (B1 (B' (A_ e) (I.ok.cab x c hfn hc)))).trans e1⟩
  ·by_cases hj:j=i
   ·subst hj;rw [hi] at e1;cases e1;rw [Wh hiσ] at e2
    cases e2
    exact ⟨u,r,.inr ⟨.inl hk,c,hc,hc'⟩⟩
   ·rw [Wg (BF hj)] at e2;obtain ⟨u',r',q⟩:=hl j y v' e1 e2 e3;refine ⟨u',r',?_⟩;rcases q with q | ⟨k,c',e,z'⟩
    ·exact .inl q
    ·refine .inr ⟨k,c',e,z'.sameBut hs ?_⟩;rintro rfl;exact hj (Rp hN e1 (I.ok.inj _ _ _ e hc ▸ hi))
  ·by_cases hcc:c'=c
   ·subst hcc;exact ⟨_,hc'⟩
   ·obtain ⟨w2,z2⟩:=I.cell y c' e;exact ⟨w2,z2.sameBut hs hcc⟩
  ·obtain ⟨e,n,ne,nf,d⟩:=I.pin p hp;refine ⟨(hs.2 p.1 ?_).trans e,n,ne,nf,d⟩;intro q;rw [q,hoc] at e;have q':oc=p.2:=Bn e;exact d w' (by rw [<- q'];exact hocd)
theorem UM {M:Ff} {A:AR} {E:Ah->Aj->Prop} {i:Ae} {x:Ak} {v:V} {u:Ah} {Q:Unit->Aj->Prop} (I:Inv X pins σ H s) (hN:X.N.Nodup) (hi:X.N[i]?=Aa x) (hx:Loc X.env.scope x) (r:AQ v u)
 (h:∀s',Inv X pins (σ.set i (Aa v)) H s'->Q () s') (hf:X.fn x=Af\/X.env.scope.names.lookup x=Aa .local:=by first | exact .inl rfl | exact .inr rfl | assumption):Au M A (storeName X.env x u) Q E s :=
 UN I hN hi hx r (fun s' I' _=>h s' I') hf
theorem Inv.call' {s':Aj} {ch:Ac Ad} (I:Inv X pins σ H s) (ho:s'.os=s.os) (u:Un (frs X.stack) ch H H' s.heap s'.heap) (hok:HOk X.prog X.w H' s'.heap) (hg:Ga s'.gens)
 (hch:∀b∈ch,(b∈X.ex\/X.s₀.heap.objs.size<=b)/\b≠X.env.locals/\(∀x c,X.env.cells.lookup x=Aa c->c≠b)/\∀p∈X.pn++pins,p.1≠b):Inv X pins σ H' s':=by
 obtain ⟨h',g',d',t',o'⟩:=s';have e:o'=s.os:=ho;subst e;exact I.call (g':=g') (t':=t') (d':=d') u hok hg hch
end
abbrev XK:=Ah->A5 Ad->Hp->Prop
abbrev St:=Ac (A5 V)
abbrev VK:=V->Hp->Prop
abbrev TE:=St->Hp->VK->Prop
abbrev TT:=St->Hp->(AI->Hp->Prop)->Prop
abbrev TA:=St->Hp->(Ac V->Hp->Prop)->Prop
structure D8 where
 nx:St->Hp->Prop
 rt:VK
 bk:St->Hp->Prop:=fun _ _=>BA
 ct:St->Hp->Prop:=fun _ _=>BA
abbrev TS:=D8->St->Hp->Prop
noncomputable def EP (X:Cx) (pins:Ac (Ad × A2)) (σ:St) (Q:VK) (u:Ah) (s':Aj):Prop:=∃v H',Inv X pins σ H' s'/\AQ v u/\Q v H'
noncomputable def TP (X:Cx) (pins:Ac (Ad × A2)) (σ:St) (Q:AI->Hp->Prop) (b:AI) (s':Aj):Prop:=∃H',Inv X pins σ H' s'/\Q b H'
noncomputable def AP (X:Cx) (pins:Ac (Ad × A2)) (σ:St) (Q:Ac V->Hp->Prop) (us:Ac Ah) (s':Aj):Prop:=∃vs H',Inv X pins σ H' s'/\AU vs us/\Q vs H'
noncomputable def SP (X:Cx) (pins:Ac (Ad × A2)) (D:D8) (f:Flow) (s':Aj):Prop :=
 match f with
 | .next=>∃σ' H',Inv X pins σ' H' s'/\D.nx σ' H'
 | .brk=>∃σ' H',Inv X pins σ' H' s'/\D.bk σ' H'
 | .cont=>∃σ' H',Inv X pins σ' H' s'/\D.ct σ' H'
 | .ret u=>∃v σ' H',Inv X pins σ' H' s'/\AQ v u/\D.rt v H'
noncomputable def PE (X:Cx) (e:A4) (t:TE):Prop :=
 ∀(pins:Ac (Ad × A2)) (s:Aj) (σ:St) (H:Hp) (Q:VK),Inv X pins σ H s->t σ H Q->Au (A6 X.prog X.w) X.A (eval e X.env) (EP X pins σ Q) X.xe s
noncomputable def PT (X:Cx) (e:A4) (t:TT):Prop :=
 ∀(pins:Ac (Ad × A2)) (s:Aj) (σ:St) (H:Hp) (Q:AI->Hp->Prop),Inv X pins σ H s->t σ H Q->Au (A6 X.prog X.w) X.A (isTrue e X.env (eval e X.env)) (TP X pins σ Q) X.xe s
noncomputable def PW (X:Cx) (e:A4) (t:TT):Prop :=
 ∀(whole:CQ Ah) (pins:Ac (Ad × A2)) (s:Aj) (σ:St) (H:Hp) (Q:AI->Hp->Prop),Inv X pins σ H s->t σ H Q->Au (A6 X.prog X.w) X.A (isTrue e X.env whole) (TP X pins σ Q) X.xe s
theorem PW.pt {X:Cx} {e:A4} {t:TT} (h:PW X e t):PT X e t:=h _
noncomputable def PA (X:Cx) (es:Ac A4) (t:TA):Prop :=
 ∀(pos:Pos) (pins:Ac (Ad × A2)) (s:Aj) (σ:St) (H:Hp) (Q:Ac V->Hp->Prop),Inv X pins σ H s->t σ H Q->Au (A6 X.prog X.w) X.A (spliced (backTo pos (Bh es X.env))) (AP X pins σ Q) X.xe s
noncomputable def PS (X:Cx) (st:AC) (t:TS):Prop :=
 ∀(pins:Ac (Ad × A2)) (s:Aj) (σ:St) (H:Hp) (D:D8),Inv X pins σ H s->t D σ H->Au (A6 X.prog X.w) X.A (exec st X.env) (SP X pins D) X.xe s
noncomputable def PSs (X:Cx) (st:Ac AC) (t:TS):Prop :=
 ∀(pins:Ac (Ad × A2)) (s:Aj) (σ:St) (H:Hp) (D:D8),Inv X pins σ H s->t D σ H->Au (A6 X.prog X.w) X.A (execs st X.env) (SP X pins D) X.xe s
theorem thn {α:Type} {t:CQ α} {Q Q':α->Aj->Prop} {M:Ff} {A:AR} {E:Ah->Aj->Prop} {s:Aj} (h:Au M A t Q E s) (hQ:∀a s,Q a s->Q' a s):Au M A t Q' E s:=DM h hQ fun _ _ x=>x
end L2
namespace L2
open PySem PySem.Spec PyProof.Rows
section
variable {X:Cx}
inductive Im (i:Ae) (σ:St) (H:Hp) (Q:VK):Prop
 | mk (v:V):σ[i]?=Aa (Aa v)->Q v H->Im i σ H Q
noncomputable def tC (v:V):TE:=fun _ H Q=>Q v H
theorem AaS {i:Ae} {x:Ak} {pos:Pos} (hN:X.N[i]?=Aa x) (hv:Vis X.env.scope x) (hd:(x == ("__debug__":Ak))=Aq:=by decide) (hcd:(x == ("__classdict__":Ak))=Aq:=by decide):PE X (.Name x pos) (Im i):=by
 intro pins s σ H Q I h;obtain ⟨v,e,h⟩:=h;obtain ⟨m,hn,hl⟩:=I.loc;obtain ⟨u,r,l⟩:=hl i x v hN e hv;have fin:EP X pins σ Q u s:=⟨v,H,I,r,h⟩;rcases l with ⟨hk,hm⟩ | ⟨hk,c,hc,hcell⟩
 ·exact P0 (wpAny_loadName_local I.ok.kind hk hn hm fin) hd
 ·rcases hk with hk | hk
  ·exact P0 (wpAny_loadName_cell I.ok.kind hk hc hcell fin) hd
  ·exact P0 (wpAny_loadName_free I.ok.kind hk hc hcell fin hcd) hd
theorem As {i j pos}:PE X (.Constant (.int i) j pos) (tC (.int i)):=fun _ _ _ H _ I h=>wpAny_Constant_int ⟨.int i,H,I.tok _,⟨_,rfl⟩,h⟩
theorem Fu {b j pos}:PE X (.Constant (.bool b) j pos) (tC (.bl b)):=fun _ _ _ H _ I h=>Constant_bool ⟨.bl b,H,I,rfl,h⟩
theorem FS {j pos}:PE X (.Constant .none j pos) (tC .non):=fun _ _ _ H _ I h=>Constant_none ⟨.non,H,I,rfl,h⟩
theorem Dw {x j pos}:PE X (.Constant (.str x) j pos) (tC (.str x)):=fun _ _ _ H _ I h=>Calls.Constant_str ⟨.str x,H,I.tok _,⟨_,rfl⟩,h⟩
noncomputable def Gl (X:Cx) (x:Ak):Prop:=X.env.kindOf x=Aa .globalImplicit
theorem KG {E:Ah->Aj->Prop} {pins:Ac (Ad × A2)} {s:Aj} {σ:St} {H:Hp} {x:Ak} {u:Ah} {pos:Pos} {Q:Ah->Aj->Prop} (I:Inv X pins σ H s) (hg:Gl X x) (hm:X.mg x=Aa u) (h:Q u s)
 (hd:(x == ("__debug__":Ak))=Aq:=by decide):Au (A6 X.prog X.w) X.A (eval (.Name x pos) X.env) Q E s :=
 VA I.ok.kind hg (Calls.loadGlobal_global (by rw [I.ok.glob];exact I.mod.glob.keeps I.bk) hm h) hd
theorem Fo {E:Ah->Aj->Prop} {pins:Ac (Ad × A2)} {s:Aj} {σ:St} {H:Hp} {x:Ak} {u:Ah} {pos:Pos} {Q:Ah->Aj->Prop} (I:Inv X pins σ H s) (hg:Gl X x) (hm:X.mg x=Ai) (hv:bootBuiltins x=Aa u) (h:Q u s)
 (hn:x≠"__name__":=by decide) (hd:(x == ("__debug__":Ak))=Aq:=by decide):Au (A6 X.prog X.w) X.A (eval (.Name x pos) X.env) Q E s:=by
 obtain ⟨mb,h1,h2⟩:=I.mod.blt;exact VA I.ok.kind hg (Calls.loadGlobal_builtin (by rw [I.ok.glob];exact I.mod.glob.keeps I.bk) hm (by rw [I.ok.blt];exact h1.keeps I.bk) ((h2 x hn).trans hv) h) hd
theorem Jw {x:Ak} {v:V} {u:Ah} {pos:Pos} (hg:Gl X x) (hm:X.mg x=Aa u) (r:AQ v u) (hd:(x == ("__debug__":Ak))=Aq:=by decide):PE X (.Name x pos) (tC v) :=
 fun _ _ _ H _ I h=>KG I hg hm ⟨v,H,I,r,h⟩ hd
theorem Ig {x:Ak} {v:V} {u:Ah} {pos:Pos} (hg:Gl X x) (hm:X.mg x=Ai) (hv:bootBuiltins x=Aa u) (r:AQ v u) (hn:x≠"__name__":=by decide) (hd:(x == ("__debug__":Ak))=Aq:=by decide):PE X (.Name x pos) (tC v) :=
 fun _ _ _ H _ I h=>Fo I hg hm hv ⟨v,H,I,r,h⟩ hn hd
variable {a b:A4} {ta tb:TE} {pos:Pos}
inductive isB (x:V) (H:Hp) (Q:AI->Hp->Prop):Prop
 | mk (c:AI):x=.bl c->Q c H->isB x H Q
noncomputable def tB (t:TE):TT:=fun σ H Q=>t σ H fun x H1=>isB x H1 Q
theorem C5 {e:A4} {t:TE} (h:PE X e t) (he:∀whole,isTrue e X.env whole=(do let v <- whole;standAt e.pos;holding [v] (truthy v)):=by intro _;rfl):PT X e (tB t):=by
 intro pins s σ H Q I hw;refine isTrue_plain (thn (h pins s σ H _ I hw) fun v s1 ⟨x,H1,I1,r1,q1⟩=>?_) (he _);obtain ⟨d,rfl,q⟩:=q1
 cases r1
 exact FI ⟨H1,I1,q⟩
variable {tA tB':TT} {rest:Ac A4}
noncomputable def UR (t u:TT):TT:=fun σ H Q=>t σ H fun c H1=>if c=Af then u σ H1 Q else Q Aq H1
noncomputable def tOr (t u:TT):TT:=fun σ H Q=>t σ H fun c H1=>if c=Af then Q Af H1 else u σ H1 Q
noncomputable def AcA (t:TT):TT:=fun σ H Q=>t σ H fun c H1=>Q (!c) H1
theorem Li (ha:PT X a tA):PW X (.BoolOp .And [a] pos) tA:=by
 intro wh pins s σ H Q I h;refine isTrue_and (thn (ha pins s σ H Q I h) fun c s1 e=>?_)
 cases c with
 | true=>exact isTrue_and_nil e
 | false=>exact e
theorem Ij (ha:PT X a tA):PW X (.BoolOp .Or [a] pos) tA:=by
 intro wh pins s σ H Q I h;refine isTrue_or (thn (ha pins s σ H Q I h) fun c s1 e=>?_)
 cases c with
 | false=>exact isTrue_or_nil e
 | true=>exact e
theorem Lh (ha:PT X a tA) (hb:PW X (.BoolOp .And (b :: rest) pos) tB'):PW X (.BoolOp .And (a :: b :: rest) pos) (UR tA tB'):=by
 intro wh pins s σ H Q I h;refine isTrue_and (thn (ha pins s σ H _ I h) fun c s1 hq_=>?_);obtain ⟨H1,I1,q1⟩:=hq_
 cases c with
 | true=>exact hb wh pins s1 σ H1 Q I1 q1
 | false=>exact ⟨H1,I1,q1⟩
theorem Hj (ha:PT X a tA) (hb:PW X (.BoolOp .Or (b :: rest) pos) tB'):PW X (.BoolOp .Or (a :: b :: rest) pos) (tOr tA tB'):=by
 intro wh pins s σ H Q I h;refine isTrue_or (thn (ha pins s σ H _ I h) fun c s1 hq_=>?_);obtain ⟨H1,I1,q1⟩:=hq_
 cases c with
 | true=>exact ⟨H1,I1,q1⟩
 | false=>exact hb wh pins s1 σ H1 Q I1 q1
theorem Es (ha:PT X a tA):PT X (.UnaryOp .Not a pos) (AcA tA):=by
 intro pins s σ H Q I h;exact isTrue_not (ha pins s σ H (fun c H1=>Q (!c) H1) I h)
noncomputable def Aco (ta tb:TE):TE:=fun σ H Q=>ta σ H fun x H1=>∃c,x=.bl c/\if c=Af then tb σ H1 Q else Q (.bl Aq) H1
noncomputable def AcC (ta tb:TE):TE:=fun σ H Q=>ta σ H fun x H1=>∃c,x=.bl c/\if c=Af then Q (.bl Af) H1 else tb σ H1 Q
noncomputable def AcB (ta:TE):TE:=fun σ H Q=>ta σ H fun x H1=>∃c,x=.bl c/\Q (.bl (!c)) H1
theorem FT {op} {t:TE} (h:PE X a t):PE X (.BoolOp op [a] pos) t:=fun pins s σ H Q I hw=>BoolOp_one (h pins s σ H Q I hw)
theorem Ft (ha:PE X a ta) (hb:PE X (.BoolOp .And (b :: rest) pos) tb):PE X (.BoolOp .And (a :: b :: rest) pos) (Aco ta tb):=by
 intro pins s σ H Q I h;refine BoolOp_and (thn (ha pins s σ H _ I h) fun v s1 hq_=>?_);obtain ⟨x,H1,I1,r1,q1⟩:=hq_;obtain ⟨c,rfl,q1⟩:=q1
 cases r1
 refine FI ?_
 cases c with
 | true=>exact hb pins s1 σ H1 Q I1 q1
 | false=>exact ⟨.bl Aq,H1,I1,rfl,q1⟩
theorem AaN (ha:PE X a ta) (hb:PE X (.BoolOp .Or (b :: rest) pos) tb):PE X (.BoolOp .Or (a :: b :: rest) pos) (AcC ta tb):=by
 intro pins s σ H Q I h;refine BoolOp_or (thn (ha pins s σ H _ I h) fun v s1 hq_=>?_);obtain ⟨x,H1,I1,r1,q1⟩:=hq_;obtain ⟨c,rfl,q1⟩:=q1
 cases r1
 refine FI ?_
 cases c with
 | false=>exact hb pins s1 σ H1 Q I1 q1
 | true=>exact ⟨.bl Af,H1,I1,rfl,q1⟩
theorem RL (ha:PE X a ta):PE X (.UnaryOp .Not a pos) (AcB ta):=by
 intro pins s σ H Q I h;refine UnaryOp_ (thn (ha pins s σ H _ I h) fun v s1 hq_=>?_);obtain ⟨x,H1,I1,r1,q1⟩:=hq_;obtain ⟨c,rfl,q1⟩:=q1
 cases r1
 exact not_of (FI ⟨.bl (!c),H1,I1,rfl,q1⟩)
noncomputable def tIf (t:TT) (ta tb:TE):TE:=fun σ H Q=>t σ H fun c H1=>if c=Af then ta σ H1 Q else tb σ H1 Q
theorem G5 {c:A4} (hc:PT X c tA) (ha:PE X a ta) (hb:PE X b tb):PE X (.IfExp c a b pos) (tIf tA ta tb):=by
 intro pins s σ H Q I h;refine wpAny_IfExp (thn (hc pins s σ H _ I h) fun d s1 hq_=>?_);obtain ⟨H1,I1,q1⟩:=hq_
 cases d with
 | true=>exact ha pins s1 σ H1 Q I1 q1
 | false=>exact hb pins s1 σ H1 Q I1 q1
end
end L2
namespace L2
open PySem PySem.Spec PyProof.Rows
noncomputable def SqL (K:A8) (H:Hp) (a:Ad) (xs:Ac V):Prop :=
 Rd H a (.lst xs) \/
  ∃(o:A2) (its:AL Ah) (n:Ae),K.lookup a=Aa o/\o.cls=.type "list"/\o.dict=Ai/\o.data=.seq its n/\its.size<=AB/\AU xs its.toList
noncomputable def SqT (K:A8) (H:Hp) (a:Ad) (xs:Ac V):Prop :=
 Rd H a (.tup xs) \/
  ∃(o:A2) (its:AL Ah) (n:Ae),K.lookup a=Aa o/\o.cls=.type "tuple"/\o.data=.seq its n/\its.size<=AB/\AU xs its.toList
noncomputable def XQ:Ah->A5 V
 | .none=>Aa .non
 | .bool b=>Aa (.bl b)
 | .int i _=>Aa (.int i)
 | .str x _=>Aa (.str x)
 | .bytes b _=>Aa (.byt b)
 | .float b _=>Aa (.flt b)
 | .ref a=>Aa (.ref a)
 | .type n=>Aa (.ty n)
 | _=>Ai
theorem AQ.abs {x:V} {u:Ah} (r:AQ x u):XQ u=Aa x:=by
 cases x with
 | non=>cases r;rfl
 | bl _=>cases r;rfl
 | int _=>obtain ⟨t,rfl⟩:=r;rfl
 | str _=>obtain ⟨t,rfl⟩:=r;rfl
 | byt _=>obtain ⟨t,rfl⟩:=r;rfl
 | flt _=>obtain ⟨t,rfl⟩:=r;rfl
 | ref _=>cases r;rfl
 | ty _=>cases r;rfl
theorem AQ.inj {x y:V} {u:Ah} (r:AQ x u) (q:AQ y u):x=y:=Bn (r.abs.symm.trans q.abs)
theorem AU.inj:∀{xs ys:Ac V} {us:Ac Ah},AU xs us->AU ys us->xs=ys
 | _,_,_,.nil,.nil=>rfl
 | _,_,_,.cons r t,.cons r' t'=>by rw [r.inj r',AU.inj t t']
section
variable {X:Cx} {pins:Ac (Ad × A2)} {σ:St} {H:Hp} {s:Aj} {a:Ad} {xs ys:Ac V}
theorem SqL.of {K:A8} (h:H a=Aa (.lst xs)):SqL K H a xs:=.inl (.inl h)
theorem SqT.of {K:A8} (h:H a=Aa (.tup xs)):SqT K H a xs:=.inl (.inl h)
theorem Inv.list (I:Inv X pins σ H s) (h:SqL X.K H a xs):∃its:Ac Ah,AU xs its/\PlainL s.heap a its.toArray/\xs.length<=AB:=by
 rcases h with h | ⟨o,its,n,hk,hc,hd,hs,hz,r⟩
 ·obtain ⟨z,its,n,r,e⟩:=h.ok I.hok;exact ⟨its,r,⟨_,n,e,rfl,rfl,rfl⟩,z⟩
 ·refine ⟨its.toList,r,⟨o,n,I.kIn a o hk,hc,hd,by simpa using hs⟩,?_⟩;have e:=r.length;simp only [Ec] at e;omega
theorem Inv.tuple (I:Inv X pins σ H s) (h:SqT X.K H a xs):∃its:Ac Ah,AU xs its/\IsTup s.heap a its.toArray/\xs.length<=AB:=by
 rcases h with h | ⟨o,its,n,hk,hc,hs,hz,r⟩
 ·obtain ⟨z,its,r,p⟩:=h.ok I.hok;exact ⟨its,r,p,z⟩
 ·refine ⟨its.toList,r,⟨o,I.kIn a o hk,hc,n,by simpa using hs⟩,?_⟩;have e:=r.length;simp only [Ec] at e;omega
theorem Inv.list_inj (I:Inv X pins σ H s) (h:SqL X.K H a xs) (h':SqL X.K H a ys):xs=ys:=by
 obtain ⟨its,r,⟨o,n,e,_,_,d⟩,_⟩:=I.list h;obtain ⟨its',r',⟨o',n',e',_,_,d'⟩,_⟩:=I.list h';rw [e] at e';cases e';rw [d] at d';injection d' with d1 _
 have:its=its':=by simpa using Bx Array.toList d1
 subst this;exact r.inj r'
theorem Inv.tuple_inj (I:Inv X pins σ H s) (h:SqT X.K H a xs) (h':SqT X.K H a ys):xs=ys:=by
 obtain ⟨its,r,⟨o,e,_,n,d⟩,_⟩:=I.tuple h;obtain ⟨its',r',⟨o',e',_,n',d'⟩,_⟩:=I.tuple h';rw [e] at e';cases e';rw [d] at d';injection d' with d1 _
 have:its=its':=by simpa using Bx Array.toList d1
 subst this;exact r.inj r'
end
abbrev Cx.wish (X:Cx) (E:Ah->Aj->Prop):Cx:={ X with xe:=E }
abbrev Cx.nox (X:Cx):Cx:=X.wish fun _ _=>BA
theorem Cx.Ok.wish {X:Cx} (ok:X.Ok) (E:Ah->Aj->Prop):(X.wish E).Ok :=
 ⟨ok.mod,ok.kind,ok.glob,ok.blt,ok.above,ok.inj,ok.has,ok.cab,ok.hd,ok.frames,ok.stk,ok.exf,ok.bs,ok.bsz,ok.noex,ok.exfs,ok.funs,ok.frf⟩
theorem Cx.Ok.unwish {X:Cx} {E:Ah->Aj->Prop} (ok:(X.wish E).Ok):X.Ok :=
 ⟨ok.mod,ok.kind,ok.glob,ok.blt,ok.above,ok.inj,ok.has,ok.cab,ok.hd,ok.frames,ok.stk,ok.exf,ok.bs,ok.bsz,ok.noex,ok.exfs,ok.funs,ok.frf⟩
section
variable {X:Cx} {pins:Ac (Ad × A2)} {σ:St} {H:Hp} {s:Aj} {E:Ah->Aj->Prop}
theorem Inv.wish (I:Inv X pins σ H s) (E:Ah->Aj->Prop):Inv (X.wish E) pins σ H s:=⟨I.ok.wish E,I.os,I.bare,I.base,I.loc,I.cell,I.free,I.freeC,I.pin,I.hok,I.len⟩
theorem Inv.unwish (I:Inv (X.wish E) pins σ H s):Inv X pins σ H s:=⟨I.ok.unwish,I.os,I.bare,I.base,I.loc,I.cell,I.free,I.freeC,I.pin,I.hok,I.len⟩
theorem SP.unwish {D:D8} {f:Flow} {s':Aj} (h:SP (X.wish E) pins D f s'):SP X pins D f s':=by
 cases f with
 | next=>obtain ⟨σ',H',I,q⟩:=h;exact ⟨σ',H',I.unwish,q⟩
 | brk=>obtain ⟨σ',H',I,q⟩:=h;exact ⟨σ',H',I.unwish,q⟩
 | cont=>obtain ⟨σ',H',I,q⟩:=h;exact ⟨σ',H',I.unwish,q⟩
 | ret u=>obtain ⟨v,σ',H',I,r,q⟩:=h;exact ⟨v,σ',H',I.unwish,r,q⟩
theorem PSs.nox {st:Ac AC} {t:TS} (h:PSs X.nox st t):PSs X st t:=fun pins s σ H D I hw =>
 DM (h pins s σ H D (I.wish _) hw) (fun _ _ q=>q.unwish) fun _ _ z=>Ex z
end
section
variable {X:Cx} {st:AC} {rest:Ac AC} {t u:TS} {e:A4} {te:TE} {pos:Pos}
noncomputable def Ac9:TS:=fun D σ H=>D.nx σ H
noncomputable def UW (t u:TS):TS:=fun D σ H=>t { D with nx:=u D } σ H
theorem Bp:PSs X [] Ac9:=fun _ _ σ H _ I h=>MH ⟨σ,H,I,h⟩
theorem Av (h1:PS X st t) (h2:PSs X rest u):PSs X (st :: rest) (UW t u):=by
 intro pins s σ H D I h;refine X3 (thn (h1 pins s σ H { D with nx:=u D } I h) fun f s1 q=>?_)
 cases f with
 | next =>
   obtain ⟨σ',H',I',q⟩:=q;exact h2 pins s1 σ' H' D I' q
 | ret v=>exact q
 | brk=>exact q
 | cont=>exact q
theorem AY (h1:PS X st t):PSs X [st] t:=by
 intro pins s σ H D I h;refine X3 (thn (h1 pins s σ H D I h) fun f s1 q=>?_)
 cases f with
 | next=>exact MH q
 | ret v=>exact q
 | brk=>exact q
 | cont=>exact q
theorem Inv.quiet {pins:Ac (Ad × A2)} {σ:St} {H:Hp} {s:Aj} (I:Inv X pins σ H s):interactive X.env=Aq:=by simp [interactive,I.ok.kind]
noncomputable def Ac1 (te:TE):TS:=fun D σ H=>te σ H fun _ H1=>D.nx σ H1
theorem CG (he:PE X e te) (hs:swapsWith e Ai pos.line X.env=pure Aq:=by rfl):PS X (.Expr e pos) (Ac1 te):=by
 intro pins s σ H D I h;exact wpAny_Expr_any (thn (he pins s σ H _ I h) fun v s1 ⟨x,H1,I1,r1,q1⟩=>⟨σ,H1,I1,q1⟩) I.quiet hs
noncomputable def AcD (te:TE):TS:=fun D σ H=>te σ H D.rt
theorem Abc (he:PE X e te):PS X (.Return (Aa e) pos) (AcD te):=by
 intro pins s σ H D I h;refine wpAny_Return_some (thn (he pins s σ H _ I h) fun v s1 hq_=>?_);obtain ⟨x,H1,I1,r1,q1⟩:=hq_;exact ⟨x,σ,H1,I1,r1,q1⟩
noncomputable def Ac4 (c:TT) (t u:TS):TS:=fun D σ H=>c σ H fun b H1=>if b=Af then t D σ H1 else u D σ H1
theorem Abb {c:A4} {a b:Ac AC} {tc:TT} (hc:PT X c tc) (ha:PSs X a t) (hb:PSs X b u):PS X (.If c a b pos) (Ac4 tc t u):=by
 intro pins s σ H D I h;refine wpAny_If (thn (hc pins s σ H _ I h) fun d s1 hq_=>?_);obtain ⟨H1,I1,q1⟩:=hq_
 cases d with
 | true=>exact ha pins s1 σ H1 D I1 q1
 | false=>exact hb pins s1 σ H1 D I1 q1
noncomputable def Ac8:TS:=fun _ _ _=>BA
theorem FX:PS X st Ac8:=fun _ _ _ _ _ _ h=>h.elim
end
abbrev TG:=V->St->Hp->(St->Hp->Prop)->Prop
abbrev TGs:=Ac V->St->Hp->(St->Hp->Prop)->Prop
noncomputable def PG (X:Cx) (target:A4) (t:TG):Prop :=
 ∀(pins:Ac (Ad × A2)) (s:Aj) (σ:St) (H:Hp) (v:V) (u:Ah) (Q:St->Hp->Prop),Inv X pins σ H s->AQ v u->t v σ H Q ->
  Au (A6 X.prog X.w) X.A (assign target X.env u) (fun _ s'=>∃σ' H',Inv X pins σ' H' s'/\Q σ' H') X.xe s
noncomputable def PGs (X:Cx) (ts:Ac A4) (t:TGs):Prop :=
 ∀(pins:Ac (Ad × A2)) (s:Aj) (σ:St) (H:Hp) (vs:Ac V) (us:Ac Ah) (Q:St->Hp->Prop),Inv X pins σ H s->AU vs us->t vs σ H Q ->
  Au (A6 X.prog X.w) X.A (assignInOrder ((assignEach ts X.env).map (·.2)) us) (fun _ s'=>∃σ' H',Inv X pins σ' H' s'/\Q σ' H') X.xe s
abbrev MU:=V->V->V->Hp->(Hp->Prop)->Prop
noncomputable def P9 (X:Cx) (t:MU):Prop :=
 ∀(pins:Ac (Ad × A2)) (s:Aj) (σ:St) (H:Hp) (o i v:V) (ov iv u:Ah) (Q:Hp->Prop),Inv X pins σ H s->AQ o ov->AQ i iv->AQ v u->t o i v H Q ->
  Au (A6 X.prog X.w) X.A (setItem ov iv u) (fun _ s'=>∃H',Inv X pins σ H' s'/\Q H') X.xe s
section
variable {X:Cx} {pos:Pos}
noncomputable def BS (i:Ae):TG:=fun v σ H Q=>Q (σ.set i (Aa v)) H
theorem B5 {i:Ae} {x:Ak} (hN:X.N.Nodup) (hi:X.N[i]?=Aa x) (hx:Loc X.env.scope x) (hf:X.fn x=Af\/X.env.scope.names.lookup x=Aa .local:=by first | exact .inl rfl | exact .inr rfl | assumption):PG X (.Name x pos) (BS i):=by
 intro pins s σ H v u Q I r h;exact Xy (UM I hN hi hx r (fun s' I'=>⟨_,H,I',h⟩) hf)
noncomputable def Fn:TGs:=fun vs σ H Q=>vs=[]/\Q σ H
inductive C7 (t:TG) (u:TGs) (vs:Ac V) (σ:St) (H:Hp) (Q:St->Hp->Prop):Prop
 | mk (v:V) (r:Ac V):vs=v :: r->(t v σ H fun σ' H'=>u r σ' H' Q)->C7 t u vs σ H Q
theorem ED:PGs X [] Fn:=by
 intro pins s σ H vs us Q I r h;obtain ⟨e,h⟩:=h;subst e
 cases r
 exact assignInOrder_nil ⟨σ,H,I,h⟩
theorem BY {e:A4} {es:Ac A4} {t:TG} {u:TGs} (h1:PG X e t) (h2:PGs X es u)
 (hs:(assignEach (e :: es) X.env).map (·.2)=assign e X.env :: (assignEach es X.env).map (·.2):=by rfl):PGs X (e :: es) (C7 t u):=by
 intro pins s σ H vs us Q I r h;obtain ⟨v,vr,e1,h⟩:=h;subst e1
 cases r with
 | cons r rr =>
   rw [hs];refine assignInOrder_cons (thn (h1 pins s σ H _ _ _ I r h) fun _ s1 hq_=>?_);obtain ⟨σ1,H1,I1,q1⟩:=hq_;exact h2 pins s1 σ1 H1 _ _ Q I1 rr q1
inductive EQ (K:A8) (n:Ae) (t:TGs) (v:V) (σ:St) (H:Hp) (Q:St->Hp->Prop):Prop
 | mk (a:Ad) (xs:Ac V):v=.ref a->SqT K H a xs->xs.length=n->t xs σ H Q->EQ K n t v σ H Q
theorem EC {es:Ac A4} {k:Ae} {t:TGs} {n:Ae} (hc:X.calm=Af) (h:PGs X es t)
 (hn:(assignEach es X.env).length=n:=by rfl) (hst:(assignEach es X.env).findIdx? (·.1)=Ai:=by rfl):PG X (.Tuple es k pos) (EQ X.K n t):=by
 intro pins s σ H v u Q I r hw;obtain ⟨a,xs,e1,hq,hl,hw⟩:=hw;subst e1
 cases r
 obtain ⟨its,rv,ht,hz⟩:=I.tuple hq;refine assign_Tuple_tuple (I.ok.hd hc) ht (by simp [hn,<- hl,rv.length]) hst fun h' hx=>?_;have I1:Inv X pins σ H { s with heap:=h' }:=I.kept (t':=s.toks) fun b o e=>hx b o (B1 (A_ e)) e;exact h pins _ σ H xs _ Q I1 (by simpa using rv) hw
noncomputable def YL (to ti:TE) (t:MU):TG:=fun v σ H Q=>to σ H fun o H1=>ti σ H1 fun i H2=>t o i v H2 fun H3=>Q σ H3
theorem RM {o i:A4} {to ti:TE} {t:MU} (ho:PE X o to) (hi:PE X i ti) (hs:P9 X t)
 (ha:∀v,assign (.Subscript o i pos) X.env v=(do
  let ov <- holding [v] (eval o X.env)
  let iv <- holding [v,ov] (eval i X.env)
  standAt pos
  holding [v,ov,iv] (setItem ov iv v)
  release [v,ov,iv] []):=by intro _;rfl):PG X (.Subscript o i pos) (YL to ti t):=by
 intro pins s σ H v u Q I r h;rw [ha];refine An (Dq (thn (ho pins s σ H _ I h) fun ov s1 hq_=>?_));obtain ⟨x,H1,I1,r1,q1⟩:=hq_;refine An (Dq (thn (hi pins s1 σ H1 _ I1 q1) fun iv s2 hq_=>?_));obtain ⟨y,H2,I2,r2,q2⟩:=hq_;refine An (MM (An (Dq (thn (hs pins s2 σ H2 x y v ov iv u _ I2 r1 r2 r q2) fun _ s3 hq_=>?_))));obtain ⟨H3,I3,q3⟩:=hq_;exact wpAny_release ⟨σ,H3,I3,q3⟩
noncomputable def Il (te:TE) (g:TG):TS:=fun D σ H=>te σ H fun x H1=>g x σ H1 D.nx
theorem RR {tg e:A4} {te:TE} {g:TG} (he:PE X e te) (hg:PG X tg g) (hs:swapsWithSole [tg] e pos.line X.env=pure Aq:=by rfl) (hw:swappedStores [tg] e X.env=pure Ai:=by rfl)
 (h1:(assignEach [tg] X.env).map (·.2)=[assign tg X.env]:=by rfl):PS X (.Assign [tg] e pos) (Il te g):=by
 intro pins s σ H D I h;refine wpAny_Assign_stores (thn (he pins s σ H _ I h) fun v s1 ⟨x,H1,I1,r1,q1⟩=>?_) hs hw;rw [h1];exact thn (hg pins s1 σ H1 x v _ I1 r1 q1) fun _ s2 q=>q
theorem RS {i:Ae} {x:Ak} {e:A4} {te:TE} {pos':Pos} (hN:X.N.Nodup) (hi:X.N[i]?=Aa x) (hx:Loc X.env.scope x) (he:PE X e te) (hs:swapsWith e (Aa (.Name x pos')) pos.line X.env=pure Aq:=by rfl) (hf:X.fn x=Af\/X.env.scope.names.lookup x=Aa .local:=by first | exact .inl rfl | exact .inr rfl | assumption) :
 PS X (.Assign [.Name x pos'] e pos) (Il te (BS i)):=by
 intro pins s σ H D I h;refine wpAny_Assign_Name (thn (he pins s σ H _ I h) fun v s1 ⟨y,H1,I1,r1,q1⟩=>?_) hs;exact UM I1 hN hi hx r1 (fun s2 I2=>⟨_,H1,I2,q1⟩) hf
end
section
variable {X:Cx} {pos:Pos}
noncomputable def Oa (c:TT) (tb:TS):TS:=fun D σ H=>∃W:Ae->St->Hp->Prop,(∃m,W m σ H)/\∀m σ H,W m σ H ->
 c σ H fun b H1=>if b=Af then ∃N:St->Hp->Prop,(∀σ' H',N σ' H'->∃m',m' < m/\W m' σ' H')/\tb { D with nx:=N,ct:=N,bk:=D.nx } σ H1 else D.nx σ H1
theorem Lg {c:A4} {body:Ac AC} {tc:TT} {tb:TS} (hp:PassesOwn (A6 X.prog X.w) X.A X.env X.xe) (hc:PT X c tc) (hb:PSs X body tb):PS X (.While c body [] pos) (Oa tc tb):=by
 intro pins s σ H D I h;obtain ⟨W,⟨m0,w0⟩,turn⟩:=h;refine wpAny_While (codeAny_whileLoop (fun n s'=>∃σ' H',Inv X pins σ' H' s'/\W n σ' H') ?_ m0 ⟨σ,H,I,w0⟩);rintro n s1 ⟨σ1,H1,I1,w1⟩;refine HM hp (thn (hc pins s1 σ1 H1 _ I1 (turn n σ1 H1 w1)) fun b s2 hq_=>?_);obtain ⟨H2,I2,q2⟩:=hq_
 cases b with
 | true =>
   obtain ⟨N,hN,q2⟩:=q2;rw [Ar rfl];refine HM hp (thn (hb pins s2 σ1 H2 _ I2 q2) fun f s3 q3=>?_)
   cases f with
   | next =>
     obtain ⟨σ3,H3,I3,n3⟩:=q3;obtain ⟨m',hm,w3⟩:=hN σ3 H3 n3;exact ⟨m',hm,σ3,H3,I3,w3⟩
   | cont =>
     obtain ⟨σ3,H3,I3,n3⟩:=q3;obtain ⟨m',hm,w3⟩:=hN σ3 H3 n3;exact ⟨m',hm,σ3,H3,I3,w3⟩
   | brk=>exact q3
   | ret v=>exact q3
 | false =>
   rw [Ao Bl];exact MH ⟨σ1,H2,I2,q2⟩
end
structure It where
 go:Ae->Hp->Prop
 yld:Ae->Hp->V->Hp->Prop
 stop:Ae->Hp->Prop
noncomputable def Fk (X:Cx) (pins:Ac (Ad × A2)) (H:Hp) (b:Ad):Prop :=
 H b=Ai/\b≠X.env.locals/\b ∉ X.fs/\(b∈X.ex\/X.s₀.heap.objs.size<=b)/\(∀x c,X.env.cells.lookup x=Aa c->c≠b)/\∀p∈X.pn++pins,p.1≠b
theorem Inv.fpOk {X:Cx} {pins:Ac (Ad × A2)} {σ:St} {H H':Hp} {s:Aj} {b:Ad} (I:Inv X pins σ H s) (hb:s.heap.objs.size<=b) (hn:H' b=Ai):Fk X pins H' b:=by
 refine ⟨hn,IJ (B' I.lt hb),I.nofs hb,.inr (BE I.sz hb),fun x c e z=>?_,fun p hp z=>?_⟩
 ·obtain ⟨v,q⟩:=I.cell x c e;exact Aw (B' q.lt (by rw [z];exact hb)) (C' _)
 ·exact Aw (B' (A_ (I.pin p hp).1) (by rw [z];exact hb)) (C' _)
structure FJ (P:A9) (w:A3) (K:A8) (tg:A4) (J:It) (fp:Ac Ad) (it:Ad) (tn:Ae->AD->Prop):Prop where
 mem:it∈fp
 obj:∀i h,tn i h->∀b∈fp,∃o,h.get? b=Aa o/\∀v,o.data≠.cell v
 keep:∀i h h',tn i h->(∀b∈fp,∀o,h.get? b=Aa o->h'.get? b=Aa o)->tn i h'
 item:∀(X:Cx),X.prog=P->X.w=w->X.K=K->X.calm=Af->∀(i:Ae) (pins:Ac (Ad × A2)) (s:Aj) (σ:St) (H:Hp) (E:Ah->Aj->Prop),Inv X pins σ H s->(∀b∈fp,Fk X pins H b)->tn i s.heap->J.go i H ->
  Au (A6 P w) X.A (pyNext (.ref it)) (fun r s1=>∃u,r=Aa u /\
   Au (A6 P w) X.A (letOwnedTupleGo tg (.ref it) u) (fun _ s2=>∃x H',Inv X pins σ H' s2/\AQ x u/\J.yld i H x H'/\tn (i+1) s2.heap/\∀b∈fp,H' b=Ai) E s1) E s
 done:∀(X:Cx),X.prog=P->X.w=w->X.K=K->X.calm=Af->∀(i:Ae) (pins:Ac (Ad × A2)) (s:Aj) (σ:St) (H:Hp) (E:Ah->Aj->Prop),Inv X pins σ H s->(∀b∈fp,Fk X pins H b)->tn i s.heap->J.stop i H ->
  Au (A6 P w) X.A (pyNext (.ref it)) (fun r s1=>r=Ai/\Inv X pins σ H s1) E s
 self:∀(A:AR) (i:Ae) (s:Aj) (Q:Ah->Aj->Prop) (E:Ah->Aj->Prop),tn i s.heap->Q (.ref it) s->Au (A6 P w) A (pyIter (.ref it)) Q E s
abbrev TI:=St->Hp->(It->Hp->Prop)->Prop
noncomputable def PIE (X:Cx) (pins:Ac (Ad × A2)) (σ:St) (tg:A4) (R:It->Hp->Prop) (itv:Ah) (s2:Aj):Prop :=
 ∃(it:Ad) (fp:Ac Ad) (tn:Ae->AD->Prop) (J:It) (H':Hp),itv=.ref it/\Inv X pins σ H' s2/\FJ X.prog X.w X.K tg J fp it tn/\tn 0 s2.heap/\(∀b∈fp,Fk X pins H' b)/\R J H'
noncomputable def PI (X:Cx) (tg iter:A4) (wi:TI):Prop :=
 ∀(pins:Ac (Ad × A2)) (s:Aj) (σ:St) (H:Hp) (R:It->Hp->Prop),Inv X pins σ H s->wi σ H R ->
  Au (A6 X.prog X.w) X.A (eval iter X.env) (fun v s1=>Au (A6 X.prog X.w) X.A (pyIter v) (PIE X pins σ tg R) X.xe s1) X.xe s
theorem KA {M:Ff} {A:AR} {E:Ah->Aj->Prop} {s:Aj} {tg:A4} {it:Ad} {u:Ah} {o:A2} {n:DX} {vs:AL Ah} {Q:Unit->Aj->Prop} (ho:s.heap.get? it=Aa o) (hc:o.cls=.type n) (hd:o.data=.fields vs)
 (hn:["enumerate","zip","dict_itemiterator","dict_reverseitemiterator","odict_iterator","itertools.zip_longest","itertools.pairwise"].contains n=Aq) (hQ:Q () s):Au M A (letOwnedTupleGo tg (.ref it) u) Q E s:=by
 unfold letOwnedTupleGo
 cases tg <;> first
  | exact Ay hQ
  | (cases u <;> first
   | exact Ay hQ
   | (refine An (P2 ho ?_)
      rw [hc,hd];show Au M A (if (["enumerate","zip","dict_itemiterator","dict_reverseitemiterator","odict_iterator","itertools.zip_longest","itertools.pairwise"].contains n && vs[0]? == Aa (rawInt _))=Af then _ else _) Q E s;rw [Ao (by intro h;rw [hn,Iu] at h;cases h)];exact Ay hQ))
noncomputable def Itl (K:A8) (a:Ad):It :=
 ⟨fun i H=>∃xs x,SqL K H a xs/\xs[i]?=Aa x,fun i H x H'=>H'=H/\∀xs,SqL K H a xs->xs[i]?=Aa x,fun i H=>∃xs,SqL K H a xs/\xs.length<=i⟩
noncomputable def Itt (K:A8) (a:Ad):It :=
 ⟨fun i H=>∃xs x,SqT K H a xs/\xs[i]?=Aa x,fun i H x H'=>H'=H/\∀xs,SqT K H a xs->xs[i]?=Aa x,fun i H=>∃xs,SqT K H a xs/\xs.length<=i⟩
noncomputable def Itr (lo:Ab) (n:Ae):It:=⟨fun i _=>i < n,fun i H x H'=>H'=H/\x=.int (lo+i),fun i _=>n<=i⟩
theorem AcR {P:A9} {w:A3} {K:A8} {tg:A4} (a it:Ad):FJ P w K tg (Itl K a) [it] it (fun i h=>h.IsListIter it a i) where
 mem:=by simp
 obj:=fun i h st b hb=>by
  have e:b=it:=by simpa using hb
  subst e;obtain ⟨o,e,c,d⟩:=st;exact ⟨o,e,fun v z=>by rw [d] at z;cases z⟩
 keep:=fun i h h' st k=>st.at fun o e=>k it (by simp) o e
 item:=by
  intro X hP hw hK hc i pins s σ H E I hf st hg;subst hP hw hK;obtain ⟨xs,x,hq,hx⟩:=hg;obtain ⟨its,rv,p,hz⟩:=I.list hq;obtain ⟨u,hu,ru⟩:=rv.get hx;obtain ⟨f0,f1,f2,f3,f4,f5⟩:=hf it (by simp);refine wpAny_pyNext_list_item st p.isList (x:=u) (by simpa using hu) fun h' st' sb=>?_;have I1:Inv X pins σ H { s with heap:=h' }:=I.turned (t':=s.toks) (fun b o hb e=>(sb.2 b hb).trans e) f0 f1 f3 f4 f5;obtain ⟨o,e,c,d⟩:=id st';exact ⟨u,rfl,KA (s:={ s with heap:=h' }) e c d (by decide) ⟨x,H,I1,ru,⟨rfl,fun ys hy=>by rw [I.list_inj hy hq];exact hx⟩,st',fun b hb=>(hf b hb).1⟩⟩
 done:=by
  intro X hP hw hK hc i pins s σ H E I hf st hg;subst hP hw hK;obtain ⟨xs,hq,hx⟩:=hg;obtain ⟨its,rv,p,hz⟩:=I.list hq;obtain ⟨f0,f1,f2,f3,f4,f5⟩:=hf it (by simp);have hl:=rv.length;exact wpAny_pyNext_list_end (I.ok.hd hc) st p.isList (by simp;omega) fun h' eb=>⟨rfl,I.turned (t':=s.toks) (fun b o hb e=>eb b o hb e) f0 f1 f3 f4 f5⟩
 self:=fun _ _ _ _ _ st h=>wpAny_pyIter_listiter st h
theorem AcT {P:A9} {w:A3} {K:A8} {tg:A4} (a it:Ad):FJ P w K tg (Itt K a) [it] it (fun i h=>h.IsTupleIter it a i) where
 mem:=by simp
 obj:=fun i h st b hb=>by
  have e:b=it:=by simpa using hb
  subst e;obtain ⟨o,e,c,d⟩:=st;exact ⟨o,e,fun v z=>by rw [d] at z;cases z⟩
 keep:=fun i h h' st k=>st.at fun o e=>k it (by simp) o e
 item:=by
  intro X hP hw hK hc i pins s σ H E I hf st hg;subst hP hw hK;obtain ⟨xs,x,hq,hx⟩:=hg;obtain ⟨its,rv,p,hz⟩:=I.tuple hq;obtain ⟨u,hu,ru⟩:=rv.get hx;obtain ⟨f0,f1,f2,f3,f4,f5⟩:=hf it (by simp);refine wpAny_pyNext_tuple_item st (show s.heap.IsTuple a its.toArray from p) (x:=u) (by simpa using hu) fun h' st' sb=>?_;have I1:Inv X pins σ H { s with heap:=h' }:=I.turned (t':=s.toks) (fun b o hb e=>(sb.2 b hb).trans e) f0 f1 f3 f4 f5;obtain ⟨o,e,c,d⟩:=id st';exact ⟨u,rfl,KA (s:={ s with heap:=h' }) e c d (by decide) ⟨x,H,I1,ru,⟨rfl,fun ys hy=>by rw [I.tuple_inj hy hq];exact hx⟩,st',fun b hb=>(hf b hb).1⟩⟩
 done:=by
  intro X hP hw hK hc i pins s σ H E I hf st hg;subst hP hw hK;obtain ⟨xs,hq,hx⟩:=hg;obtain ⟨its,rv,p,hz⟩:=I.tuple hq;obtain ⟨f0,f1,f2,f3,f4,f5⟩:=hf it (by simp);have hl:=rv.length;exact wpAny_pyNext_tuple_end (I.ok.hd hc) st (show s.heap.IsTuple a its.toArray from p) (by simp;omega) fun h' eb=>⟨rfl,I.turned (t':=s.toks) (fun b o hb e=>eb b o hb e) f0 f1 f3 f4 f5⟩
 self:=fun _ _ _ _ _ st h=>wpAny_pyIter_tupleiter st h
theorem AcS {P:A9} {w:A3} {K:A8} {tg:A4} (it:Ad) (lo:Ab) (n:Ae):FJ P w K tg (Itr lo n) [it] it (fun i h=>IsRangeIter h it (lo+(i:Ae)*1) ((n:Ab) - (i:Ae)) 1) where
 mem:=by simp
 obj:=fun i h st b hb=>by
  have e:b=it:=by simpa using hb
  subst e
  exact ⟨_,st,fun v z=>by
   have z':L6 _=I0 v:=z
   cases z'⟩
 keep:=fun i h h' st k=>k it (by simp) _ st
 item:=by
  intro X hP hw hK hc i pins s σ H E I hf st hg;subst hP hw hK;obtain ⟨f0,f1,f2,f3,f4,f5⟩:=hf it (by simp);have W:=Walks.range (prog:=X.prog) (w:=X.w) (I.ok.hd hc) it lo 1 n;refine W.item i s _ _ hg st fun v h' tk hv st' kk=>?_;obtain ⟨t,rfl⟩:=hv;have I1:Inv X pins σ H { s with heap:=h',toks:=tk }:=I.turned (fun b o hb e=>kk b o (by simpa using hb) e) f0 f1 f3 f4 f5;refine ⟨_,rfl,KA (s:={ s with heap:=h',toks:=tk }) (n:="range_iterator") st' rfl rfl (by decide) ⟨.int (lo+i),H,I1,⟨t,?_⟩,⟨rfl,rfl⟩,st',fun b hb=>(hf b hb).1⟩⟩;rw [EF]
 done:=by
  intro X hP hw hK hc i pins s σ H E I hf st hg;subst hP hw hK;obtain ⟨f0,f1,f2,f3,f4,f5⟩:=hf it (by simp);exact wpAny_pyNext_range_end (I.ok.hd hc) st (by have:n<=i:=hg;omega) fun h' eb=>⟨rfl,I.turned (t':=s.toks) (fun b o hb e=>eb b o hb e) f0 f1 f3 f4 f5⟩
 self:=fun _ _ _ _ _ st h=>wpAny_pyIter_rangeiter st h
end L2
namespace L2
open PySem PySem.Spec PyProof.Rows
section
variable {X:Cx} {tg:A4}
inductive Sb (K:A8) (x:V) (H:Hp) (R:It->Hp->Prop):Prop
 | mk (a:Ad):x=.ref a->((∃xs,SqL K H a xs)/\R (Itl K a) H)->Sb K x H R
noncomputable def Q8 (K:A8) (tl:TE):TI:=fun σ H R=>tl σ H fun x H1=>Sb K x H1 R
inductive Sd (K:A8) (x:V) (H:Hp) (R:It->Hp->Prop):Prop
 | mk (a:Ad):x=.ref a->((∃xs,SqT K H a xs)/\R (Itt K a) H)->Sd K x H R
noncomputable def Ze (K:A8) (tl:TE):TI:=fun σ H R=>tl σ H fun x H1=>Sd K x H1 R
theorem BV {l:A4} {tl:TE} (hl:PE X l tl):PI X tg l (Q8 X.K tl):=by
 intro pins s σ H R I h;refine thn (hl pins s σ H _ I h) fun v s1 hq_=>?_;obtain ⟨x,H1,I1,r1,q1⟩:=hq_;obtain ⟨a,e,⟨xs,hq⟩,q⟩:=q1;subst e
 cases r1
 obtain ⟨its,rv,p,hz⟩:=I1.list hq;refine MK p.isList ?_;refine ⟨s1.heap.objs.size,[s1.heap.objs.size],_,_,H1,rfl,I1.kept (t':=s1.toks) fun b o e=>Bv _ e,AcR a _,⟨_,BD _ rfl,rfl,rfl⟩,fun b hb=>?_,q⟩;have e:b=s1.heap.objs.size:=by simpa using hb
 subst e;exact I1.fpOk (A1 _) (I1.hok.fresh (A1 _))
theorem NJ {l:A4} {tl:TE} (hl:PE X l tl):PI X tg l (Ze X.K tl):=by
 intro pins s σ H R I h;refine thn (hl pins s σ H _ I h) fun v s1 hq_=>?_;obtain ⟨x,H1,I1,r1,q1⟩:=hq_;obtain ⟨a,e,⟨xs,hq⟩,q⟩:=q1;subst e
 cases r1
 obtain ⟨its,rv,p,hz⟩:=I1.tuple hq;refine wpAny_pyIter_tuple (show s1.heap.IsTuple a its.toArray from p) ?_;refine ⟨s1.heap.objs.size,[s1.heap.objs.size],_,_,H1,rfl,I1.kept (t':=s1.toks) fun b o e=>Bv _ e,AcT a _,⟨_,BD _ rfl,rfl,rfl⟩,fun b hb=>?_,q⟩;have e:b=s1.heap.objs.size:=by simpa using hb
 subst e;exact I1.fpOk (A1 _) (I1.hok.fresh (A1 _))
theorem Ab2 {pins:Ac (Ad × A2)} {σ:St} {H:Hp} {s:Aj} {R:It->Hp->Prop} {E:Ah->Aj->Prop} {lo hi:Ab} {t u v:Do} {tk:Ae} (I:Inv X pins σ H s) (h1:-(2 ^ 62)<=lo) (h2:lo < 2 ^ 62) (h3:-(2 ^ 62)<=hi) (h4:hi < 2 ^ 62)
 (q:R (Itr lo (hi - lo).toNat) H):Au (A6 X.prog X.w) X.A (pyIter (.ref s.heap.objs.size)) (PIE X pins σ tg R) E { s with heap:=s.heap.push { cls:=.type "range",data:=.fields #[.int lo t,.int hi u,.int 1 v] },toks:=tk }:=by
 refine wpAny_pyIter_range (IsRange.new ..) (small_one h1 h2 h3 h4) ?_;have I1:Inv X pins σ H { s with heap:=s.heap.push { cls:=.type "range",data:=.fields #[.int lo t,.int hi u,.int 1 v] },toks:=tk }:=I.kept fun b o e=>Bv _ e
 refine ⟨(s.heap.push { cls:=.type "range",data:=.fields #[.int lo t,.int hi u,.int 1 v] }).objs.size,[(s.heap.push { cls:=.type "range",data:=.fields #[.int lo t,.int hi u,.int 1 v] }).objs.size],_,_,H,rfl,
  I1.kept (t':=tk) fun b o e=>Bv _ e,AcS _ lo (hi - lo).toNat,?_,fun b hb=>?_,q⟩
 ·have e1:lo+((0:Ae):Ab)*1=lo:=by simp
  have e2:(((hi - lo).toNat:Ae):Ab) - ((0:Ae):Ab)=Builtin.Range.rangeSize lo hi 1:=by rw [rangeSize_one];split <;> omega
  show IsRangeIter _ _ (lo+((0:Ae):Ab)*1) ((((hi - lo).toNat:Ae):Ab) - ((0:Ae):Ab)) 1;rw [e1,e2];exact BD _ rfl
 ·have e:b=(s.heap.push { cls:=.type "range",data:=.fields #[.int lo t,.int hi u,.int 1 v] }).objs.size:=by simpa using hb
  subst e;exact I1.fpOk (A1 _) (I1.hok.fresh (A1 _))
noncomputable def Zd (ta:TA):TI:=fun σ H R=>ta σ H fun vs H1=>∃j:Ab,vs=[.int j]/\-(2 ^ 62)<=j/\j < 2 ^ 62/\R (Itr 0 j.toNat) H1
theorem FV {a:A4} {ta:TA} {p pos:Pos} (hg:Gl X "range") (hm:X.mg "range"=Ai) (ha:PA X [a] ta) (hs:Bh [a] X.env=[(Aq,eval a X.env)]:=by rfl):PI X tg (.Call (.Name "range" p) [a] [] pos) (Zd ta):=by
 intro pins s σ H R I h;refine Call_ (Fo I hg hm boot_range (Mt (thn (ha pos pins s σ H _ I h) fun us s1 ⟨vs,H1,I1,r1,q1⟩=>?_) hs rfl));obtain ⟨j,e,q1,q2,q⟩:=q1;subst e
 cases r1 with
 | cons r rr =>
   cases rr
   obtain ⟨t,rfl⟩:=r;exact call_range_1 (Ab2 I1 (by omega) (by omega) q1 q2 (by simpa using q))
noncomputable def Ac2 (wi:TI) (g:TG) (tb:TS):TS:=fun D σ H=>wi σ H fun J H1=>∃W:Ae->Ae->St->Hp->Prop,(∃m,W 0 m σ H1)/\∀i m σ H,W i m σ H ->
 (J.stop i H/\D.nx σ H)\/(J.go i H/\∃N:St->Hp->Prop,(∀σ' H',N σ' H'->∃m',m' < m/\W (i+1) m' σ' H')/\∀x H',J.yld i H x H'->g x σ H' fun σ2 H2=>tb { D with nx:=N,ct:=N,bk:=D.nx } σ2 H2)
noncomputable def Jx (fp:Ac Ad) (h:AD):Ac (Ad × A2):=fp.filterMap fun b=>(h.get? b).map fun o=>(b,o)
theorem KP {fp:Ac Ad} {h:AD} {b:Ad} {o:A2} (hb:b∈fp) (e:h.get? b=Aa o):(b,o)∈Jx fp h:=mem_filterMap.mpr ⟨b,hb,by rw [e];rfl⟩
theorem Aas {fp:Ac Ad} {h:AD} {p:Ad × A2} (hp:p∈Jx fp h):p.1∈fp/\h.get? p.1=Aa p.2:=by
 obtain ⟨b,hb,e⟩:=mem_filterMap.mp hp
 cases q:h.get? b with
 | none=>rw [q] at e;cases e
 | some o =>
   rw [q] at e;have e':(b,o)=p:=Bn e;subst e';exact ⟨hb,q⟩
theorem Inv.pinned {pins:Ac (Ad × A2)} {σ:St} {H:Hp} {s:Aj} {fp:Ac Ad} (I:Inv X pins σ H s) (hf:∀b∈fp,Fk X pins H b) (ho:∀b∈fp,∃o,s.heap.get? b=Aa o/\∀v,o.data≠.cell v):Inv X (pins++Jx fp s.heap) σ H s :=
 I.pins_of fun p hp=>(mem_append.mp hp).elim (fun z=>I.pin p (B8 _ z)) fun z=>by
  obtain ⟨hb,e⟩:=Aas z;obtain ⟨f0,f1,f2,_⟩:=hf p.1 hb;obtain ⟨o,e',d⟩:=ho p.1 hb;rw [e] at e';cases e';exact ⟨e,f0,f1,f2,d⟩
theorem Inv.unpinned {pins pl:Ac (Ad × A2)} {σ:St} {H:Hp} {s:Aj} (I:Inv X (pins++pl) σ H s):Inv X pins σ H s:=I.pins_of fun p hp=>I.pin p (B8 _ (CB _ hp))
theorem C4 {iter:A4} {body:Ac AC} {wi:TI} {g:TG} {tb:TS} {pos:Pos} (hp:PassesOwn (A6 X.prog X.w) X.A X.env X.xe) (hc:X.calm=Af) (hi:PI X tg iter wi) (hg:PG X tg g) (hb:PSs X body tb)
 (hs:∀x,E4 iter X.env x=pure x:=by intro _;rfl):PS X (.For tg iter body [] pos) (Ac2 wi g tb):=by
 intro pins s σ H D I h;refine wpAny_For (thn (hi pins s σ H _ I h) fun v s1 h1=>thn h1 fun itv s2 h2=>?_) hs;obtain ⟨it,fp,tn,J,H2,e,I2,T,st2,f2,W,⟨m0,w0⟩,turn⟩:=h2;subst e;have stat:∀{H':Hp},(∀b∈fp,H' b=Ai)->∀b∈fp,Fk X pins H' b:=fun hn b hb=>⟨hn b hb,(f2 b hb).2⟩;refine codeAny_forLoop_any (fun n s'=>∃i σ' H',Inv X pins σ' H' s'/\tn i s'.heap/\(∀b∈fp,H' b=Ai)/\W i n σ' H') ?_ m0 ⟨0,σ,H2,I2,st2,fun b hb=>(f2 b hb).1,w0⟩;rintro n s3 ⟨i,σ3,H3,I3,st3,fr3,w3⟩;rcases turn i n σ3 H3 w3 with ⟨stop,qn⟩ | ⟨go,N,hN,step⟩
 ·refine HM hp (thn (T.done X rfl rfl rfl hc i pins s3 σ3 H3 X.xe I3 (stat fr3) st3 stop) fun r s4 hq_=>?_);obtain ⟨hr,I4⟩:=hq_;subst hr;exact MH ⟨σ3,H3,I4,qn⟩
 ·refine HM hp (thn (T.item X rfl rfl rfl hc i pins s3 σ3 H3 X.xe I3 (stat fr3) st3 go) fun r s4 hq_=>?_);obtain ⟨u,hr,h4⟩:=hq_;subst hr;refine HM hp (thn h4 fun _ s5 hq_=>?_);obtain ⟨x,H5,I5,r5,y5,st5,fr5⟩:=hq_;have I5':=I5.pinned (stat fr5) (T.obj _ _ st5);refine HM hp (thn (hg _ s5 σ3 H5 x u _ I5' r5 (step x H5 y5)) fun _ s6 hq_=>?_);obtain ⟨σ6,H6,I6,q6⟩:=hq_;refine HM hp (thn (hb _ s6 σ6 H6 _ I6 q6) fun f s7 q7=>?_)
  have again:∀{σ7:St} {H7:Hp},Inv X (pins++Jx fp s5.heap) σ7 H7 s7->N σ7 H7->∃m,m < n/\∃i σ' H',Inv X pins σ' H' s7/\tn i s7.heap/\(∀b∈fp,H' b=Ai)/\W i m σ' H':=fun {σ7 H7} I7 n7=>by
   obtain ⟨m',hm,w7⟩:=hN σ7 H7 n7;refine ⟨m',hm,i+1,σ7,H7,I7.unpinned,T.keep _ _ _ st5 fun b hb o e=>(I7.pin (b,o) (B8 _ (B8 _ (KP hb e)))).1,fun b hb=>?_,w7⟩;obtain ⟨o,e,d⟩:=T.obj _ _ st5 b hb;exact (I7.pin (b,o) (B8 _ (B8 _ (KP hb e)))).2.1
  cases f with
  | next=>obtain ⟨σ7,H7,I7,n7⟩:=q7;exact again I7 n7
  | cont=>obtain ⟨σ7,H7,I7,n7⟩:=q7;exact again I7 n7
  | brk=>obtain ⟨σ7,H7,I7,q7⟩:=q7;exact ⟨σ7,H7,I7.unpinned,q7⟩
  | ret v=>obtain ⟨x7,σ7,H7,I7,r7,q7⟩:=q7;exact ⟨x7,σ7,H7,I7.unpinned,r7,q7⟩
end
theorem DC {K:A8} {a:Ad} {xs:Ac V} {g:TG} {tb:TS} {D:D8} {σ:St} {H:Hp} (Pv:Ae->St->Hp->Prop) (h0:Pv 0 σ H) (hl:∀i σ H,i<=xs.length->Pv i σ H->SqL K H a xs)
 (hs:∀i x σ H,xs[i]?=Aa x->Pv i σ H->g x σ H fun σ2 H2=>tb { D with nx:=Pv (i+1),ct:=Pv (i+1),bk:=D.nx } σ2 H2) (hd:∀σ H,Pv xs.length σ H->D.nx σ H) :
 ∃W:Ae->Ae->St->Hp->Prop,(∃m,W 0 m σ H)/\∀i m σ H,W i m σ H ->
  ((Itl K a).stop i H/\D.nx σ H)\/((Itl K a).go i H/\∃N:St->Hp->Prop,(∀σ' H',N σ' H'->∃m',m' < m/\W (i+1) m' σ' H')/\∀x H',(Itl K a).yld i H x H'->g x σ H' fun σ2 H2=>tb { D with nx:=N,ct:=N,bk:=D.nx } σ2 H2):=by
 refine ⟨fun i m σ H=>m=xs.length - i/\i<=xs.length/\Pv i σ H,⟨xs.length,by simp,Br _,h0⟩,?_⟩;rintro i m σ H ⟨rfl,hi,p⟩;have q:=hl i σ H hi p;by_cases hlt:i < xs.length
 ·refine .inr ⟨⟨xs,xs[i],q,by simp [hlt]⟩,Pv (i+1),fun σ' H' p'=>⟨xs.length - (i+1),by omega,rfl,hlt,p'⟩,fun x H' y=>?_⟩;obtain ⟨e,y⟩:=y;subst e;exact hs i x σ _ (y xs q) p
 ·have e:i=xs.length:=by omega
  subst e;exact .inl ⟨⟨xs,q,A1 _⟩,hd σ H p⟩
theorem Qv {K:A8} {a:Ad} {xs:Ac V} {g:TG} {tb:TS} {D:D8} {σ:St} {H:Hp} (Pv:Ae->St->Hp->Prop) (h0:Pv 0 σ H) (hl:∀i σ H,i<=xs.length->Pv i σ H->SqT K H a xs)
 (hs:∀i x σ H,xs[i]?=Aa x->Pv i σ H->g x σ H fun σ2 H2=>tb { D with nx:=Pv (i+1),ct:=Pv (i+1),bk:=D.nx } σ2 H2) (hd:∀σ H,Pv xs.length σ H->D.nx σ H) :
 ∃W:Ae->Ae->St->Hp->Prop,(∃m,W 0 m σ H)/\∀i m σ H,W i m σ H ->
  ((Itt K a).stop i H/\D.nx σ H)\/((Itt K a).go i H/\∃N:St->Hp->Prop,(∀σ' H',N σ' H'->∃m',m' < m/\W (i+1) m' σ' H')/\∀x H',(Itt K a).yld i H x H'->g x σ H' fun σ2 H2=>tb { D with nx:=N,ct:=N,bk:=D.nx } σ2 H2):=by
 refine ⟨fun i m σ H=>m=xs.length - i/\i<=xs.length/\Pv i σ H,⟨xs.length,by simp,Br _,h0⟩,?_⟩;rintro i m σ H ⟨rfl,hi,p⟩;have q:=hl i σ H hi p;by_cases hlt:i < xs.length
 ·refine .inr ⟨⟨xs,xs[i],q,by simp [hlt]⟩,Pv (i+1),fun σ' H' p'=>⟨xs.length - (i+1),by omega,rfl,hlt,p'⟩,fun x H' y=>?_⟩;obtain ⟨e,y⟩:=y;subst e;exact hs i x σ _ (y xs q) p
 ·have e:i=xs.length:=by omega
  subst e;exact .inl ⟨⟨xs,q,A1 _⟩,hd σ H p⟩
theorem Qu {lo:Ab} {n:Ae} {g:TG} {tb:TS} {D:D8} {σ:St} {H:Hp} (Pv:Ae->St->Hp->Prop) (h0:Pv 0 σ H)
 (hs:∀i σ H,i < n->Pv i σ H->g (.int (lo+i)) σ H fun σ2 H2=>tb { D with nx:=Pv (i+1),ct:=Pv (i+1),bk:=D.nx } σ2 H2) (hd:∀σ H,Pv n σ H->D.nx σ H) :
 ∃W:Ae->Ae->St->Hp->Prop,(∃m,W 0 m σ H)/\∀i m σ H,W i m σ H ->
  ((Itr lo n).stop i H/\D.nx σ H)\/((Itr lo n).go i H/\∃N:St->Hp->Prop,(∀σ' H',N σ' H'->∃m',m' < m/\W (i+1) m' σ' H')/\∀x H',(Itr lo n).yld i H x H'->g x σ H' fun σ2 H2=>tb { D with nx:=N,ct:=N,bk:=D.nx } σ2 H2):=by
 refine ⟨fun i m σ H=>m=n - i/\i<=n/\Pv i σ H,⟨n,by simp,Br _,h0⟩,?_⟩;rintro i m σ H ⟨rfl,hi,p⟩;by_cases hlt:i < n
 ·refine .inr ⟨hlt,Pv (i+1),fun σ' H' p'=>⟨n - (i+1),by omega,rfl,hlt,p'⟩,fun x H' y=>?_⟩;obtain ⟨e,y⟩:=y;subst e y;exact hs i σ _ hlt p
 ·have e:i=n:=by omega
  subst e;exact .inl ⟨A1 _,hd σ H p⟩
theorem Oh {c:TT} {tb:TS} {D:D8} {σ:St} {H:Hp} (Pv:St->Hp->Prop) (μ:St->Hp->Ae) (h0:Pv σ H)
 (hs:∀σ H,Pv σ H->c σ H fun b H1=>if b=Af then tb { D with nx:=fun σ' H'=>Pv σ' H'/\μ σ' H' < μ σ H,ct:=fun σ' H'=>Pv σ' H'/\μ σ' H' < μ σ H,bk:=D.nx } σ H1 else D.nx σ H1)
 (mono:∀σ H Q Q',(∀b H1,Q b H1->Q' b H1)->c σ H Q->c σ H Q'):Oa c tb D σ H:=by
 refine ⟨fun m σ H=>m=μ σ H/\Pv σ H,⟨_,rfl,h0⟩,?_⟩;rintro m σ H ⟨rfl,p⟩;refine mono σ H _ _ (fun b H1 q=>?_) (hs σ H p)
 cases b with
 | true=>exact ⟨_,fun σ' H' ⟨p',l⟩=>⟨_,l,rfl,p'⟩,q⟩
 | false=>exact q
end L2
namespace L2
open PySem PySem.Spec PyProof.Rows
abbrev R2:=V->V->Hp->VK->Prop
noncomputable def OpR (X:Cx) (f:Ah->Ah->CQ Ah) (r:R2):Prop :=
 ∀(pins:Ac (Ad × A2)) (s:Aj) (σ:St) (H:Hp) (x y:V) (v u:Ah) (Q:VK),Inv X pins σ H s->AQ x v->AQ y u->r x y H Q ->
  Au (A6 X.prog X.w) X.A (f v u) (EP X pins σ Q) X.xe s
noncomputable def UnR (X:Cx) (f:Ah->CQ Ah) (r:V->Hp->VK->Prop):Prop :=
 ∀(pins:Ac (Ad × A2)) (s:Aj) (σ:St) (H:Hp) (x:V) (v:Ah) (Q:VK),Inv X pins σ H s->AQ x v->r x H Q ->
  Au (A6 X.prog X.w) X.A (f v) (EP X pins σ Q) X.xe s
noncomputable def De (X:Cx) (f:Ah) (r:Ac V->Hp->VK->Prop):Prop :=
 ∀(pins:Ac (Ad × A2)) (s:Aj) (σ:St) (H:Hp) (xs:Ac V) (us:Ac Ah) (Q:VK),Inv X pins σ H s->AU xs us->r xs H Q ->
  Au (A6 X.prog X.w) X.A (call f us) (EP X pins σ Q) X.xe s
noncomputable def tOp (r:R2) (ta tb:TE):TE:=fun σ H Q=>ta σ H fun x H1=>tb σ H1 fun y H2=>r x y H2 Q
noncomputable def tUn (r:V->Hp->VK->Prop) (ta:TE):TE:=fun σ H Q=>ta σ H fun x H1=>r x H1 Q
inductive rI (C:Ab->Ab->Prop) (g:Ab->Ab->V) (x y:V) (H:Hp) (Q:VK):Prop
 | mk (i j:Ab):x=.int i->y=.int j->(C i j/\Q (g i j) H)->rI C g x y H Q
inductive rI0 (g:Ab->Ab->V) (x y:V) (H:Hp) (Q:VK):Prop
 | mk (i j:Ab):x=.int i->y=.int j->Q (g i j) H->rI0 g x y H Q
inductive rU (g:Ab->V) (x:V) (H:Hp) (Q:VK):Prop
 | mk (i:Ab):x=.int i->Q (g i) H->rU g x H Q
section
variable {X:Cx} {a b c:A4} {ta tb tc:TE} {pos:Pos}
theorem MY (ha:PE X a ta) (hb:PE X b tb) {pins:Ac (Ad × A2)} {s:Aj} {σ:St} {H:Hp} {R:V->V->Hp->Prop} (I:Inv X pins σ H s)
 (h:ta σ H fun x H1=>tb σ H1 fun y H2=>R x y H2) {Q:Ah->Aj->Prop} {f:Ah->Ah->CQ Ah}
 (hf:∀v u s2 x y H2,Inv X pins σ H2 s2->AQ x v->AQ y u->R x y H2->Au (A6 X.prog X.w) X.A (f v u) Q X.xe s2) :
 Au (A6 X.prog X.w) X.A (eval a X.env) (fun v s₁=>Au (A6 X.prog X.w) X.A (eval b X.env) (fun u s₂=>Au (A6 X.prog X.w) X.A (f v u) Q X.xe s₂) X.xe s₁) X.xe s:=by
 refine thn (ha pins s σ H _ I h) fun v s1 hq_=>?_;obtain ⟨x,H1,I1,r1,q1⟩:=hq_;refine thn (hb pins s1 σ H1 _ I1 q1) fun u s2 hq_=>?_;obtain ⟨y,H2,I2,r2,q2⟩:=hq_;exact hf v u s2 x y H2 I2 r1 r2 q2
theorem AA {op:Operator} {r:R2} (ho:OpR X (E3 op) r) (ha:PE X a ta) (hb:PE X b tb):PE X (.BinOp a op b pos) (tOp r ta tb):=by
 intro pins s σ H Q I h;exact wpAny_BinOp (MY ha hb I h fun v u s2 x y H2 I2 rx ry q=>ho pins s2 σ H2 x y v u Q I2 rx ry q)
theorem Hg {op:UnaryOp} {r:V->Hp->VK->Prop} (ho:UnR X (unaryOp op) r) (ha:PE X a ta):PE X (.UnaryOp op a pos) (tUn r ta):=by
 intro pins s σ H Q I h;refine UnaryOp_ (thn (ha pins s σ H _ I h) fun v s1 hq_=>?_);obtain ⟨x,H1,I1,r1,q1⟩:=hq_;exact ho pins s1 σ H1 x v Q I1 r1 q1
theorem opI {f:Ah->Ah->CQ Ah} {C:Ab->Ab->Prop} {g:Ab->Ab->Ab}
 (rule:∀(i j:Ab) (t u:Do) (s:Aj) (Q:Ah->Aj->Prop) (E:Ah->Aj->Prop),C i j->Q (.int (g i j) s.toks) { s with toks:=s.toks+1 }->Au (A6 X.prog X.w) X.A (f (.int i t) (.int j u)) Q E s) :
 OpR X f (rI C fun i j=>.int (g i j)):=by
 intro pins s σ H x y v u Q I rx ry h;obtain ⟨i,j,rfl,rfl,hc,q⟩:=h;obtain ⟨t,rfl⟩:=rx;obtain ⟨t',rfl⟩:=ry;exact rule i j t t' s _ _ hc ⟨.int (g i j),H,I.tok _,⟨_,rfl⟩,q⟩
theorem K' {f:Ah->Ah->CQ Ah} {g:Ab->Ab->Ab}
 (rule:∀(i j:Ab) (t u:Do) (s:Aj) (Q:Ah->Aj->Prop) (E:Ah->Aj->Prop),Q (.int (g i j) s.toks) { s with toks:=s.toks+1 }->Au (A6 X.prog X.w) X.A (f (.int i t) (.int j u)) Q E s) :
 OpR X f (rI0 fun i j=>.int (g i j)):=by
 intro pins s σ H x y v u Q I rx ry h;obtain ⟨i,j,rfl,rfl,q⟩:=h;obtain ⟨t,rfl⟩:=rx;obtain ⟨t',rfl⟩:=ry;exact rule i j t t' s _ _ ⟨.int (g i j),H,I.tok _,⟨_,rfl⟩,q⟩
theorem N9 {f:Ah->Ah->CQ Ah} {g:Ab->Ab->AI}
 (rule:∀(i j:Ab) (t u:Do) (s:Aj) (Q:Ah->Aj->Prop) (E:Ah->Aj->Prop),Q (.bool (g i j)) s->Au (A6 X.prog X.w) X.A (f (.int i t) (.int j u)) Q E s) :
 OpR X f (rI0 fun i j=>.bl (g i j)):=by
 intro pins s σ H x y v u Q I rx ry h;obtain ⟨i,j,rfl,rfl,q⟩:=h;obtain ⟨t,rfl⟩:=rx;obtain ⟨t',rfl⟩:=ry;exact rule i j t t' s _ _ ⟨.bl (g i j),H,I,rfl,q⟩
noncomputable def I_ (i j:Ab):Prop:=0<=j/\j<=1000000/\i.natAbs < 2 ^ 64
theorem AcW (k:Ae):(0:Ab)<=2 ^ k:=by
 rw [two_pow_cast];exact IC _
theorem C3:OpR X (E3 .Add) (rI0 fun i j=>.int (i+j)):=K' fun _ _ _ _ _ _ _ q=>add_int q
theorem Ea:OpR X (E3 .Sub) (rI0 fun i j=>.int (i - j)):=K' fun _ _ _ _ _ _ _ q=>sub_int q
theorem Dv:OpR X (E3 .Mod) (rI (fun _ j=>j≠0) fun i j=>.int (i.fmod j)):=opI fun _ _ _ _ _ _ _ hc q=>mod_int' hc q
theorem Lb:OpR X (E3 .Pow) (rI I_ fun i j=>.int (i ^ j.toNat)):=opI fun _ _ _ _ _ _ _ hc q=>pow_int_small hc.1 hc.2.1 hc.2.2 q
theorem NC:OpR X (E3 .LShift) (rI I_ fun i j=>.int (i*2 ^ j.toNat)):=opI fun _ _ _ _ _ _ _ hc q=>lshift_int_small hc.1 hc.2.1 hc.2.2 q
theorem R6:OpR X (E3 .RShift) (rI (fun _ j=>0<=j) fun i j=>.int (i / 2 ^ j.toNat)):=opI fun i j _ _ _ _ _ hc q =>
 rshift_int hc (by rw [DH i (AcW _)];exact q)
theorem Jr:OpR X (E3 .BitAnd) (rI0 fun i j=>.int (CJ i j)):=K' fun _ _ _ _ _ _ _ q=>and_int q
theorem Aa3:OpR X (E3 .BitOr) (rI0 fun i j=>.int (Iz i j)):=K' fun _ _ _ _ _ _ _ q=>or_int q
theorem unI {f:Ah->CQ Ah} {g:Ab->Ab}
 (rule:∀(i:Ab) (t:Do) (s:Aj) (Q:Ah->Aj->Prop) (E:Ah->Aj->Prop),Q (.int (g i) s.toks) { s with toks:=s.toks+1 }->Au (A6 X.prog X.w) X.A (f (.int i t)) Q E s) :
 UnR X f (rU fun i=>.int (g i)):=by
 intro pins s σ H x v Q I rx h;obtain ⟨i,rfl,q⟩:=h;obtain ⟨t,rfl⟩:=rx;exact rule i t s _ _ ⟨.int (g i),H,I.tok _,⟨_,rfl⟩,q⟩
theorem Iq:UnR X (unaryOp .USub) (rU fun i=>.int (-i)):=unI fun _ _ _ _ _ q=>neg_int q
theorem AcY:UnR X (unaryOp .Invert) (rU fun i=>.int (Oy i)):=unI fun _ _ _ _ _ q=>invert_int q
end
noncomputable def Tz:V->V->AI
 | .non,.non=>Af | .non,.int _=>Af | .int _,.non=>Af | .non,.bl _=>Af | .bl _,.non=>Af | .non,.str _=>Af | .str _,.non=>Af
 | .int _,.int _=>Af | .bl _,.bl _=>Af | .str _,.str _=>Af | .byt _,.byt _=>Af
 | .int _,.str _=>Af | .str _,.int _=>Af | .bl _,.str _=>Af | .str _,.bl _=>Af
 | _,_=>Aq
noncomputable def rEq:R2:=fun x y H Q=>Tz x y=Af/\Q (.bl (decide (x=y))) H
noncomputable def rNe:R2:=fun x y H Q=>Tz x y=Af/\Q (.bl (!decide (x=y))) H
theorem Qg {i j:Ab}:decide (V.int i=V.int j)=(i == j):=by
 rw [Ho];simp
theorem Qe {i j:AI}:decide (V.bl i=V.bl j)=(i == j):=by
 rw [Ho];simp
theorem Qh {i j:Ak}:decide (V.str i=V.str j)=(i == j):=by
 rw [Ho];simp
theorem Qf {i j:AL UInt8}:decide (V.byt i=V.byt j)=(i.toList == j.toList):=by
 rw [Ho]
 cases i
 cases j
 simp
section
variable {X:Cx} {a b c:A4} {ta tb tc:TE} {pos:Pos}
theorem BK {pins:Ac (Ad × A2)} {σ:St} {H:Hp} {s:Aj} {Q:VK} {k k':AI} (I:Inv X pins σ H s) (q:Q (.bl k) H) (e:k=k'):EP X pins σ Q (.bool k') s:=by
 subst e;exact ⟨.bl k,H,I,rfl,q⟩
theorem CU:OpR X (Cj .Eq) rEq:=by
 intro pins s σ H x y v u Q I rx ry h;obtain ⟨hs,q⟩:=h
 cases x with
 | non =>
   cases rx
   cases y with
   | non=>cases ry;exact PySem.EqNone.eq_none_none (BK I q (by simp))
   | bl j=>cases ry;exact PySem.EqNone.eq_none_bool (BK I q (by simp))
   | int j=>obtain ⟨t',rfl⟩:=ry;exact PySem.EqNone.eq_none_int (BK I q (by simp))
   | str j=>obtain ⟨t',rfl⟩:=ry;exact PySem.EqNone.eq_none_str (BK I q (by simp))
   | _=>exact Aw (show Aq=Af from hs) Bl
 | bl i =>
   cases rx
   cases y with
   | non=>cases ry;exact PySem.EqNone.eq_bool_none (BK I q (by simp))
   | bl j=>cases ry;exact eq_bool (BK I q Qe)
   | str j=>obtain ⟨t',rfl⟩:=ry;exact PySem.EqMixed.eq_bool_str (BK I q (by simp))
   | _=>exact Aw (show Aq=Af from hs) Bl
 | int i =>
   obtain ⟨t,rfl⟩:=rx
   cases y with
   | non=>cases ry;exact PySem.EqNone.eq_int_none (BK I q (by simp))
   | int j=>obtain ⟨t',rfl⟩:=ry;exact eq_int (BK I q Qg)
   | str j=>obtain ⟨t',rfl⟩:=ry;exact PySem.EqMixed.eq_int_str (BK I q (by simp))
   | _=>exact Aw (show Aq=Af from hs) Bl
 | str i =>
   obtain ⟨t,rfl⟩:=rx
   cases y with
   | non=>cases ry;exact PySem.EqNone.eq_str_none (BK I q (by simp))
   | bl j=>cases ry;exact PySem.EqMixed.eq_str_bool (BK I q (by simp))
   | int j=>obtain ⟨t',rfl⟩:=ry;exact PySem.EqMixed.eq_str_int (BK I q (by simp))
   | str j=>obtain ⟨t',rfl⟩:=ry;exact eq_str (BK I q Qh)
   | _=>exact Aw (show Aq=Af from hs) Bl
 | byt i =>
   obtain ⟨t,rfl⟩:=rx
   cases y with
   | byt j=>obtain ⟨t',rfl⟩:=ry;exact PySem.W.eq_bytes (BK I q Qf)
   | _=>exact Aw (show Aq=Af from hs) Bl
 | _=>cases y <;> exact Aw (show Aq=Af from hs) Bl
theorem Jt:OpR X (Cj .NotEq) rNe:=by
 intro pins s σ H x y v u Q I rx ry h;obtain ⟨hs,q⟩:=h
 cases x with
 | non =>
   cases rx
   cases y with
   | non=>cases ry;exact PySem.EqNone.ne_none_none (BK I q (by simp))
   | bl j=>cases ry;exact PySem.EqNone.ne_none_bool (BK I q (by simp))
   | int j=>obtain ⟨t',rfl⟩:=ry;exact PySem.EqNone.ne_none_int (BK I q (by simp))
   | str j=>obtain ⟨t',rfl⟩:=ry;exact PySem.EqNone.ne_none_str (BK I q (by simp))
   | _=>exact Aw (show Aq=Af from hs) Bl
 | bl i =>
   cases rx
   cases y with
   | non=>cases ry;exact PySem.EqNone.ne_bool_none (BK I q (by simp))
   | bl j=>cases ry;exact ne_bool (BK I q (Bx not Qe))
   | str j=>obtain ⟨t',rfl⟩:=ry;exact PySem.EqMixed.ne_bool_str (BK I q (by simp))
   | _=>exact Aw (show Aq=Af from hs) Bl
 | int i =>
   obtain ⟨t,rfl⟩:=rx
   cases y with
   | non=>cases ry;exact PySem.EqNone.ne_int_none (BK I q (by simp))
   | int j=>obtain ⟨t',rfl⟩:=ry;exact ne_int (BK I q (Bx not Qg))
   | str j=>obtain ⟨t',rfl⟩:=ry;exact PySem.EqMixed.ne_int_str (BK I q (by simp))
   | _=>exact Aw (show Aq=Af from hs) Bl
 | str i =>
   obtain ⟨t,rfl⟩:=rx
   cases y with
   | non=>cases ry;exact PySem.EqNone.ne_str_none (BK I q (by simp))
   | bl j=>cases ry;exact PySem.EqMixed.ne_str_bool (BK I q (by simp))
   | int j=>obtain ⟨t',rfl⟩:=ry;exact PySem.EqMixed.ne_str_int (BK I q (by simp))
   | str j=>obtain ⟨t',rfl⟩:=ry;exact ne_str (BK I q (Bx not Qh))
   | _=>exact Aw (show Aq=Af from hs) Bl
 | byt i =>
   obtain ⟨t,rfl⟩:=rx
   cases y with
   | byt j=>obtain ⟨t',rfl⟩:=ry;exact PySem.W.ne_bytes (BK I q (Bx not Qf))
   | _=>exact Aw (show Aq=Af from hs) Bl
 | _=>cases y <;> exact Aw (show Aq=Af from hs) Bl
theorem EV:OpR X (Cj .Lt) (rI0 fun i j=>.bl (decide (i < j))):=N9 fun _ _ _ _ _ _ _ q=>lt_int q
theorem Hd:OpR X (Cj .LtE) (rI0 fun i j=>.bl (decide (i<=j))):=N9 fun _ _ _ _ _ _ _ q=>le_int q
theorem FR:OpR X (Cj .Gt) (rI0 fun i j=>.bl (decide (j < i))):=N9 fun _ _ _ _ _ _ _ q=>gt_int q
theorem NA:OpR X (Cj .Is) (fun x y H Q=>y=.non/\Q (.bl (decide (x=.non))) H):=by
 intro pins s σ H x y v u Q I rx ry h;obtain ⟨rfl,q⟩:=h
 cases ry
 refine is_none_gen (BK I q ?_)
 cases x <;> first
  | (cases rx;rfl)
  | (obtain ⟨t,rfl⟩:=rx;rfl)
theorem Aa1:OpR X (Cj .IsNot) (fun x y H Q=>y=.non/\Q (.bl (!decide (x=.non))) H):=by
 intro pins s σ H x y v u Q I rx ry h;obtain ⟨rfl,q⟩:=h
 cases ry
 refine isnot_none_gen (BK I q ?_)
 cases x <;> first
  | (cases rx;rfl)
  | (obtain ⟨t,rfl⟩:=rx;rfl)
theorem D_ (b:A4) {op:CmpOp} (h:op≠.In:=by decide) (h2:op≠.NotIn:=by decide):behindInMarks op b=Aq:=by
 have e1:(op == CmpOp.In)=Aq:=by cases op <;> first | rfl | exact Aw rfl h
 have e2:(op == CmpOp.NotIn)=Aq:=by cases op <;> first | rfl | exact Aw rfl h2
 cases b <;> simp [behindInMarks,e1,e2]
theorem Ep {op:CmpOp} {r:R2} (ho:OpR X (Cj op) r) (ha:PE X a ta) (hb:PE X b tb) (hm:behindInMarks op b=Aq):PE X (.Compare a [op] [b] pos) (tOp r ta tb):=by
 intro pins s σ H Q I h;exact wpAny_Compare1 (MY ha hb I h fun v u s2 x y H2 I2 rx ry q=>ho pins s2 σ H2 x y v u Q I2 rx ry q) hm
noncomputable def Lp (t:TE):TT:=fun σ H Q=>t σ H fun x H'=>isB x H' Q
theorem Jz {op:CmpOp} {r:R2} (ho:OpR X (Cj op) r) (ha:PE X a ta) (hb:PE X b tb) (hm:behindInMarks op b=Aq):PT X (.Compare a [op] [b] pos) (Lp (tOp r ta tb)):=by
 intro pins s σ H Q I h
 refine wpAny_isTrue_Compare1 (thn (ha pins s σ H _ I h) fun v s1 ⟨x,H1,I1,r1,q1⟩=>thn (hb pins s1 σ H1 _ I1 q1) fun u s2 ⟨y,H2,I2,r2,q2⟩ =>
  thn (ho pins s2 σ H2 x y v u _ I2 r1 r2 q2) fun c s3 ⟨z,H3,I3,r3,k,e,q3⟩=>?_) hm
 subst e
 cases r3
 exact FI ⟨H3,I3,q3⟩
noncomputable def Acq (r r':R2) (ta tb tc:TE):TE:=fun σ H Q=>ta σ H fun x H1=>tb σ H1 fun y H2=>r x y H2 fun z H3=>∃k,z=.bl k /\
 (if k=Af then tc σ H3 fun w' H4=>r' y w' H4 Q else Q (.bl Aq) H3)
theorem RF {op op':CmpOp} {r r':R2} (ho:OpR X (Cj op) r) (ho':OpR X (Cj op') r') (ha:PE X a ta) (hb:PE X b tb) (hc:PE X c tc)
 (hm:lastMarks [op,op'] [b,c]=Aq:=by with_unfolding_all rfl):PE X (.Compare a [op,op'] [b,c] pos) (Acq r r' ta tb tc):=by
 intro pins s σ H Q I h
 refine Compare_chain (thn (ha pins s σ H _ I h) fun v s1 ⟨x,H1,I1,r1,q1⟩=>chain_link (thn (hb pins s1 σ H1 _ I1 q1) fun u s2 ⟨y,H2,I2,r2,q2⟩ =>
  thn (ho pins s2 σ H2 x y v u _ I2 r1 r2 q2) fun d s3 ⟨z,H3,I3,r3,k,e,q3⟩=>?_)) hm
 subst e
 cases r3
 refine FI ?_
 cases k with
 | false=>exact ite_ff ⟨.bl Aq,H3,I3,rfl,q3⟩
 | true=>exact ite_tt (chain_last (thn (hc pins s3 σ H3 _ I3 q3) fun w' s4 ⟨z',H4,I4,r4,q4⟩=>ho' pins s4 σ H4 y z' u w' Q I4 r2 r4 q4))
theorem KI:(AB:Ae) < 2 ^ 63:=by rw [CC];decide
theorem Ew {x:V} {us:Ac Ah} (r:AU [x] us):∃u,us=[u]/\AQ x u:=by
 cases r with
 | cons r1 r2=>cases r2;exact ⟨_,rfl,r1⟩
theorem Lv {x y:V} {us:Ac Ah} (r:AU [x,y] us):∃u w',us=[u,w']/\AQ x u/\AQ y w':=by
 cases r with
 | cons r1 r2 =>
   cases r2 with
   | cons r3 r4=>cases r4;exact ⟨_,_,rfl,r1,r3⟩
theorem K6:De X (.builtin "abs") (fun xs H Q=>∃i,xs=[.int i]/\Q (.int (if i < 0 then -i else i)) H):=by
 intro pins s σ H xs us Q I r h;obtain ⟨i,rfl,q⟩:=h;obtain ⟨u,rfl,t,rfl⟩:=Ew r;exact call_abs_int fun u tk=>⟨.int (if i < 0 then -i else i),H,I.tok _,⟨_,rfl⟩,q⟩
theorem PV (hc:X.calm=Af):De X (.builtin "max") (fun xs H Q=>∃i j,xs=[.int i,.int j]/\Q (.int (if j > i then j else i)) H):=by
 intro pins s σ H xs us Q I r h;obtain ⟨i,j,rfl,q⟩:=h;obtain ⟨u,w',rfl,⟨t,rfl⟩,⟨t',rfl⟩⟩:=Lv r;refine max_two_ints (I.ok.hd hc) fun h' tk k=>⟨_,H,I.kept k,?_,q⟩;by_cases hj:j > i
 ·rw [Ar hj,Ar hj];exact ⟨_,rfl⟩
 ·rw [Ao hj,Ao hj];exact ⟨_,rfl⟩
theorem PX (hc:X.calm=Af):De X (.builtin "min") (fun xs H Q=>∃i j,xs=[.int i,.int j]/\Q (.int (if j < i then j else i)) H):=by
 intro pins s σ H xs us Q I r h;obtain ⟨i,j,rfl,q⟩:=h;obtain ⟨u,w',rfl,⟨t,rfl⟩,⟨t',rfl⟩⟩:=Lv r;refine min_two_ints (I.ok.hd hc) fun h' tk k=>⟨_,H,I.kept k,?_,q⟩;by_cases hj:j < i
 ·rw [Ar hj,Ar hj];exact ⟨_,rfl⟩
 ·rw [Ao hj,Ao hj];exact ⟨_,rfl⟩
end
end L2
namespace L2
open PySem PySem.Spec PyProof.Rows
structure GX (h:AD) (x dx C:Ad) (mA:Ak->A5 Ah):Prop where
 obj:h.get? x=Aa (GO C dx)
 ns:h.Ns1 dx mA
 ne:dx≠x
theorem ZG {h:AD} {dx:Ad} {mA:Ak->A5 Ah} (n:h.Ns1 dx mA):∃od,h.get? dx=Aa od/\∀name,Mx name od=Aa (mA name):=by
 obtain ⟨o,es,ep,ho,hd,hk,_,hm⟩:=n;refine ⟨o,ho,fun name=>?_⟩;have e:=hm name;unfold nsFind findBy at e;rw [<- Array.find?_toList] at e;unfold Mx;rw [hd];dsimp only
 split
 ·rename_i y q
  rw [q] at e;exact Bx Aa e
 ·rename_i q
  rw [q] at e
  have a:es.toList.any (·.refKey)=Aq:=by
   rw [any_eq_false];intro y hy;obtain ⟨z,t,hkey⟩:=hk y (Array.mem_toList_iff.mp hy);simp [DictEntry.refKey,hkey]
  have a':¬ es.toList.any (·.refKey)=Af:=by rw [a];exact Bl
  rw [Ao a'];exact Bx Aa e
theorem GX.look {h:AD} {x dx C:Ad} {mA:Ak->A5 Ah} (I:GX h x dx C mA):∃od,PySem.W.InstAt h x (GO C dx) C (Aa od)/\∀name,Mx name od=Aa (mA name) :=
 let ⟨od,ho,hl⟩:=ZG I.ns
 ⟨od,⟨I.obj,rfl,rfl,ho⟩,hl⟩
section
variable {prog:A9} {w:A3} {A:AR} {E:Ah->Aj->Prop} {s:Aj} {K:A8} {x dx C f:Ad} {mA:Ak->A5 Ah} {name:Ak} {v:Ah}
theorem YS {expr:AI} {Q:Ah->Aj->Prop} (X:K.In s.heap) (I:GX s.heap x dx C mA) (hg:My K C name=Af) (hh:OY K C=Af)
 (ha:Fg K (.ref C) name=Aa Ai) (hv:mA name=Aa v) (hv':WW v=Af) (h:Q v { s with toks:=s.toks+1 }) :
 Au (A6 prog w) A (getAttr (.ref x) name expr) Q E s:=by
 obtain ⟨od,J,hl⟩:=I.look;exact PySem.W.get_value X J (Pb hg).1 (PySem.W.findObj_own hh ha rfl (by rw [hl,hv])) hv' h
theorem YT {pl:CQ AI} {Q:Ah × Ac Ah->Aj->Prop} (X:K.In s.heap) (I:GX s.heap x dx C mA) (hg:My K C name=Af)
 (hf:Fg K (.ref C) name=Aa (Aa (.ref f))) (ht:OZ K (.ref f)=Af) (hv:mA name=Ai) (h:Q (.ref f,[.ref x]) s) :
 Au (A6 prog w) A (getMethod (.ref x) name pl) Q E s:=by
 obtain ⟨od,J,hl⟩:=I.look;exact PySem.W.method_fn X J (Pb hg).1 (Pb hg).2 hf (beq_iff_eq.mp ht) (by show (Mx name od).map (·.isSome)=Aa Aq;rw [hl,hv];rfl) h
theorem AbQ {ns:Ac Ak} {Q:Unit->Aj->Prop} (X:K.In s.heap) (I:GX s.heap x dx C mA)
 (hs:Fg K (.ref C) "__setattr__"=Aa (Aa (.builtin "object.__setattr__"))) (hp:Xa K C=Af) (ht:Pd K C name=Aa Ai) (hh:OY K C=Af)
 (hw:Pe mA ns) (hsz:ns.length<=AB)
 (h:∀h',GX h' x dx C (fun y=>if y=name then Aa v else mA y)->Ey dx s.heap h'->Q () { s with heap:=h',toks:=s.toks+2 }) :
 Au (A6 prog w) A (setAttr (.ref x) name v) Q E s:=by
 obtain ⟨od,J,hl⟩:=I.look;refine PySem.W.set_plain X J hs (PySem.W.osa_open (s:={ s with toks:=s.toks+1 }) (r:=Ai) X J hp ht fun b=>?_);obtain ⟨cd,hc,hd'⟩:=PySem.W.any_some hh;have hx:s.heap.get? x=Aa ⟨.ref C,Aa dx,.plain,#[]⟩:=I.obj;refine An (Ay (An (An (wpAny_loadPart hx (An (PySem.W.Looks.here (s:={ s with toks:=s.toks+1 }) (PySem.W.looks_clsIn X hc) ?_))))));rw [hd'];refine Ay (a:=Aa dx) (An (Ay (An ?_)));refine wpAny_nsSet1 (s:={ s with toks:=s.toks+1 }) I.ns fun h' hn2 hs2=>?_;obtain ⟨oD,esD,epD,hoD,hdD,hcD⟩:=hn2.count (PySem.Within.cons name v hw);refine An (wpAny_lookBehind hoD (by rw [hdD];exact pastItsLine_dict (BE hcD (by rw [BP];omega))) ?_);exact Ay (h _ ⟨(hs2.2 _ (BF I.ne)).trans I.obj,hn2,I.ne⟩ hs2)
theorem ZQ {R:IQ->Aj->Prop} {vs:Ac Ah} {kw:Ac (Ak × Ah)} (X:K.In s.heap) (hm:WZ K C=Af)
 (hi:Fg K (.ref C) "__init__"=Aa (Aa (.ref f))) (hf:PySem.W.typeIn K (.ref f)=Aa (.type "function"))
 (h:codeAny (A6 prog w) (A.under (.builtin "type.__call__" ⟨.ref C :: vs,kw⟩)) (.call (.ref f) ⟨.ref (s.heap.objs.size+1) :: vs,kw⟩) (PySem.W.InitBack (s.heap.objs.size+1) R)
  { s with heap:=(s.heap.push Gh).push (GO C s.heap.objs.size) }) :
 codeAny (A6 prog w) A (.call (.ref C) ⟨vs,kw⟩) R s:=by
 obtain ⟨hh,g,d,t,os⟩:=s;exact PySem.W.make_core (PySem.W.makes_of X hm) (PySem.W.looks_findIn X hi) (fun self=>PySem.W.bind_fn X self hf) (.inl rfl) h
end
noncomputable def Bz (f:Ak) (v:V):Ac (Ak × V)->Ac (Ak × V)
 | []=>[(f,v)]
 | (g,x) :: r=>if g=f then (g,v) :: r else (g,x) :: Bz f v r
theorem QX (f g:Ak) (v:V):∀fs:Ac (Ak × V),(Bz f v fs).lookup g=if g=f then Aa v else fs.lookup g
 | []=>by
   show Hu g [(f,v)]=_;by_cases h:g=f
   ·have hb:(g == f)=Af:=beq_iff_eq.mpr h;simp only [Hu,hb,Ar h]
   ·have hb:(g == f)=Aq:=beq_eq_false_iff_ne.mpr h;simp only [Hu,hb,Ao h]
 | (k,x) :: r=>by
   have ih:=QX f g v r;rw [show Bz f v ((k,x) :: r)=(if k=f then (k,v) :: r else (k,x) :: Bz f v r) from rfl];by_cases hk:k=f
   ·rw [Ar hk];by_cases h:g=k
    ·have hb:(g == k)=Af:=beq_iff_eq.mpr h;simp only [Hu,hb,Ar (h.trans hk)]
    ·have hb:(g == k)=Aq:=beq_eq_false_iff_ne.mpr h;simp only [Hu,hb,Ao (fun e:g=f=>h (e.trans hk.symm))]
   ·rw [Ao hk];by_cases h:g=k
    ·have hb:(g == k)=Af:=beq_iff_eq.mpr h;simp only [Hu,hb,Ao (fun e:g=f=>hk (h.symm.trans e))]
    ·have hb:(g == k)=Aq:=beq_eq_false_iff_ne.mpr h;simp only [Hu,hb];exact ih
theorem Nr (f:Ak) (v:V):∀fs:Ac (Ak × V),f∈(Bz f v fs).map (·.1)/\∀g,g∈fs.map (·.1)->g∈(Bz f v fs).map (·.1)
 | []=>⟨by simp [Bz],fun g h=>by simp at h⟩
 | (k,x) :: r=>by
   obtain ⟨i1,i2⟩:=Nr f v r;rw [show Bz f v ((k,x) :: r)=(if k=f then (k,v) :: r else (k,x) :: Bz f v r) from rfl];by_cases hk:k=f
   ·rw [Ar hk];subst hk;exact ⟨by simp,fun g h=>by simpa using h⟩
   ·rw [Ao hk];refine ⟨?_,fun g h=>?_⟩
    ·rw [Bg];exact Bc _ i1
    ·rw [Bg] at h ⊢;rcases mem_cons.mp h with e | e
     ·exact mem_cons.mpr (.inl e)
     ·exact Bc _ (i2 g e)
theorem QS (f:Ak) (v:V):∀fs:Ac (Ak × V),(Bz f v fs).length<=fs.length+1
 | []=>by simp [Bz]
 | (k,x) :: r=>by
   have ih:=QS f v r;rw [show Bz f v ((k,x) :: r)=(if k=f then (k,v) :: r else (k,x) :: Bz f v r) from rfl];by_cases hk:k=f
   ·rw [Ar hk,BP,BP];omega
   ·rw [Ao hk,BP,BP];omega
theorem CL.some_of {v:V} {o:A5 Ah} (r:CL (Aa v) o):∃u,o=Aa u/\AQ v u:=by
 cases o with
 | none=>exact (show BA from r).elim
 | some u=>exact ⟨u,rfl,r⟩
theorem CL.none_of {o:A5 Ah} (r:CL Ai o):o=Ai:=by
 cases o with
 | none=>rfl
 | some u=>exact (show BA from r).elim
theorem YY {v:V} {u:Ah} (r:AQ v u):WW u=Af:=by
 cases v with
 | non=>cases (show u=BQ from r);rfl
 | bl b=>cases (show u=C0 b from r);rfl
 | int i=>obtain ⟨t,e⟩:=(show ∃t,u=GT i t from r);cases e;rfl
 | str x=>obtain ⟨t,e⟩:=(show ∃t,u=IR x t from r);cases e;rfl
 | byt b=>obtain ⟨t,e⟩:=(show ∃t,u=Value.bytes b t from r);cases e;rfl
 | flt b=>obtain ⟨t,e⟩:=(show ∃t,u=Pm b t from r);cases e;rfl
 | ref a=>cases (show u=AO a from r);rfl
 | ty n=>cases (show u=Dp n from r);rfl
section
variable {P:A9} {w:A3} {H H':Hp} {h h':AD} {a C dx:Ad} {fs fs':Ac (Ak × V)}
theorem KC (hok:HOk P w H h) (e:H a=Aa (.ins C dx fs)):∃mA,GX h a dx C mA/\(∀f,CL (fs.lookup f) (mA f))/\Pe mA (fs.map (·.1))/\fs.length<=1000/\H dx=Aa (.own a):=by
 obtain ⟨d,z,ne,ob,mA,n,r,q⟩:=(show Bi P w H h a (.ins C dx fs) from hok a _ e);exact ⟨mA,⟨ob,n,ne⟩,r,q,z,d⟩
end
structure Cls (K:A8) (C:Ad):Prop where
 pg:My K C Str.empty=Af
 hd:OY K C=Af
 po:Xa K C=Af
 sa:Fg K (.ref C) "__setattr__"=Aa (Aa (.builtin "object.__setattr__"))
theorem Cls.get {K:A8} {C:Ad} (c:Cls K C) (f:Ak):My K C f=Af:=c.pg
noncomputable def Cc (K:A8) (C:Ad) (f:Ak):Prop:=Fg K (.ref C) f=Aa Ai
theorem Cc.taker {K:A8} {C:Ad} {f:Ak} (n:Cc K C f):Pd K C f=Aa Ai:=by
 unfold Pd;rw [show Fg K (.ref C) f=Aa Ai from n];rfl
structure C1 (K:A8) (C:Ad) (m:Ak) (f:Ad):Prop where
 at_:Fg K (.ref C) m=Aa (Aa (.ref f))
 fn:OZ K (.ref f)=Af
 kp:GP K (.ref f)=Af
section
variable {X:Cx} {pins:Ac (Ad × A2)} {σ:St} {H:Hp} {s:Aj} {a C dx:Ad} {fs:Ac (Ak × V)} {f:Ak} {v:V} {A:AR} {E:Ah->Aj->Prop}
theorem YU {b:AI} {Q:Ah->Aj->Prop} (I:Inv X pins σ H s) (e:H a=Aa (.ins C dx fs)) (c:Cls X.K C) (n:Cc X.K C f) (l:fs.lookup f=Aa v)
 (h:∀u s',Inv X pins σ H s'->AQ v u->Q u s'):Au (A6 X.prog X.w) A (getAttr (.ref a) f b) Q E s:=by
 obtain ⟨mA,O,r,_,_,_⟩:=KC I.hok e;obtain ⟨u,hu,ru⟩:=CL.some_of (v:=v) (o:=mA f) (by rw [<- l];exact r f);exact YS I.kIn O (c.get f) c.hd n hu (YY ru) (h u _ (I.tok _) ru)
theorem Q3 {m:Ak} {g:Ad} {pl:CQ AI} {Q:Ah × Ac Ah->Aj->Prop} (I:Inv X pins σ H s) (e:H a=Aa (.ins C dx fs)) (c:Cls X.K C) (k:C1 X.K C m g) (l:fs.lookup m=Ai)
 (h:Q (.ref g,[.ref a]) s):Au (A6 X.prog X.w) A (getMethod (.ref a) m pl) Q E s:=by
 obtain ⟨mA,O,r,_,_,_⟩:=KC I.hok e;have hn:mA m=Ai:=CL.none_of (by rw [<- l];exact r m);exact YT I.kIn O (c.get m) k.at_ k.fn hn h
theorem AbR {y:V} {u:Ah} {Q:Unit->Aj->Prop} (I:Inv X pins σ H s) (e:H a=Aa (.ins C dx fs)) (c:Cls X.K C) (n:Cc X.K C f) (hl:fs.length < 1000) (ry:AQ y u)
 (h:∀s',Inv X pins σ (upd H a (.ins C dx (Bz f y fs))) s'->Q () s'):Au (A6 X.prog X.w) A (setAttr (.ref a) f u) Q E s:=by
 obtain ⟨mA,O,r,wi,_,ho⟩:=KC I.hok e;have hz:(fs.map (·.1)).length<=AB:=by rw [At,CC];omega
 refine AbQ I.kIn O c.sa c.po n.taker c.hd wi hz fun h' O' sb=>h _ ?_;have hd:∃o,h'.get? dx=Aa o:=let ⟨o,_,_,e',_⟩:=O'.ns;⟨o,e'⟩;refine I.write (x:=a) (e:=dx) (by rw [e];exact Da) (.inr ho) (fun b q hb z=>(sb.2 b hb).trans z) hd ?_;refine ⟨by rw [AF O.ne];exact ho,?_,O.ne,O'.obj,_,O'.ns,fun g=>?_,fun g hg=>?_⟩
 ·have:=QS f y fs;omega
 ·show CL ((Bz f y fs).lookup g) (if g=f then Aa u else mA g);rw [QX];by_cases q:g=f
  ·rw [Ar q,Ar q];exact ry
  ·rw [Ao q,Ao q];exact r g
 ·by_cases q:g=f
  ·rw [q];exact (Nr f y fs).1
  ·refine (Nr f y fs).2 g (wi g fun z=>hg ?_);show (if g=f then Aa u else mA g)=Ai;rw [Ao q];exact z
theorem Inv.made (I:Inv X pins σ H s):Inv X pins σ (upd (upd H s.heap.objs.size (.own (s.heap.objs.size+1))) (s.heap.objs.size+1) (.ins C s.heap.objs.size []))
 { s with heap:=(s.heap.push Gh).push (GO C s.heap.objs.size) }:=by
 have e1:(s.heap.push Gh).get? s.heap.objs.size=Aa Gh:=BD s.heap rfl
 have e2:((s.heap.push Gh).push (GO C s.heap.objs.size)).get? (s.heap.objs.size+1)=Aa (GO C s.heap.objs.size):=by
  have:=BD (s.heap.push Gh) (o:=GO C s.heap.objs.size) rfl;rwa [IB] at this
 have e3:(s.heap.push Gh).Ns s.heap.objs.size (fun _=>Ai):=⟨Gh,#[],_,e1,rfl,(fun e he=>Aw he (by simp)),fun _=>rfl⟩;have I1:=I.laid (a:=s.heap.objs.size) (o:=.own (s.heap.objs.size+1)) (h':=s.heap.push Gh) (t':=s.toks) (fun b u q=>Bv _ q) (A1 _) ⟨_,e1⟩;refine I1.laid (a:=s.heap.objs.size+1) (o:=.ins C s.heap.objs.size []) (t':=s.toks) (fun b u q=>Bv _ q) (OM (IB _ _)) ?_;have ne:s.heap.objs.size≠s.heap.objs.size+1:=B1 (Mi _);refine ⟨by rw [AF ne,Az],Br _,ne,e2,fun _=>Ai,(Heap.Ns1.of_empty e3).at fun o q=>Bv _ q,fun _=>Da,fun y hy=>Aw rfl hy⟩
theorem X_ {prog:A9} {w:A3} {env:BC} {e:A4} {f:Ak} {pos:Pos} {s:Aj} {Q:Ah->Aj->Prop} (hb:attributeBase e f env (eval e env)=eval e env)
 (h:Au (A6 prog w) A (eval e env) (fun o s₁=>Au (A6 prog w) A (getAttr o f Af) Q E s₁) E s):Au (A6 prog w) A (eval (.Attribute e f pos) env) Q E s :=
 Attribute_any_ h (by rw [arm_eval_Attribute,hb])
end
inductive Sa (K:A8) (f:Ak) (x:V) (H:Hp) (Q:VK):Prop
 | mk (a C dx:Ad) (fs:Ac (Ak × V)) (v:V):x=.ref a->H a=Aa (.ins C dx fs)->Cls K C->Cc K C f->fs.lookup f=Aa v->Q v H->Sa K f x H Q
noncomputable def UT (K:A8) (ta:TE) (f:Ak):TE:=fun σ H Q=>ta σ H fun x H1=>Sa K f x H1 Q
inductive Sg (K:A8) (f:Ak) (y x:V) (H:Hp) (Q:Hp->Prop):Prop
 | mk (a C dx:Ad) (fs:Ac (Ak × V)):x=.ref a->H a=Aa (.ins C dx fs)->Cls K C->Cc K C f->fs.length < 1000->Q (upd H a (.ins C dx (Bz f y fs)))->Sg K f y x H Q
noncomputable def AbL (K:A8) (ta tv:TE) (f:Ak):TS:=fun D σ H=>tv σ H fun y H1=>ta σ H1 fun x H2=>Sg K f y x H2 (D.nx σ)
section
variable {X:Cx} {o e value:A4} {f:Ak} {pos pos' tpos:Pos} {ta tv:TE}
theorem Be (he:PE X e ta) (hb:attributeBase e f X.env (eval e X.env)=eval e X.env):PE X (.Attribute e f pos) (UT X.K ta f):=by
 intro pins s σ H Q I h;refine X_ hb (thn (he pins s σ H _ I h) fun u s1 hq_=>?_);obtain ⟨x,H1,I1,rx,a,C,dx,fs,v,ex,ea,c,n,l,q⟩:=hq_;subst ex;obtain rfl:u=AO a:=rx;exact YU I1 ea c n l fun u' s2 I2 ru=>⟨v,H1,I2,ru,q⟩
theorem FW (ha:PE X o ta) (hv:PE X value tv) (hs:swapsWith value (Aa (.Attribute o f pos')) pos.line X.env=pure Aq):PS X (.Assign [.Attribute o f pos'] value pos) (AbL X.K ta tv f):=by
 intro pins s σ H D I h;refine plainObj_wpAny_Assign_Attribute (thn (hv pins s σ H _ I h) fun u s1 ⟨y,H1,I1,ry,q⟩=>thn (ha pins s1 σ H1 _ I1 q) fun ov s2 ⟨x,H2,I2,rx,a,C,dx,fs,ex,ea,c,n,l,q2⟩=>?_) hs;subst ex;obtain rfl:ov=AO a:=rx;exact AbR I2 ea c n l ry fun s3 I3=>⟨σ,_,I3,q2⟩
end
section
variable {X:Cx} {pins:Ac (Ad × A2)} {σ:St} {H:Hp} {s:Aj} {A:AR} {E:Ah->Aj->Prop} {Q:Ah->Aj->Prop} {c:Ah} {b:AI}
inductive CS (K:A8) (H:Hp):V->Ah->Prop where
 | non:CS K H .non (.type "NoneType")
 | bl (x:AI):CS K H (.bl x) (.type "bool")
 | int (i:Ab):CS K H (.int i) (.type "int")
 | str (x:Ak):CS K H (.str x) (.type "str")
 | flt (x:UInt64):CS K H (.flt x) (.type "float")
 | lst {a:Ad} {xs:Ac V} (e:H a=Aa (.lst xs)):CS K H (.ref a) (.type "list")
 | frz {a:Ad} {o:A2} {xs:Ac V} (e:H a=Aa (.frz o (.lst xs))):CS K H (.ref a) (.type "list")
 | tup {a:Ad} {xs:Ac V} (e:H a=Aa (.tup xs)):CS K H (.ref a) (.type "tuple")
 | dK {a:Ad} {kvs:Ac (Key × V)} (e:H a=Aa (.dK kvs)):CS K H (.ref a) (.type "dict")
 | dT {a:Ad} {kvs:Ac (Ac Key × V)} (e:H a=Aa (.dT kvs)):CS K H (.ref a) (.type "dict")
 | ins {a C dx:Ad} {fs:Ac (Ak × V)} (e:H a=Aa (.ins C dx fs)) (cl:Cls K C) (ha:Fg K (.ref C) "__class__"=Aa (Aa (.builtin "object.__class__")))
  (hn:Pc K (.builtin "object.__class__") "__get__"=Aa (Aa (.builtin "getset_descriptor.__get__"))) (htk:Xb K (.builtin "object.__class__")=Aa Af)
  (hm:W_ K C (.type "object")=Aa Af):CS K H (.ref a) (.ref C)
theorem QD {x:V} {u t:Ah} (I:Inv X pins σ H s) (rx:AQ x u) (ty:CS X.K H x t) (e:Hz X.K t c=Aa b) (h:∀tk,Q (.bool b) { s with toks:=tk }) :
 Au (A6 X.prog X.w) A (call (.builtin "isinstance") [u,c]) Q E s:=by
 cases ty with
 | non=>cases (show u=BQ from rx);exact Fh PySem.W.kitx_none I.kIn Da e (fun z=>by cases z) h
 | bl y=>cases (show u=C0 y from rx);exact Fh PySem.W.kitx_bool I.kIn Da e (fun z=>by cases z) h
 | int i=>obtain ⟨t,q⟩:=(show ∃t,u=GT i t from rx);cases q;exact Fh PySem.W.kitx_int I.kIn Da e (fun z=>by cases z) h
 | str y=>obtain ⟨t,q⟩:=(show ∃t,u=IR y t from rx);cases q;exact Fh PySem.W.kitx_str I.kIn Da e (fun z=>by cases z) h
 | flt y=>obtain ⟨t,q⟩:=(show ∃t,u=Pm y t from rx);cases q;exact Fh PySem.W.kitx_float I.kIn Da e (fun z=>by cases z) h
 | @lst a xs ea =>
   cases (show u=AO a from rx)
   obtain ⟨_,_,n,_,h1⟩:=(show Bi X.prog X.w H s.heap a (.lst xs) from I.hok a _ ea);exact Fh WY I.kIn ⟨_,h1,rfl⟩ e (fun z=>by cases z) h
 | @frz a ob xs ea =>
   cases (show u=AO a from rx)
   obtain ⟨_,_,_,n,_,h1⟩:=(show Bi X.prog X.w H s.heap a (.frz ob (.lst xs)) from I.hok a _ ea);exact Fh WY I.kIn ⟨_,h1,rfl⟩ e (fun z=>by cases z) h
 | @tup a xs ea =>
   cases (show u=AO a from rx)
   obtain ⟨_,_,_,p⟩:=(show Bi X.prog X.w H s.heap a (.tup xs) from I.hok a _ ea);obtain ⟨o,h1,h2,_⟩:=p;exact Fh PySem.W.kitx_tuple I.kIn ⟨o,h1,h2⟩ e (fun z=>by cases z) h
 | @dK a kvs ea =>
   cases (show u=AO a from rx)
   obtain ⟨_,_,vs,_,p⟩:=(show Bi X.prog X.w H s.heap a (.dK kvs) from I.hok a _ ea);obtain ⟨o,es,ep,h1,h2,_⟩:=p;exact Fh WX I.kIn ⟨o,h1,h2.1⟩ e (fun z=>by cases z) h
 | @dT a kvs ea =>
   cases (show u=AO a from rx)
   obtain ⟨_,_,xs,_,o,es,ep,h1,h2,_⟩:=(show Bi X.prog X.w H s.heap a (.dT kvs) from I.hok a _ ea);exact Fh WX I.kIn ⟨o,h1,h2.1⟩ e (fun z=>by cases z) h
 | @ins a C dx fs ea cl ha hn htk hm =>
   cases (show u=AO a from rx)
   obtain ⟨mA,O,_⟩:=KC I.hok ea;obtain ⟨od,J,_⟩:=O.look;exact Fh (PySem.W.kitx_own (cl.get _) cl.hd ha hn htk hm) I.kIn J e (fun z=>by cases z) h
end
end L2
namespace L2
open PySem PySem.Spec PyProof.Rows
structure BB (k:Ae) (A:AR):Prop where
 hd:A.handled=Ai
 dp:A.depth+3*k+5 < recursionLimit
 un:A.units+16*k+200 < cLine
theorem BB.mono {j k:Ae} {A:AR} (r:BB k A) (h:j<=k):BB j A:=⟨r.hd,by have:=r.dp;omega,by have:=r.un;omega⟩
theorem BB.deeper {k:Ae} {A:AR} (r:BB (k+1) A) (env:BC):BB k (A.deeper env) :=
 ⟨r.hd,by have:=r.dp;show A.depth+1+3*k+5 < _;omega,by have:=r.un;show A.units+3+16*k+200 < _;omega⟩
theorem ZP {A:AR} {C:Ad} {us:Ac Ah} {kw:Ac (Ak × Ah)}:(A.under (.builtin "type.__call__" ⟨.ref C :: us,kw⟩)).depth=A.depth+1:=by
 first | rfl | simp [Oq,Code.weight,Code.isCreation,Code.isGuard,Code.isCaller,Code.frames,Oz,guardIds]
theorem ZR {A:AR} {C:Ad} {us:Ac Ah} {kw:Ac (Ak × Ah)}:(A.under (.builtin "type.__call__" ⟨.ref C :: us,kw⟩)).units=A.units+1:=by
 first | rfl | simp [Oq,Code.cUnits,Code.frames,Oz]
theorem BB.make {k:Ae} {A:AR} (r:BB (k+1) A) (C:Ad) (us:Ac Ah) (kw:Ac (Ak × Ah)):BB k (A.under (.builtin "type.__call__" ⟨.ref C :: us,kw⟩)) :=
 ⟨r.hd,by have:=r.dp;rw [ZP];omega,by have:=r.un;rw [ZR];omega⟩
theorem BB.depth {k:Ae} {A:AR} (r:BB k A):A.depth < recursionLimit:=by have:=r.dp;omega
theorem BB.units {k:Ae} {A:AR} (r:BB k A):A.units+64 < cLine:=by have:=r.un;omega
theorem BB.units0 {k:Ae} {A:AR} (r:BB k A):A.units < cLine:=by have:=r.un;omega
noncomputable def UV:TA:=fun _ H Q=>Q [] H
noncomputable def Acr (ta:TE) (tr:TA):TA:=fun σ H Q=>ta σ H fun x H1=>tr σ H1 fun xs H2=>Q (x :: xs) H2
section
variable {X:Cx} {e:A4} {es:Ac A4} {te:TE} {t:TA} {pos:Pos}
theorem Al:PA X [] UV:=fun _ _ _ _ H Q I h=>GC ⟨[],H,I,.nil,h⟩
theorem Ag (ha:PE X e te) (hr:PA X es t) (hs:Bh (e :: es) X.env=(Aq,eval e X.env) :: Bh es X.env:=by rfl):PA X (e :: es) (Acr te t):=by
 intro pos pins s σ H Q I h;rw [hs];show Au _ _ (spliced ((Aq,eval e X.env) :: backTo pos (Bh es X.env))) _ _ s;refine F5 (thn (ha pins s σ H _ I h) fun u s1 hq_=>?_);obtain ⟨x,H1,I1,r1,q1⟩:=hq_;refine thn (hr pos pins s1 σ H1 _ I1 q1) fun us s2 hq_=>?_;obtain ⟨xs,H2,I2,r2,q2⟩:=hq_;exact ⟨x :: xs,H2,I2,.cons r1 r2,q2⟩
noncomputable def AcI (t:TA):TE:=fun σ H Q=>t σ H fun xs H1=>xs.length<=AB/\∀p,H1 p=Ai->Q (.ref p) (upd H1 p (.tup xs))
noncomputable def Ac6 (t:TA):TE:=fun σ H Q=>t σ H fun xs H1=>xs.length<=AB/\∀p,H1 p=Ai->Q (.ref p) (upd H1 p (.lst xs))
theorem Bq {x1} (h:PA X es t):PE X (.Tuple es x1 pos) (AcI t):=by
 intro pins s σ H Q I hq;refine wpAny_Tuple_spliced (thn (h pos pins s σ H _ I hq) fun us s1 hq_=>?_);obtain ⟨xs,H1,I1,r,z,q⟩:=hq_;refine ⟨by rw [<- r.length];exact z,?_⟩;have hf:H1 s1.heap.objs.size=Ai:=I1.hok.fresh (A1 _);refine ⟨.ref s1.heap.objs.size,upd H1 s1.heap.objs.size (.tup xs),I1.laid (t':=s1.toks) (fun b u e=>Bv _ e) (A1 _) ?_,rfl,q _ hf⟩;exact ⟨z,us,r,⟨_,BD _ rfl,rfl,_,rfl⟩⟩
theorem CV (h:PA X es t):PE X (.List es pos) (Ac6 t):=by
 intro pins s σ H Q I hq;refine wpAny_List_spliced (thn (h pos pins s σ H _ I hq) fun us s1 hq_=>?_);obtain ⟨xs,H1,I1,r,z,q⟩:=hq_;refine ⟨by rw [<- r.length];exact z,?_⟩;have hf:H1 s1.heap.objs.size=Ai:=I1.hok.fresh (A1 _);refine ⟨.ref s1.heap.objs.size,upd H1 s1.heap.objs.size (.lst xs),I1.laid (t':=s1.toks) (fun b u e=>Bv _ e) (A1 _) ?_,rfl,q _ hf⟩;exact ⟨z,us,0,r,BD _ rfl⟩
end
abbrev Sp:=Ac V->Hp->VK->XK->Prop
abbrev CXT:=Ac BC->Hp->Aj->XK->Ah->Aj->Prop
structure GW (P:A9) (w:A3) (K:A8) (mg:Ak->A5 Ah) (base:AD) (A:AR) (outer:Ac BC) (s:Aj) (H:Hp):Prop where
 frames:A.frames=Aa outer
 mod:Mod K mg base
 bs:∀b o,base.get? b=Aa o->s.heap.get? b=Aa o/\H b=Ai
 bsz:base.objs.size<=s.heap.objs.size
 funs:s.heap.FunFrames base outer
 frf:∀b∈frs outer,H b=Ai
 hok:HOk P w H s.heap
 bare:Ga s.gens
noncomputable def CE (outer:Ac BC) (P:A9) (w:A3) (H:Hp) (s:Aj) (Q:VK) (u:Ah) (s':Aj):Prop :=
 ∃v H',s'.os=s.os/\Ga s'.gens/\Un (frs outer) [] H H' s.heap s'.heap/\HOk P w H' s'.heap/\AQ v u/\Q v H'
noncomputable def CR (CX:CXT) (outer:Ac BC) (P:A9) (w:A3) (H:Hp) (s:Aj) (Q:VK) (E:XK) (r:IQ) (s':Aj):Prop :=
 match r with
 | .ok (.ret u)=>CE outer P w H s Q u s'
 | .ok _=>BA
 | .error e=>CX outer H s E e s'
structure AG (P:A9) (w:A3) (K:A8) (mg:Ak->A5 Ah) (base:AD) (CX:CXT) (k:Ae) (f:Ad) (fd:AE) (ps:Ac Ak) (sp:Sp):Prop where
 len:∀vs H Q E,sp vs H Q E->vs.length=ps.length
 run:∀(A:AR) (outer:Ac BC) (s:Aj) (H:Hp) (args:Args) (us:Ac Ah) (vs:Ac V) (Q:VK) (E:XK),BB k A->GW P w K mg base A outer s H->GB s fd args (ps.zip us)->AU vs us->sp vs H Q E ->
  codeAny (A6 P w) A (.call (.ref f) args) (CR CX outer P w H s Q E) s
theorem GW.make {P:A9} {w:A3} {K:A8} {mg:Ak->A5 Ah} {base:AD} {A:AR} {outer:Ac BC} {s:Aj} {H:Hp} (e:GW P w K mg base A outer s H) (C:Ad) (us:Ac Ah) (kw:Ac (Ak × Ah)) :
 GW P w K mg base (A.under (.builtin "type.__call__" ⟨.ref C :: us,kw⟩)) outer s H:=⟨by first | exact e.frames | (simpa [Oq,Code.envs,Oz,pushEnvs] using e.frames),e.mod,e.bs,e.bsz,e.funs,e.frf,e.hok,e.bare⟩
section
variable {X:Cx} {pins:Ac (Ad × A2)} {σ:St} {H:Hp} {s s':Aj}
theorem Inv.env0 (I:Inv X pins σ H s):GW X.prog X.w X.K X.mg X.base X.A X.stack s H :=
 ⟨I.ok.frames,I.ok.mod,I.bs,BE I.ok.bsz I.sz,I.stack,I.stkFree,I.hok,I.bare⟩
theorem Inv.after {Q:VK} {u:Ah} (I:Inv X pins σ H s) (h:CE X.stack X.prog X.w H s Q u s'):EP X pins σ Q u s':=by
 obtain ⟨v,H',os,bare,un,hok,r,q⟩:=h;obtain ⟨hh,g,d,t,os'⟩:=s';obtain rfl:os'=s.os:=os;exact ⟨v,H',I.call (h':=hh) (g':=g) (d':=d) (t':=t) (ch:=[]) un hok bare (fun b z=>Aw z (by simp)),r,q⟩
end
noncomputable def US (sp:Sp) (dvs:Ac V) (E:XK) (t:TA):TE:=fun σ H Q=>t σ H fun vs H1=>sp (vs++dvs) H1 Q E
inductive Se (C:Ad) (m:Ak) (sp:Sp) (dvs:Ac V) (E:XK) (t:TA) (σ:St) (x:V) (H:Hp) (Q:VK):Prop
 | mk (a dx:Ad) (fs:Ac (Ak × V)):x=.ref a->H a=Aa (.ins C dx fs)->fs.lookup m=Ai->(t σ H fun vs H2=>sp (x :: (vs++dvs)) H2 Q E)->Se C m sp dvs E t σ x H Q
noncomputable def UU (C:Ad) (m:Ak) (sp:Sp) (dvs:Ac V) (E:XK) (ta:TE) (t:TA):TE:=fun σ H Q=>ta σ H fun x H1=>Se C m sp dvs E t σ x H1 Q
noncomputable def Ac7 (C:Ad) (sp:Sp) (dvs:Ac V) (E:XK) (t:TA):TE:=fun σ H Q=>t σ H fun vs H1=>∀x dx,H1 x=Ai->H1 dx=Ai->dx≠x ->
 sp (.ref x :: (vs++dvs)) (upd (upd H1 dx (.own x)) x (.ins C dx [])) (fun v H2=>v=.non/\Q (.ref x) H2) E
noncomputable def AJ (K:A8) (fd:AE) (ps:Ac Ak) (ds:Ac Ah):Prop :=
 ∀(s:Aj) (us:Ac Ah),K.In s.heap->(us++ds).length=ps.length->GB s fd ⟨us,[]⟩ (ps.zip (us++ds))
theorem AJ.all {K:A8} {fd:AE} {ps:Ac Ak} (h:∀us:Ac Ah,us.length=ps.length->bindArgs fd ⟨us,[]⟩=pure (ps.zip us)):AJ K fd ps []:=fun s us _ hl=>by
 rw [Ch] at hl ⊢;exact .of_eq (h us hl)
noncomputable def Gr (CX:CXT) (X:Cx) (E:XK):Prop:=∀(pins:Ac (Ad × A2)) (σ:St) (H:Hp) (s:Aj) (e:Ah) (s':Aj),Inv X pins σ H s->CX X.stack H s E e s'->X.xe e s'
section
variable {X:Cx} {CX:CXT} {k:Ae} {f C:Ad} {fd:AE} {ps:Ac Ak} {sp:Sp} {dvs:Ac V} {ds:Ac Ah} {E:XK} {x m:Ak} {p pos apos:Pos} {e o:A4} {es:Ac A4} {ta:TE} {t:TA}
theorem Lj {pins:Ac (Ad × A2)} {σ:St} {H:Hp} {s:Aj} {Q:VK} {us:Ac Ah} {vs:Ac V} (F:AG X.prog X.w X.K X.mg X.base CX k f fd ps sp) (hr:BB k X.A) (hb:AJ X.K fd ps ds) (hd:AU dvs ds) (hx:Gr CX X E)
 (I:Inv X pins σ H s) (r:AU vs us) (h:sp (vs++dvs) H Q E):Au (A6 X.prog X.w) X.A (call (.ref f) us) (EP X pins σ Q) X.xe s:=by
 have r2:AU (vs++dvs) (us++ds):=r.append hd;have hl:(us++ds).length=ps.length:=by rw [<- r2.length];exact F.len _ _ _ _ h
 refine P1 (HJ (F.run X.A X.stack s H ⟨us,[]⟩ (us++ds) (vs++dvs) Q E hr I.env0 (hb s us I.kIn hl) r2 h) fun r s' hq=>?_)
 cases r with
 | error e=>exact hx pins σ H s e s' I hq
 | ok fl =>
   cases fl with
   | ret u=>exact I.after hq
   | next=>exact Ex hq
   | brk=>exact Ex hq
   | cont=>exact Ex hq
theorem RE (F:AG X.prog X.w X.K X.mg X.base CX k f fd ps sp) (hr:BB k X.A) (hg:Gl X x) (hm:X.mg x=Aa (.ref f)) (hk:GP X.K (.ref f)=Af) (hb:AJ X.K fd ps ds) (hd:AU dvs ds) (hx:Gr CX X E)
 (ha:PA X (e :: es) t) (hdb:(x == ("__debug__":Ak))=Aq:=by decide) (he:Bh (e :: es) X.env=(Aq,eval e X.env) :: Bh es X.env:=by rfl) (hpl:(backTo pos (Bh es X.env)).any (·.1)=Aq:=by rfl) :
 PE X (.Call (.Name x p) (e :: es) [] pos) (US sp dvs E t):=by
 intro pins s σ H Q I h;refine GU (KG I hg hm ?_ hdb);refine Mv (h₀:=X.base) I.ok.mod.kin hk (thn (ha pos pins s σ H _ I h) fun us s1 ⟨vs,H1,I1,r,q⟩=>⟨I1.kIn,?_⟩) he hpl;exact Lj F hr hb hd hx I1 r q
theorem AaM {pl:CQ AI} (he:PE X o ta) (c:Cls X.K C) (hm:C1 X.K C m f) (F:AG X.prog X.w X.K X.mg X.base CX k f fd ps sp) (hr:BB k X.A) (hb:AJ X.K fd ps ds) (hd:AU dvs ds) (hx:Gr CX X E) (ha:PA X (e :: es) t)
 (hst:Bh (e :: es) X.env=(Aq,eval e X.env) :: Bh es X.env:=by rfl) (hpl:(backTo pos (Bh es X.env)).any (·.1)=Aq:=by rfl)
 (ht:eval (.Call (.Attribute o m apos) (e :: es) [] pos) X.env=(do
  let ov <- eval o X.env
  standAt apos.atName
  let (f,first) <- holding [ov] (getMethod ov m pl)
  callWith pos f first (backTo pos (Bh (e :: es) X.env)) (backToKw pos (keywordEach [] X.env))):=by rfl) :
 PE X (.Call (.Attribute o m apos) (e :: es) [] pos) (UU C m sp dvs E ta t):=by
 intro pins s σ H Q I h;refine O_ (pl:=pl) (thn (he pins s σ H _ I h) fun u s1 ⟨x,H1,I1,rx,a,dx,fs,ex,ea,l,q⟩=>?_) ht;subst ex;obtain rfl:u=AO a:=rx;refine Q3 I1 ea c hm l ?_;refine Mv (first:=[.ref a]) (h₀:=X.base) I.ok.mod.kin hm.kp (thn (ha pos pins s1 σ H1 _ I1 q) fun us s2 ⟨vs,H2,I2,r,q2⟩=>⟨I2.kIn,?_⟩) hst hpl;exact Lj (us:=.ref a :: us) (vs:=.ref a :: vs) F hr hb hd hx I2 (.cons rfl r) q2
theorem RK {pl:CQ AI} (he:PE X o ta) (c:Cls X.K C) (hm:C1 X.K C m f) (F:AG X.prog X.w X.K X.mg X.base CX k f fd ps sp) (hr:BB k X.A) (hb:AJ X.K fd ps ds) (hd:AU dvs ds) (hx:Gr CX X E)
 (ht:eval (.Call (.Attribute o m apos) [] [] pos) X.env=(do
  let ov <- eval o X.env
  standAt apos.atName
  let (f,first) <- holding [ov] (getMethod ov m pl)
  callWith pos f first (backTo pos (Bh [] X.env)) (backToKw pos (keywordEach [] X.env))):=by rfl) :
 PE X (.Call (.Attribute o m apos) [] [] pos) (UU C m sp dvs E ta UV):=by
 intro pins s σ H Q I h;refine O_ (pl:=pl) (thn (he pins s σ H _ I h) fun u s1 ⟨x,H1,I1,rx,a,dx,fs,ex,ea,l,q⟩=>?_) ht;subst ex;obtain rfl:u=AO a:=rx;refine Q3 I1 ea c hm l ?_;exact PySem.W.callWith_K0 (first:=[.ref a]) I1.kIn hm.kp (Lj (us:=[.ref a]) (vs:=[.ref a]) F hr hb hd hx I1 (.cons rfl .nil) q)
structure Mk (K:A8) (C f:Ad):Prop where
 makes:WZ K C=Af
 init:Fg K (.ref C) "__init__"=Aa (Aa (.ref f))
 fn:OZ K (.ref f)=Af
 kp:GP K (.ref C)=Af
theorem AbI {pins:Ac (Ad × A2)} {σ:St} {H:Hp} {s:Aj} {Q:VK} {us:Ac Ah} {vs:Ac V} (M:Mk X.K C f) (F:AG X.prog X.w X.K X.mg X.base CX k f fd ps sp) (hr:BB (k+1) X.A) (hb:AJ X.K fd ps ds) (hd:AU dvs ds)
 (hx:Gr CX X E) (I:Inv X pins σ H s) (r:AU vs us)
 (h:∀x dx,H x=Ai->H dx=Ai->dx≠x->sp (.ref x :: (vs++dvs)) (upd (upd H dx (.own x)) x (.ins C dx [])) (fun v H2=>v=.non/\Q (.ref x) H2) E) :
 Au (A6 X.prog X.w) X.A (call (.ref C) us) (EP X pins σ Q) X.xe s:=by
 have hq:=h (s.heap.objs.size+1) s.heap.objs.size (I.hok.fresh (Dl _)) (I.hok.fresh (A1 _)) (B1 (Mi _));have I2:=Inv.made (C:=C) I;have r2:AU (V.ref (s.heap.objs.size+1) :: (vs++dvs)) (AO (s.heap.objs.size+1) :: (us++ds)):=.cons rfl (r.append hd)
 have hl:(AO (s.heap.objs.size+1) :: us++ds).length=ps.length:=by
  have e:=r2.length;rw [F.len _ _ _ _ hq] at e;exact e.symm
 refine P1 (ZQ (f:=f) I.kIn M.makes M.init (beq_iff_eq.mp M.fn) (HJ (F.run _ X.stack _ _ ⟨AO (s.heap.objs.size+1) :: us,[]⟩ (AO (s.heap.objs.size+1) :: (us++ds)) _ _ E (hr.make C us [])
  (I2.env0.make C us []) (hb _ (AO (s.heap.objs.size+1) :: us) I2.kIn hl) r2 hq) fun r s' hq'=>?_))
 cases r with
 | error e=>exact hx pins σ _ _ e s' I2 hq'
 | ok fl =>
   cases fl with
   | ret u =>
     obtain ⟨v,H',I3,rv,ev,q3⟩:=I2.after hq';subst ev;exact ⟨rv,⟨V.ref (s.heap.objs.size+1),H',I3,rfl,q3⟩⟩
   | next=>exact Ex hq'
   | brk=>exact Ex hq'
   | cont=>exact Ex hq'
theorem Ld (M:Mk X.K C f) (F:AG X.prog X.w X.K X.mg X.base CX k f fd ps sp) (hr:BB (k+1) X.A) (hg:Gl X x) (hm:X.mg x=Aa (.ref C)) (hb:AJ X.K fd ps ds) (hd:AU dvs ds) (hx:Gr CX X E)
 (ha:PA X (e :: es) t) (hdb:(x == ("__debug__":Ak))=Aq:=by decide) (he:Bh (e :: es) X.env=(Aq,eval e X.env) :: Bh es X.env:=by rfl) (hpl:(backTo pos (Bh es X.env)).any (·.1)=Aq:=by rfl) :
 PE X (.Call (.Name x p) (e :: es) [] pos) (Ac7 C sp dvs E t):=by
 intro pins s σ H Q I h;refine GU (KG I hg hm ?_ hdb);refine Mv (h₀:=X.base) I.ok.mod.kin M.kp (thn (ha pos pins s σ H _ I h) fun us s1 ⟨vs,H1,I1,r,q⟩=>⟨I1.kIn,?_⟩) he hpl;exact AbI M F hr hb hd hx I1 r q
end
section
variable {X:Cx} {CX:CXT} {k:Ae} {f C:Ad} {fd:AE} {ps ks:Ac Ak} {sp:Sp} {E:XK} {x m:Ak} {p pos apos kpos:Pos} {e o:A4} {es:Ac A4} {kws:Ac GH} {te ta:TE} {t tk:TA} {nm:A5 Ak}
variable {g:Ac Ah->Ac Ah->Ac Ah} {gV:Ac V->Ac V->Ac V}
end
structure AM (N P:Ac Ak) (sc:Bu):Prop where
 kind:sc.kind=.function
 co:sc.isCoroutine=Aq
 gen:sc.isGenerator=Aq
 nd:N.Nodup
 pre:N.take P.length=P
 par:∀x∈P,sc.names.lookup x=Aa .local\/sc.names.lookup x=Aa .cell
 nofree:∀y∈sc.names,y.2≠.free
theorem PO {kindOf:Ak->A5 Gf} {x:Ak}:∀{binds:Ac (Ak × Ah)} {m:Ak->A5 Ah},(∀v,(x,v) ∉ binds)->bindL kindOf binds m x=m x
 | [],_,_=>rfl
 | (n,v) :: r,m,h=>by
   unfold bindL;rw [PO fun w hw=>h w (Bc _ hw)]
   split
   ·have:x≠n:=by rintro rfl;exact h v AV
    simp [this]
   ·rfl
theorem PM {kindOf:Ak->A5 Gf} {x:Ak}:∀{binds:Ac (Ak × Ah)} {m:Ak->A5 Ah},(∀v,(x,v) ∉ binds)->bindC kindOf binds m x=m x
 | [],_,_=>rfl
 | (n,v) :: r,m,h=>by
   unfold bindC;rw [PM fun w hw=>h w (Bc _ hw)]
   split
   ·rfl
   ·have:x≠n:=by rintro rfl;exact h v AV
    simp [this]
theorem PN {kindOf:Ak->A5 Gf} {x:Ak} {v:Ah}:∀{P:Ac Ak} {vs:Ac Ah} {i:Ae} {m:Ak->A5 Ah},P.Nodup->P[i]?=Aa x->vs[i]?=Aa v->kindOf x=Aa .local ->
 bindL kindOf (P.zip vs) m x=Aa v
 | [],_,_,_,_,h,_,_=>by simp at h
 | _ :: _,[],_,_,_,_,h,_=>by simp at h
 | p :: P,w :: vs,0,m,nd,h1,h2,hk=>by
   simp at h1 h2;subst h1;subst h2;show bindL kindOf ((p,w) :: P.zip vs) m p=_;unfold bindL;rw [PO fun v hv=>(nodup_cons.mp nd).1 (Fd hv).1,Ar hk];simp
 | p :: P,w :: vs,i+1,m,nd,h1,h2,hk=>by
   show bindL kindOf ((p,w) :: P.zip vs) m x=_;unfold bindL;exact PN (i:=i) (nodup_cons.mp nd).2 (by simpa using h1) (by simpa using h2) hk
theorem PL {kindOf:Ak->A5 Gf} {x:Ak} {v:Ah}:∀{P:Ac Ak} {vs:Ac Ah} {i:Ae} {m:Ak->A5 Ah},P.Nodup->P[i]?=Aa x->vs[i]?=Aa v->kindOf x≠Aa .local ->
 bindC kindOf (P.zip vs) m x=Aa v
 | [],_,_,_,_,h,_,_=>by simp at h
 | _ :: _,[],_,_,_,_,h,_=>by simp at h
 | p :: P,w :: vs,0,m,nd,h1,h2,hk=>by
   simp at h1 h2;subst h1;subst h2;show bindC kindOf ((p,w) :: P.zip vs) m p=_;unfold bindC;rw [PM fun v hv=>(nodup_cons.mp nd).1 (Fd hv).1,Ao hk];simp
 | p :: P,w :: vs,i+1,m,nd,h1,h2,hk=>by
   show bindC kindOf ((p,w) :: P.zip vs) m x=_;unfold bindC;exact PL (i:=i) (nodup_cons.mp nd).2 (by simpa using h1) (by simpa using h2) hk
noncomputable def Fz (N:Ac Ak) (vs:Ac V):St:=vs.map Aa++Cy (N.length - vs.length) Ai
noncomputable def Gu (CX:CXT) (P:A9) (w:A3) (K:A8) (mg:Ak->A5 Ah) (base:AD) (N:Ac Ak) (qual:Ak) (scope:Bu) (f:Ad) (cd:Ah) (A:AR) (outer:Ac BC) (s:Aj) (H:Hp) (E:XK):Cx where
 prog:=P
 w:=w
 K:=K
 mg:=mg
 base:=base
 A:=A.deeper (envOfC qual scope s.heap.objs.size f cd)
 N:=N
 s₀:=s
 H₀:=H
 env:=envOfC qual scope s.heap.objs.size f cd
 outer:=outer
 stack:=envOfC qual scope s.heap.objs.size f cd :: outer
 ex:=[]
 calm:=Af
 fn:=fun _=>Af
 pn:=[]
 xe:=fun e s'=>Au (A6 P w) (A.deeper (envOfC qual scope s.heap.objs.size f cd)) (leaving (envOfC qual scope s.heap.objs.size f cd) e) (fun _ s''=>CX outer H s E e s'') (fun e' s''=>CX outer H s E e' s'') s'
theorem PZ {sc:Bu} {n:Ae} {x:Ak} (h:sc.names.lookup x=Aa .cell):∃c,(cellsFrom n sc.names []).lookup x=Aa c:=by
 have q:=WV sc.names n [] (.inl h);exact Option.isSome_iff_exists.mp q
theorem Zn {CX:CXT} {P:A9} {w:A3} {K:A8} {mg:Ak->A5 Ah} {base:AD} {N ps:Ac Ak} {qual:Ak} {scope:Bu} {f:Ad} {cd:Ah} {A:AR} {outer:Ac BC} {s s1:Aj} {H:Hp} {E:XK} {us:Ac Ah} {vs:Ac V}
 (S:AM N ps scope) (hd:A.handled=Ai) (e0:GW P w K mg base A outer s H) (hl:vs.length=ps.length) (r:AU vs us)
 (x:InCallC s s.heap.objs.size (bindL (envOfC qual scope s.heap.objs.size f cd).kindOf (ps.zip us) fun _=>Ai) (cellsFrom (s.heap.objs.size+1) scope.names []) (bindC (envOfC qual scope s.heap.objs.size f cd).kindOf (ps.zip us) fun _=>Ai) s1) :
 Inv (Gu CX P w K mg base N qual scope f cd A outer s H E) [] (Fz N vs) H s1:=by
 have hpl:ps.length<=N.length:=by have:=Bx BM S.pre;rw [OD] at this;omega
 obtain ⟨h1,tk,rfl,hk⟩:=x.done;have noA:∀b:Ad,b ∉ (Gu CX P w K mg base N qual scope f cd A outer s H E).ex:=fun b z=>Aw (show b∈([]:Ac Ad) from z) (by simp)
 refine ⟨⟨e0.mod,S.kind,rfl,rfl,A1 _,fun y z c h1 h2=>?_,fun y hy=>?_,fun y c _ h=>?_,fun _=>hd,V1 e0.frames,.inr ⟨rfl,rfl⟩,fun b z=>Aw z (noA b),e0.bs,e0.bsz,fun b _ _=>noA b,fun b z=>Aw z (noA b),e0.funs,e0.frf⟩,
  rfl,e0.bare,Un.kept hk,⟨_,x.toInCall.ns,fun i y v h1 h2 h3=>?_⟩,fun y c h=>⟨_,x.cell y c h⟩,e0.hok.fresh (A1 _),fun y c h=>?_,fun p hp=>Aw (show p∈([]:Ac (Ad × A2)) from hp) (by simp),e0.hok.kept hk,?_⟩
 ·exact name_of_addr x.apart (E2 h1) (E2 h2)
 ·have hy:scope.names.lookup y=Aa .cell\/scope.names.lookup y=Aa .free:=hy;rcases hy with hy | hy
  ·exact PZ hy
  ·exact Aw rfl (S.nofree _ (E2 hy))
 ·exact DK (x.above y c (E2 h))
 ·have hi:i < vs.length:=by
   unfold Fz at h2;by_cases hi:i < vs.length
   ·exact hi
   ·rw [JX (by simpa using hi)] at h2;rw [LW] at h2
    split at h2 <;> cases h2
  have ha:vs[i]?=Aa v:=by
   unfold Fz at h2;rw [LU (by simpa using hi),Ba] at h2
   cases e:vs[i]? with
   | none=>rw [e] at h2;cases h2
   | some a=>rw [e] at h2;cases h2;rfl
  obtain ⟨u,hu,rv⟩:=r.get ha
  have hp:ps[i]?=Aa y:=by
   rw [<- S.pre,List.getElem?_take_of_lt (by omega)];exact h1
  have ndP:ps.Nodup:=by rw [<- S.pre];exact S.nd.sublist (take_sublist _ _)
  refine ⟨u,rv,?_⟩;rcases S.par y (Bt hp) with k | k
  ·exact .inl ⟨k,PN ndP hp hu k⟩
  ·obtain ⟨c,e⟩:=PZ (n:=s.heap.objs.size+1) k;refine .inr ⟨.inl k,c,e,?_⟩;have q:=x.cell y c e;rw [PL ndP hp hu (by show scope.names.lookup y≠_;rw [k];decide)] at q;exact q
 ·exact e0.hok.fresh (DK (x.above y c (E2 h)))
 ·unfold Fz;show _=N.length;rw [Bj,At,FC];omega
theorem Nk {CX:CXT} {P:A9} {w:A3} {K:A8} {mg:Ak->A5 Ah} {base:AD} {k:Ae} {f:Ad} {name qual:Ak} {params:Hm} {body:Ac AC} {scope:Bu} {dV kV doc pm cdv ct oc:Ah} {an od:A5 Ad}
 {osl:AL (A5 Ah)} {N ps:Ac Ak} {sp:Sp} (lk:K.lookup f=Aa ⟨oc,od,.func (GN name qual params body scope dV kV doc pm an cdv ct),osl⟩) (hcd:Kf K cdv qual=Af) (S:AM N ps scope)
 (len:∀vs H Q E,sp vs H Q E->vs.length=ps.length)
 (hbody:∀(A:AR) (outer:Ac BC) (s:Aj) (H:Hp) (vs:Ac V) (Q:VK) (E:XK),BB k (A.deeper (envOfC qual scope s.heap.objs.size f cdv))->sp vs H Q E ->
  ∃t,PSs (Gu CX P w K mg base N qual scope f cdv A outer s H E) body t/\t { nx:=fun _ H'=>Q .non H',rt:=Q } (Fz N vs) H) :
 AG P w K mg base CX (k+1) f (GN name qual params body scope dV kV doc pm an cdv ct) ps sp:=by
 refine ⟨len,fun A outer s H args us vs Q E hr e0 hb r hsp=>?_⟩;have hl:=len _ _ _ _ hsp;have KX:K.In s.heap:=e0.mod.kin.keeps fun b o e=>(e0.bs b o e).1;have lim:s.heap.NoLimit:=e0.mod.nolimit.keeps fun b o e=>(e0.bs b o e).1
 have hkind:∀y∈ps.zip us,scope.names.lookup y.1=Aa .local\/(scope.names.lookup y.1=Aa .cell/\((cellsFrom (s.heap.objs.size+1) scope.names []).lookup y.1).isSome=Af):=fun ⟨n,v⟩ hy=>by
  rcases S.par n (Fd hy).1 with q | q
  ·exact .inl q
  ·exact .inr ⟨q,WV _ _ _ (.inl q)⟩
 refine codeAny_call_function hr.depth (KX _ _ lk) rfl S.co S.gen rfl (PySem.W.codeRec_of KX hcd) (hb _ _ _ _ ?_);refine wpAny_newFunctionEnv_cells S.kind hkind fun env he s1 x=>?_;subst he;refine ⟨lim.keeps x.toInCall.keep,codeAny_func ?_⟩;obtain ⟨t,ht,hq⟩:=hbody A outer s H vs Q E (hr.deeper _) hsp;have I:Inv (Gu CX P w K mg base N qual scope f cdv A outer s H E) [] (Fz N vs) H s1:=Zn S hr.hd e0 hl r x;refine DM (ht [] s1 (Fz N vs) H _ I hq) (fun fl s' hs=>?_) fun e s' hs=>hs
 have fin:∀{σ':St} {H':Hp} {v:V} {u:Ah},Inv (Gu CX P w K mg base N qual scope f cdv A outer s H E) [] σ' H' s'->AQ v u->Q v H'->CE outer P w H s Q u s' :=
  fun {σ' H' v u} J rv q=>⟨v,H',J.os,J.bare,J.base,J.hok,rv,q⟩
 cases fl with
 | ret u =>
   obtain ⟨v,σ',H',J,rv,q⟩:=hs;exact fin J rv q
 | next =>
   obtain ⟨σ',H',J,q⟩:=hs;exact fin (v:=V.non) (u:=BQ) J rfl q
 | brk =>
   obtain ⟨_,_,_,q⟩:=hs;exact Ex q
 | cont =>
   obtain ⟨_,_,_,q⟩:=hs;exact Ex q
end L2
namespace L2
open PySem PySem.Spec PyProof.Rows
section
variable {X:Cx} {x:Ak} {p pos:Pos} {e:A4} {es:Ac A4} {t:TA} {id T:DX} {r:Ac V->Hp->VK->Prop}
noncomputable def tCB (r:Ac V->Hp->VK->Prop) (t:TA):TE:=fun σ H Q=>t σ H fun vs H1=>r vs H1 Q
theorem B4 (hc:De X (.builtin id) r) (hg:Gl X x) (hm:X.mg x=Ai) (hv:bootBuiltins x=Aa (.builtin id)) (ha:PA X (e :: es) t) (hn:x≠"__name__":=by decide) (hdb:(x == ("__debug__":Ak))=Aq:=by decide)
 (he:Bh (e :: es) X.env=(Aq,eval e X.env) :: Bh es X.env:=by rfl) (hpl:(backTo pos (Bh es X.env)).any (·.1)=Aq:=by rfl):PE X (.Call (.Name x p) (e :: es) [] pos) (tCB r t):=by
 intro pins s σ H Q I h;refine GU (Fo I hg hm hv ?_ hn hdb);exact PyProof.Rows.callWith_builtin1 (thn (ha pos pins s σ H _ I h) fun us s1 ⟨vs,H1,I1,r1,q1⟩=>hc pins s1 σ H1 vs us Q I1 r1 q1) he hpl
theorem Hf (hc:De X (.type T) r) (hg:Gl X x) (hm:X.mg x=Ai) (hv:bootBuiltins x=Aa (.type T)) (ha:PA X (e :: es) t) (hn:x≠"__name__":=by decide) (hdb:(x == ("__debug__":Ak))=Aq:=by decide)
 (he:Bh (e :: es) X.env=(Aq,eval e X.env) :: Bh es X.env:=by rfl) (hpl:(backTo pos (Bh es X.env)).any (·.1)=Aq:=by rfl):PE X (.Call (.Name x p) (e :: es) [] pos) (tCB r t):=by
 intro pins s σ H Q I h;refine GU (Fo I hg hm hv ?_ hn hdb);exact Mt (thn (ha pos pins s σ H _ I h) fun us s1 ⟨vs,H1,I1,r1,q1⟩=>hc pins s1 σ H1 vs us Q I1 r1 q1) he hpl
end
end L2
namespace HT
open PySem PyProof.Rows
noncomputable def lexLt:Ac Ab->Ac Ab->AI
 | [],[]=>Aq
 | [],_ :: _=>Af
 | _ :: _,[]=>Aq
 | x :: xs,y :: ys=>if x=y then lexLt xs ys else decide (x < y)
theorem lexLt_cons (x y:Ab) (xs ys:Ac Ab):lexLt (x :: xs) (y :: ys)=if x=y then lexLt xs ys else decide (x < y):=rfl
theorem ZB:lexLt [] []=Aq:=rfl
theorem ZA (y:Ab) (ys:Ac Ab):lexLt [] (y :: ys)=Af:=rfl
theorem Z9 (x:Ab) (xs:Ac Ab):lexLt (x :: xs) []=Aq:=rfl
theorem YF (A:AR) (s:Aj) (a:Ab) (t:Do) (c:Ab) (u:Do):∃e,M4 A s (.int a t) (.int c u) e/\(e=Af↔a=c) :=
 ⟨(a == c),Pl a t c u,by simp⟩
theorem Ab7 (A:AR) (s:Aj) (a:Ab) (t:Do) (c:Ab) (u:Do) (prog:A9) (w:A3) (E:Ah->Aj->Prop) (Q:Ah->Aj->Prop) (h:Q (.bool (decide (a < c))) s) :
 Au (A6 prog w) A (richCompare .Lt (.int a t) (.int c u)) Q E s :=
 (PyProof.Rows.lt_int h:Au (A6 prog w) A (Cj .Lt (.int a t) (.int c u)) Q E s)
section
open PySem.SeqAt
open PySem.AutoSeq1 (wpAny_loadPart')
open PySem.MeetsSeq PySem.MeetsSeq2 PySem.MeetsSeq3
theorem tuple_lt_ints (l b:Ad) (items items2:AL Ah) (n n2:Ae) (dd dd2:A5 Ad) (sl sl2:AL (A5 Ah)) (ns ms:Ac Ab) (hi:C_ items.toList ns) (hj:C_ items2.toList ms) :
 Meets (CZ.«tuple.__lt__» ⟨[.ref l,.ref b],[]⟩)
  (fun _ R s=>s.heap.get? l=Aa { cls:=.type "tuple",dict:=dd,data:=.seq items n,slots:=sl }/\s.heap.get? b=Aa { cls:=.type "tuple",dict:=dd2,data:=.seq items2 n2,slots:=sl2 } /\
   R (.ok (.ret (.bool (lexLt ns ms)))) s) :=
 .of_wp fun prog w A R s h=>by
  obtain ⟨hp,g,d,tk,os⟩:=s;obtain ⟨hl,hb,h⟩:=h;have f2:=V5;have z1:items.size=ns.length:=by rw [<- hi.length];simp
  have z2:items2.size=ms.length:=by rw [<- hj.length];simp
  wp_walk using L4 hl,L4 hb,Kq _ (fun rest b s'=>b.1=Ai/\s'=⟨hp,g,d,tk,os⟩/\∃(vs ws:Ac Ah) (ns' ms':Ac Ab),rest=vs.zip ws /\
   C_ vs ns'/\C_ ws ms'/\ns'.length+items2.size=ms'.length+items.size/\R (.ok (.ret (.bool (lexLt ns' ms')))) ⟨hp,g,d,tk,os⟩) _
  case turn =>
   rintro ⟨y,x⟩ rest b s' ⟨hb',rfl,vs,ws,ns',ms',hz,hvi,hwi,hlen,hR⟩
   cases hvi with
   | nil=>rw [zip_nil_left] at hz;cases hz
   | cons a t hvi' =>
     cases hwi with
     | nil=>rw [OJ] at hz;cases hz
     | cons c u hwi' =>
       rw [JZ] at hz;injection hz with hyx hrest
       injection hyx with hy hx
       subst hy hx;rw [lexLt_cons] at hR;simp only [BP] at hlen;obtain ⟨e,he,hiff⟩:=YF A.in1 ⟨hp,g,d,tk,os⟩ a t c u;refine An (he prog w _ _ ?_)
       cases e with
       | true =>
         rw [Ar (hiff.mp rfl)] at hR
         wp_walk
         exact ⟨rfl,rfl,_,_,_,_,hrest,hvi',hwi',by omega,hR⟩
       | false =>
         rw [Ao (fun q=>Aw (hiff.mpr q) Bl)] at hR;have hri:=Ab7 A.in1 ⟨hp,g,d,tk,os⟩ a t c u prog w
         wp_walk using hri
         exact ⟨_,rfl,by simpa using hR⟩
  case fin =>
   rintro ⟨b1,b2⟩ s' ⟨hb',rfl,vs,ws,ns',ms',hz,hvi,hwi,hlen,hR⟩;simp only at hb';subst hb'
   have hv:lexLt ns' ms'=decide (items.size < items2.size):=by
    cases hvi with
    | nil =>
      cases hwi with
      | nil =>
        simp only [DI] at hlen;rw [ZB];exact (AS (by omega)).symm
      | cons c u hw =>
        simp only [DI,BP] at hlen;rw [ZA];exact (AT (by omega)).symm
    | cons a t hv =>
      cases hwi with
      | nil =>
        simp only [DI,BP] at hlen;rw [Z9];exact (AS (by omega)).symm
      | cons c u hw =>
        rw [JZ] at hz
        cases hz
   rw [hv] at hR
   wp_walk
   exact ⟨_,rfl,by simpa [Builtin.Tuple.tupleCompareSizes] using hR⟩
  case h =>
   exact ⟨rfl,rfl,items.toList,items2.toList,ns,ms,rfl,hi,hj,by omega,h⟩
end
section
variable {prog:A9} {w:A3} {A:AR} {E:Ah->Aj->Prop} {s:Aj}
theorem lt_tupInts {l b:Ad} {items items2:AL Ah} {ns ms:Ac Ab} {Q:Ah->Aj->Prop} (hl:IsTup s.heap l items) (hb:IsTup s.heap b items2) (hi:C_ items.toList ns) (hj:C_ items2.toList ms)
 (hu:A.units < cLine) (h:Q (.bool (lexLt ns ms)) s):Au (A6 prog w) A (Cj .Lt (.ref l) (.ref b)) Q E s:=by
 obtain ⟨⟨cls,dd,data,sl⟩,ho,hc,n,hd⟩:=id hl;obtain ⟨⟨cls2,dd2,data2,sl2⟩,ho2,hc2,n2,hd2⟩:=id hb;simp only at hc hd hc2 hd2;subst hc hd hc2 hd2
 exact richCompare_meets_room (op:=.Lt) ⟨_,ho,rfl⟩ ⟨_,ho2,rfl⟩ OV WL (WJ _ _) (tuple_lt_ints l b items items2 n n2 dd dd2 sl sl2 ns ms hi hj)
  ⟨ho,ho2,show C0 (lexLt ns ms)≠Value.notImplemented/\Q (.bool (lexLt ns ms)) s from ⟨(fun x=>nomatch x),h⟩⟩ hu
end
end HT
namespace L2
open PySem PySem.Spec PyProof.Rows
theorem E9 {ns:Ac Ab}:∀{us:Ac Ah},AU (ns.map V.int) us->C_ us ns:=by
 induction ns with
 | nil=>intro us r;rw [IG] at r;cases r;exact .nil
 | cons n ns ih =>
   intro us r;rw [Bg] at r
   cases r with
   | cons r1 r2 =>
     obtain ⟨t,e⟩:=r1;subst e;exact .cons n t (ih r2)
section
variable {X:Cx} {e:A4} {te:TE} {lo hi:A5 A4} {tl th:TO} {pos p2:Pos}
end
end L2
namespace L2
open PySem PySem.Spec PyProof.Rows
noncomputable def ixN (n:Ae) (i:Ab):A5 Ae:=if 0<=i then (if i < n then Aa i.toNat else Ai) else if -(n:Ab)<=i then Aa (i+n).toNat else Ai
noncomputable def atI {α:Type} (xs:Ac α) (i:Ab):A5 α:=(ixN xs.length i).bind fun j=>xs[j]?
theorem Nq {n:Ae} {i:Ab} {j:Ae} (h:ixN n i=Aa j):seqIndex? i n=Aa j/\j < n/\-(n:Ab)<=i/\i < n:=by
 unfold ixN at h;by_cases h0:0<=i
 ·rw [Ar h0] at h;by_cases h1:i < n
  ·rw [Ar h1] at h;have e:i.toNat=j:=Bn h;exact ⟨by rw [Pw h0 h1,e],by omega,by omega,h1⟩
  ·rw [Ao h1] at h;cases h
 ·rw [Ao h0] at h;by_cases h1:-(n:Ab)<=i
  ·rw [Ar h1] at h;have e:(i+n).toNat=j:=Bn h;exact ⟨by rw [Pu (by omega) h1,e],by omega,h1,by omega⟩
  ·rw [Ao h1] at h;cases h
theorem PF {α:Type} {xs:Ac α} {i:Ab} {v:α} (h:atI xs i=Aa v):∃j,seqIndex? i xs.length=Aa j/\xs[j]?=Aa v/\j < xs.length/\-(xs.length:Ab)<=i/\i < xs.length:=by
 unfold atI at h
 cases e:ixN xs.length i with
 | none=>rw [e] at h;cases h
 | some j =>
   rw [e] at h;obtain ⟨h1,h2,h3,h4⟩:=Nq e;exact ⟨j,h1,h,h2,h3,h4⟩
theorem HQ {α:Type} {xs:Ac α} {j:Ae} {v:α} (h:xs[j]?=Aa v):atI xs (j:Ab)=Aa v:=by
 have hj:j < xs.length:=(List.getElem?_eq_some_iff.mp h).1
 have e:ixN xs.length (j:Ab)=Aa j:=by
  unfold ixN;rw [Ar (by omega),Ar (by omega)];simp
 unfold atI;rw [e];exact h
theorem XZ {α:Type} (xs:Ac α) (v:α):atI (xs++[v]) (-1)=Aa v:=by
 have hl:(xs++[v]).length=xs.length+1:=by simp
 have e:ixN (xs++[v]).length (-1)=Aa xs.length:=by
  unfold ixN;rw [hl,Ao (by decide),Ar (by omega)]
  congr 1
  omega
 unfold atI;rw [e];show (xs++[v])[xs.length]?=Aa v;simp
noncomputable def XI (b:A4):Prop:=∀o i,subscripted b Aq o i=operate [o,i] (getItem o i)
noncomputable def IxR (X:Cx) (r:R2):Prop :=
 ∀(value slice:A4) (pins:Ac (Ad × A2)) (s:Aj) (σ:St) (H:Hp) (x y:V) (v u:Ah) (Q:VK),Inv X pins σ H s->AQ x v->AQ y u->r x y H Q ->
  subscripted slice Aq v u=operate [v,u] (getItem v u)->Au (A6 X.prog X.w) X.A (subscriptTail value slice v u) (EP X pins σ Q) X.xe s
noncomputable def MtR (X:Cx) (id:DX) (r:V->Ac V->Hp->VK->Prop):Prop :=
 ∀(pins:Ac (Ad × A2)) (s:Aj) (σ:St) (H:Hp) (x:V) (xs:Ac V) (v:Ah) (us:Ac Ah) (Q:VK),Inv X pins σ H s->AQ x v->AU xs us->r x xs H Q ->
  Au (A6 X.prog X.w) X.A (call (.builtin id) (v :: us)) (EP X pins σ Q) X.xe s
section
variable {X:Cx} {a b:A4} {ta tb:TE} {pos:Pos}
theorem AaL {r:R2} (hr:IxR X r) (ha:PE X a ta) (hb:PE X b tb) (hs:XI b):PE X (.Subscript a b pos) (tOp r ta tb):=by
 intro pins s σ H Q I h;exact Subscript_ (MY ha hb I h fun v u s2 x y H2 I2 rx ry q=>hr a b pins s2 σ H2 x y v u Q I2 rx ry q (hs _ _))
inductive NO (K:A8) (x y:V) (H:Hp) (Q:VK):Prop
 | mk (p:Ad) (xs:Ac V) (i:Ab) (v:V):x=.ref p->y=.int i->SqL K H p xs->atI xs i=Aa v->Q v H->NO K x y H Q
inductive NP (K:A8) (x y:V) (H:Hp) (Q:VK):Prop
 | mk (p:Ad) (xs:Ac V) (i:Ab) (v:V):x=.ref p->y=.int i->SqT K H p xs->atI xs i=Aa v->Q v H->NP K x y H Q
theorem CM:IxR X (NO X.K):=by
 intro value slice pins s σ H x y v u Q I rx ry h hs;obtain ⟨p,xs,i,z,rfl,rfl,hq,he,q⟩:=h
 cases rx
 obtain ⟨t,rfl⟩:=ry;obtain ⟨its,r,pl,hz⟩:=I.list hq;obtain ⟨j,h1,h2,h3,h4,h5⟩:=PF he;obtain ⟨w,ew,rw'⟩:=r.get h2;have hl:=r.length;have hn:=KI;have fin:EP X pins σ Q w s:=⟨z,H,I,rw',q⟩;by_cases h0:0<=i
 ·have hj:i.toNat=j:=by
   rw [Pw h0 h5] at h1;exact Bn h1
  exact item_listR pl.isList h0 (by omega) (by rw [hj];simpa using ew) fin hs
 ·have hj:(i+(its.toArray.size:Ab)).toNat=j:=by
   rw [Pu (by omega) h4] at h1;rw [BJ,<- hl];exact Bn h1
  exact subscriptTail_builtinR (x:=w) pl.isList.typeIs slot_list_getitem.lookup
   (wpAny_getItem_list_neg (Q:=fun r s'=>r=w/\EP X pins σ Q r s') pl.isList (by omega) (by rw [BJ] <;> omega) (by omega) (by rw [hj];simpa using ew) ⟨rfl,fin⟩) hs
theorem AX:IxR X (NP X.K):=by
 intro value slice pins s σ H x y v u Q I rx ry h hs;obtain ⟨p,xs,i,z,rfl,rfl,hq,he,q⟩:=h
 cases rx
 obtain ⟨t,rfl⟩:=ry;obtain ⟨its,r,pl,hz⟩:=I.tuple hq;obtain ⟨j,h1,h2,h3,h4,h5⟩:=PF he;obtain ⟨w,ew,rw'⟩:=r.get h2;have hl:=r.length;have hn:=KI;have fin:EP X pins σ Q w s:=⟨z,H,I,rw',q⟩
 exact subscriptTail_builtinR (x:=w) pl.typeIs slot_tuple_getitem.lookup
  (getItem_tuple (j:=j) (Q:=fun r s'=>r=w/\EP X pins σ Q r s') pl (by omega) (by omega) (by rw [BJ,<- hl];exact h1) (by simpa using ew) ⟨rfl,fin⟩) hs
theorem ZS (its:Ac Ah) (n j:Ae) (u:Ah):Co (·.setIfInBounds j u) { cls:=.type "list",data:=.seq its.toArray n }={ cls:=.type "list",data:=.seq (its.set j u).toArray n }:=by
 simp [Co]
theorem Inv.lst {pins:Ac (Ad × A2)} {σ:St} {H:Hp} {s:Aj} {p:Ad} {xs:Ac V} (I:Inv X pins σ H s) (h:H p=Aa (.lst xs)) :
 ∃(its:Ac Ah) (n:Ae),AU xs its/\s.heap.get? p=Aa { cls:=.type "list",data:=.seq its.toArray n }/\xs.length<=AB:=by
 obtain ⟨z,its,n,r,e⟩:=I.hok p _ h;exact ⟨its,n,r,e,z⟩
theorem Inv.lstUpd {pins:Ac (Ad × A2)} {σ:St} {H:Hp} {s:Aj} {p:Ad} {xs ys:Ac V} {its its':Ac Ah} {n n':Ae} {f:A2->A2} (I:Inv X pins σ H s) (h:H p=Aa (.lst xs))
 (ho:s.heap.get? p=Aa { cls:=.type "list",data:=.seq its.toArray n }) (hf:f { cls:=.type "list",data:=.seq its.toArray n }={ cls:=.type "list",data:=.seq its'.toArray n' }) (r:AU ys its') (hz:ys.length<=AB) (t:Ae) :
 Inv X pins σ (upd H p (.lst ys)) { s with heap:=s.heap.update p f,toks:=t }:=by
 have e:(s.heap.update p f).get? p=Aa { cls:=.type "list",data:=.seq its'.toArray n' }:=by
  rw [Hr f ho (by rw [hf] <;> rfl),hf]
 refine I.write (x:=p) (e:=p) (by rw [h];trivial) (.inl rfl) (fun b u hb q=>(Gc _ _ (BF hb)).trans q) ⟨_,e⟩ ?_;exact ⟨hz,its',n',r,e⟩
inductive Si (o i v:V) (H:Hp) (Q:Hp->Prop):Prop
 | mk (p:Ad) (xs:Ac V) (k:Ab) (j:Ae):o=.ref p->i=.int k->H p=Aa (.lst xs)->ixN xs.length k=Aa j->Q (upd H p (.lst (xs.set j v)))->Si o i v H Q
theorem T2:P9 X Si:=by
 intro pins s σ H o i v ov iv u Q I ro ri rv h;obtain ⟨p,xs,k,j,rfl,rfl,hp,hj,q⟩:=h
 cases ro
 obtain ⟨t,rfl⟩:=ri;obtain ⟨its,n,r,ho,hz⟩:=I.lst hp;obtain ⟨h1,h2,h3,h4⟩:=Nq hj;have hl:=r.length;have hn:=KI
 have I':Inv X pins σ (upd H p (.lst (xs.set j v))) { s with heap:=s.heap.update p (Co (·.setIfInBounds j u)) } :=
  I.lstUpd hp ho (ZS its n j u) (r.set rv j) (by rw [LZ];exact hz) s.toks
 by_cases h0:0<=k
 ·have hk:k.toNat=j:=by
   rw [Pw h0 h4] at h1;exact Bn h1
  exact PySem.W.ki_setAt ho h0 (by omega) (by rw [BJ,<- hl];exact h4) (by rw [hk];exact ⟨_,I',q⟩)
 ·have hk:(k+(its.toArray.size:Ab)).toNat=j:=by
   rw [Pu (by omega) h3] at h1;rw [BJ,<- hl];exact Bn h1
  exact PySem.W.ki_setBack ho (by omega) (by rw [BJ,<- hl];exact h3) (by omega) (by rw [hk];exact ⟨_,I',q⟩)
noncomputable def Fm:V->AI
 | .non=>Af
 | .bl _=>Af
 | .int _=>Af
 | .str _=>Af
 | _=>Aq
noncomputable def eqV:V->V->AI
 | .non,.non=>Af
 | .bl a,.bl b=>a == b
 | .bl a,.int b=>(if a then 1 else 0) == b
 | .int a,.bl b=>a == (if b then 1 else 0)
 | .int a,.int b=>a == b
 | .str a,.str b=>a == b
 | _,_=>Aq
theorem YE {A:AR} {s:Aj} {y x:V} {u v:Ah} (ry:AQ y u) (rx:AQ x v) (fy:Fm y=Af) (fx:Fm x=Af):M4 A s u v (eqV y x):=by
 cases y with
 | non =>
   cases ry
   cases x with
   | non=>cases rx;exact SeqAt.EqAt.same _
   | bl b=>cases rx;exact SeqAt.EqAt.none_bool b
   | int b=>obtain ⟨t,rfl⟩:=rx;exact SeqAt.EqAt.none_int b t
   | str b=>obtain ⟨t,rfl⟩:=rx;exact SeqAt.EqAt.none_str b t
   | _=>exact Aw (show Aq=Af from fx) Bl
 | bl a =>
   cases ry
   cases x with
   | non=>cases rx;exact SeqAt.EqAt.bool_none a
   | bl b=>cases rx;exact SeqAt.EqAt.bool_bool a b
   | int b=>obtain ⟨t,rfl⟩:=rx;exact SeqAt.EqAt.bool_int a b t
   | str b=>obtain ⟨t,rfl⟩:=rx;exact SeqAt.EqAt.bool_str a b t
   | _=>exact Aw (show Aq=Af from fx) Bl
 | int a =>
   obtain ⟨t',rfl⟩:=ry
   cases x with
   | non=>cases rx;exact SeqAt.EqAt.int_none a t'
   | bl b=>cases rx;exact SeqAt.EqAt.int_bool a t' b
   | int b=>obtain ⟨t,rfl⟩:=rx;exact Pl a t' b t
   | str b=>obtain ⟨t,rfl⟩:=rx;exact Xg a t' b t
   | _=>exact Aw (show Aq=Af from fx) Bl
 | str a =>
   obtain ⟨t',rfl⟩:=ry
   cases x with
   | non=>cases rx;exact SeqAt.EqAt.str_none a t'
   | bl b=>cases rx;exact SeqAt.EqAt.str_bool a t' b
   | int b=>obtain ⟨t,rfl⟩:=rx;exact Xh a t' b t
   | str b=>obtain ⟨t,rfl⟩:=rx;exact SeqAt.EqAt.str_str a t' b t
   | _=>exact Aw (show Aq=Af from fx) Bl
 | _=>exact Aw (show Aq=Af from fy) Bl
noncomputable def eqU (x:V) (u:Ah):AI:=match u with
 | .none=>eqV .non x
 | .bool b=>eqV (.bl b) x
 | .int i _=>eqV (.int i) x
 | .str z _=>eqV (.str z) x
 | _=>Aq
theorem Qo {x y:V} {u:Ah} (r:AQ y u) (f:Fm y=Af):eqU x u=eqV y x:=by
 cases y with
 | non=>cases r;rfl
 | bl b=>cases r;rfl
 | int i=>obtain ⟨t,rfl⟩:=r;rfl
 | str z=>obtain ⟨t,rfl⟩:=r;rfl
 | _=>exact Aw (show Aq=Af from f) Bl
theorem Jd {x:V}:∀{xs:Ac V} {us:Ac Ah},AU xs us->xs.all Fm=Af->us.any (eqU x)=xs.any fun y=>eqV y x
 | _,_,.nil,_=>rfl
 | y :: xs,u :: us,.cons r t,f=>by
   rw [VX,Gb] at f;rw [IE,IE,Qo r f.1,Jd t f.2]
theorem Jo {A:AR} {s:Aj} {x:V} {v:Ah} (rx:AQ x v) (fx:Fm x=Af):∀{xs:Ac V} {us:Ac Ah},AU xs us->xs.all Fm=Af->∀u∈us,M4 A s u v (eqU x u)
 | _,_,.nil,_=>fun u hu=>by cases hu
 | y :: xs,u :: us,.cons r t,f=>fun u' hu=>by
   rw [VX,Gb] at f;rcases mem_cons.mp hu with rfl | hu
   ·rw [Qo r f.1];exact YE r rx f.1 fx
   ·exact Jo rx fx t f.2 u' hu
noncomputable def inV (x:V) (xs:Ac V):AI:=xs.any fun y=>eqV y x
inductive rIn (K:A8) (neg:AI) (x y:V) (H:Hp) (Q:VK):Prop
 | mk (p:Ad) (xs:Ac V):y=.ref p->(SqL K H p xs\/SqT K H p xs)->(Fm x=Af/\xs.all Fm=Af/\Q (.bl (if neg then !inV x xs else inV x xs)) H)->rIn K neg x y H Q
theorem Aaw:OpR X (Cj .In) (rIn X.K Aq):=by
 intro pins s σ H x y v u Q I rx ry h;obtain ⟨p,xs,rfl,hq,fx,fs,q⟩:=h
 cases ry
 rcases hq with hq | hq
 ·obtain ⟨its,r,pl,hz⟩:=I.list hq;refine SeqAt.in_listAt (eqU x) pl.isList (fun w hw=>Jo rx fx r fs w (by simpa using hw)) ⟨.bl _,H,I,rfl,?_⟩;rw [show its.toArray.any (eqU x)=its.any (eqU x) by simp,Jd r fs];exact q
 ·obtain ⟨its,r,pl,hz⟩:=I.tuple hq;refine SeqAt.in_tupleAt (eqU x) pl (fun w hw=>Jo rx fx r fs w (by simpa using hw)) ⟨.bl _,H,I,rfl,?_⟩;rw [show its.toArray.any (eqU x)=its.any (eqU x) by simp,Jd r fs];exact q
theorem Aaz:OpR X (Cj .NotIn) (rIn X.K Af):=by
 intro pins s σ H x y v u Q I rx ry h;obtain ⟨p,xs,rfl,hq,fx,fs,q⟩:=h
 cases ry
 rcases hq with hq | hq
 ·obtain ⟨its,r,pl,hz⟩:=I.list hq;refine SeqAt.notIn_listAt (eqU x) pl.isList (fun w hw=>Jo rx fx r fs w (by simpa using hw)) ⟨.bl _,H,I,rfl,?_⟩;rw [show its.toArray.any (eqU x)=its.any (eqU x) by simp,Jd r fs];exact q
 ·obtain ⟨its,r,pl,hz⟩:=I.tuple hq;refine SeqAt.notIn_tupleAt (eqU x) pl (fun w hw=>Jo rx fx r fs w (by simpa using hw)) ⟨.bl _,H,I,rfl,?_⟩;rw [show its.toArray.any (eqU x)=its.any (eqU x) by simp,Jd r fs];exact q
theorem FK:De X (.builtin "len") (fun xs H Q=>∃p ys,xs=[.ref p]/\(SqL X.K H p ys\/SqT X.K H p ys)/\Q (.int ys.length) H):=by
 intro pins s σ H xs us Q I r h;obtain ⟨p,ys,rfl,hq,q⟩:=h;obtain ⟨u,rfl,rx⟩:=Ew r
 cases rx
 have hn:=KI;rcases hq with hq | hq
 ·obtain ⟨its,r',pl,hz⟩:=I.list hq;have hlen:=r'.length;exact Calls.call_len_list pl.isList (by simp only [BJ] <;> omega) ⟨.int ys.length,H,I.tok _,⟨s.toks+1,by rw [BJ,hlen]⟩,q⟩
 ·obtain ⟨its,r',pl,hz⟩:=I.tuple hq;have hlen:=r'.length;exact len_tuple pl (by simp only [BJ] <;> omega) ⟨.int ys.length,H,I.tok _,⟨s.toks+1,by rw [BJ,hlen]⟩,q⟩
theorem HS:De X (.type "list") (fun xs H Q=>∃p ys,xs=[.ref p]/\(SqL X.K H p ys\/SqT X.K H p ys)/\∀l,H l=Ai->Q (.ref l) (upd H l (.lst ys))):=by
 intro pins s σ H xs us Q I r h;obtain ⟨p,ys,rfl,hq,q⟩:=h;obtain ⟨u,rfl,rx⟩:=Ew r
 cases rx
 have fin:∀(its:Ac Ah),AU ys its->ys.length<=AB->∀(h':AD) (c':Ae),(∀b o',s.heap.get? b=Aa o'->h'.get? b=Aa o') ->
  h'.get? s.heap.objs.size=Aa { cls:=.type "list",dict:=Ai,data:=.seq its.toArray c',slots:=#[] }->EP X pins σ Q (.ref s.heap.objs.size) { s with heap:=h' }:=fun its r' hz h' c' kp e =>
  ⟨.ref s.heap.objs.size,_,I.laid (t':=s.toks) kp (A1 _) (show Bi X.prog X.w _ h' _ (.lst ys) from ⟨hz,its,c',r',e⟩),rfl,q _ (I.hok.fresh (A1 _))⟩
 rcases hq with hq | hq
 ·obtain ⟨its,r',pl,hz⟩:=I.list hq;have hlen:=r'.length;obtain ⟨o,ho,hc,n,hd⟩:=pl.isList;exact call_list_seq p (.inl rfl) ho hc hd (fun h' c' kp e=>fin its r' hz h' c' kp e) (by simp only [BJ] <;> omega)
 ·obtain ⟨its,r',pl,hz⟩:=I.tuple hq;have hlen:=r'.length;obtain ⟨o,ho,hc,n,hd⟩:=pl;exact call_list_seq p (.inr rfl) ho hc hd (fun h' c' kp e=>fin its r' hz h' c' kp e) (by simp only [BJ] <;> omega)
noncomputable def tyV (K:A8) (T:DX) (x:V) (H:Hp):Prop:=match x with
 | .str _=>T="str"
 | .int _=>T="int"
 | .ref p=>(T="list"/\∃xs,SqL K H p xs)\/(T="tuple"/\∃o,K.lookup p=Aa o/\o.cls=.type "tuple"/\o.dict=Ai) \/
  (T="dict"/\((∃kvs,H p=Aa (.dK kvs))\/∃kvs,H p=Aa (.dT kvs)))\/(T="set"/\∃S n,H p=Aa (.set S n))
 | _=>BA
theorem Vg {pins:Ac (Ad × A2)} {σ:St} {H:Hp} {s:Aj} {T:DX} {x:V} {v:Ah} (I:Inv X pins σ H s) (r:AQ x v) (ty:tyV X.K T x H) :
 s.TypeIs v T/\∀a,v=.ref a->∃ob,s.heap.get? a=Aa ob/\ob.dict=Ai:=by
 cases x with
 | str z =>
   obtain ⟨t,rfl⟩:=r
   cases (show T="str" from ty)
   exact ⟨typeIs_str s z t,fun _ e=>nomatch e⟩
 | int i =>
   obtain ⟨t,rfl⟩:=r
   cases (show T="int" from ty)
   exact ⟨typeIs_int s i t,fun _ e=>nomatch e⟩
 | ref p =>
   cases r
   rcases ty with ⟨rfl,xs,hq⟩ | ⟨rfl,o,hk,hc,hd⟩ | ⟨rfl,hk⟩ | ⟨rfl,S,n,hk⟩
   ·obtain ⟨its,_,pl,_⟩:=I.list hq;refine ⟨pl.isList.typeIs,fun a e=>?_⟩
    cases e
    obtain ⟨o,n,e,c,hd,_⟩:=pl;exact ⟨o,e,hd⟩
   ·refine ⟨⟨o,I.kIn p o hk,hc⟩,fun a e=>?_⟩
    cases e
    exact ⟨o,I.kIn _ o hk,hd⟩
   ·have z:∃o,s.heap.get? p=Aa o/\o.ExactDict:=by
     rcases hk with ⟨kvs,hk⟩ | ⟨kvs,hk⟩
     ·obtain ⟨_,_,_,_,o,_,_,e,ex,_⟩:=I.hok p _ hk;exact ⟨o,e,ex⟩
     ·obtain ⟨_,_,_,_,o,_,_,e,ex,_⟩:=I.hok p _ hk;exact ⟨o,e,ex⟩
    obtain ⟨o,e,ex⟩:=z;refine ⟨⟨o,e,ex.1⟩,fun a e2=>?_⟩
    cases e2
    exact ⟨o,e,ex.2.1⟩
   ·obtain ⟨o,_,_,_,e,ex,_⟩:=I.hok p _ hk;refine ⟨⟨o,e,ex.1⟩,fun a e2=>?_⟩
    cases e2
    exact ⟨o,e,ex.2.1⟩
 | _=>exact Ex ty
noncomputable def Acp (K:A8) (T:DX) (r:V->Ac V->Hp->VK->Prop) (to:TE):TE:=fun σ H Q=>to σ H fun x H1=>tyV K T x H1/\r x [] H1 Q
noncomputable def tBM (K:A8) (T:DX) (r:V->Ac V->Hp->VK->Prop) (to:TE) (t:TA):TE:=fun σ H Q=>to σ H fun x H1=>tyV K T x H1/\t σ H1 fun xs H2=>r x xs H2 Q
variable {o e:A4} {es:Ac A4} {to:TE} {t:TA} {name:Ak} {apos cpos:Pos} {T id:DX} {r:V->Ac V->Hp->VK->Prop}
theorem NF (pa:PlainAttrs T) (slot:Slot T name id) (hty:typeOf (.builtin id)=pure (.type "method_descriptor")) (hm:MtR X id r) (ho:PE X o to)
 (hbase:attributeBase o name X.env (eval o X.env)=eval o X.env:=by rfl) (hline:(apos.endLine == cpos.line)=Af:=by rfl):PE X (.Call (.Attribute o name apos) [] [] cpos) (Acp X.K T r to):=by
 intro pins s σ H Q I h;refine wpAny_Call_method0_late hbase hline (thn (ho pins s σ H _ I h) fun v s1 hq_=>?_);obtain ⟨x,H1,I1,r1,ty,q1⟩:=hq_;obtain ⟨h1,h2⟩:=Vg I1 r1 ty;exact ⟨T,id,pa,slot,hty,h1,h2,JO rfl (PySem.evalArgs_none (hm pins s1 σ H1 x [] v [] Q I1 r1 .nil q1))⟩
theorem CN (pa:PlainAttrs T) (slot:Slot T name id) (hty:typeOf (.builtin id)=pure (.type "method_descriptor")) (hm:MtR X id r) (ho:PE X o to) (ha:PA X (e :: es) t)
 (hbase:attributeBase o name X.env (eval o X.env)=eval o X.env:=by rfl)
 (hfew:((backTo cpos (Bh (e :: es) X.env)).all (fun x=>!x.1) && (backToKw cpos (keywordEach [] X.env)).all (fun x=>x.1.isSome)
  && decide ((e :: es).length+([]:Ac GH).length+(if ([]:Ac GH).isEmpty then 0 else 1) < 30))=Af:=by rfl)
 (hline:(apos.endLine == cpos.line)=Af:=by rfl) (hs:Bh (e :: es) X.env=(Aq,eval e X.env) :: Bh es X.env:=by rfl) (hplain:(backTo cpos (Bh es X.env)).any (·.1)=Aq:=by rfl) :
 PE X (.Call (.Attribute o name apos) (e :: es) [] cpos) (tBM X.K T r to t):=by
 intro pins s σ H Q I h;refine wpAny_Call_method_late hbase hfew hline rfl (thn (ho pins s σ H _ I h) fun v s1 hq_=>?_);obtain ⟨x,H1,I1,r1,ty,q1⟩:=hq_;obtain ⟨h1,h2⟩:=Vg I1 r1 ty;refine ⟨T,id,pa,slot,hty,h1,h2,?_⟩;have hA:=ha cpos pins s1 σ H1 _ I1 q1;rw [hs] at hA ⊢;refine JO (by show (Aq || (backTo cpos (Bh es X.env)).any (·.1))=Aq;rw [hplain] <;> rfl) (L5 ?_);refine thn hA fun us s2 hq_=>?_;obtain ⟨vs,H2,I2,r2,q2⟩:=hq_;exact hm pins s2 σ H2 x vs v us Q I2 r1 r2 q2
end
end L2
namespace L2
open PySem PySem.Spec PyProof.Rows
noncomputable def MtM (X:Cx) (id:DX) (r:V->Ac V->Hp->VK->Prop):Prop :=
 ∀(pins:Ac (Ad × A2)) (s:Aj) (σ:St) (H:Hp) (x:V) (xs:Ac V) (v:Ah) (us:Ac Ah) (Q:VK),Inv X pins σ H s->AQ x v->AU xs us->r x xs H Q ->
  Au (A6 X.prog X.w) X.A (call (.builtin id) (v :: us)) (EP X pins σ Q) X.xe s
theorem AU.one:∀{x:V} {us:Ac Ah},AU [x] us->∃u,us=[u]/\AQ x u
 | _,_,.cons r .nil=>⟨_,rfl,r⟩
theorem AU.zero:∀{us:Ac Ah},AU [] us->us=[]
 | _,.nil=>rfl
theorem AU.eraseIdx:∀{xs:Ac V} {us:Ac Ah} (i:Ae),AU xs us->AU (xs.eraseIdx i) (us.eraseIdx i)
 | _,_,_,.nil=>.nil
 | _,_,0,.cons _ t=>t
 | _,_,i+1,.cons r t=>.cons r (AU.eraseIdx i t)
theorem QR {α:Type}:∀(l:Ac α) (i:Ae),(l.eraseIdx i).length<=l.length
 | [],_=>A1 _
 | _ :: _,0=>Dl _
 | _ :: r,i+1=>IK (QR r i)
section
variable {X:Cx} {pins:Ac (Ad × A2)} {σ:St} {H:Hp} {s:Aj} {l b:Ad} {xs ys zs:Ac V}
theorem Inv.lset {its its':Ac Ah} {n:Ae} {f:AL Ah->AL Ah} {t':Ae} (I:Inv X pins σ H s) (hH:H l=Aa (.lst xs))
 (e:s.heap.get? l=Aa { cls:=.type "list",data:=.seq its.toArray n }) (hf:f its.toArray=its'.toArray) (hv:AU ys its') (hz:ys.length<=AB) :
 Inv X pins σ (upd H l (.lst ys)) { s with heap:=s.heap.update l (Co f),toks:=t' }:=by
 have q:=WT e f;rw [hf] at q;refine I.write (x:=l) (e:=l) (by rw [hH];exact trivial) (.inl rfl) (fun b' u hb hu=>(Gc s.heap (Co f) (BF hb)).trans hu) ⟨_,q⟩ ?_;exact ⟨hz,its',_,hv,q⟩
theorem Inv.lnew {its:Ac Ah} {t':Ae} (I:Inv X pins σ H s) (hv:AU ys its) (hz:ys.length<=AB) :
 Inv X pins σ (upd H s.heap.objs.size (.lst ys)) { s with heap:=s.heap.push { cls:=.type "list",data:=.seq its.toArray },toks:=t' } :=
 I.laid (fun _ _ q=>Bv _ q) (A1 _) ⟨hz,its,0,hv,BD _ rfl⟩
theorem Inv.fresh (I:Inv X pins σ H s):H s.heap.objs.size=Ai:=I.hok.fresh (A1 _)
theorem Inv.lstM (I:Inv X pins σ H s) (hH:H l=Aa (.lst xs)):xs.length<=AB/\∃(its:Ac Ah) (n:Ae),AU xs its/\xs.length=its.length/\s.heap.get? l=Aa { cls:=.type "list",data:=.seq its.toArray n }:=by
 obtain ⟨z,its,n,r,e⟩:=I.hok l _ hH;exact ⟨z,its,n,r,r.length,e⟩
theorem Aap {n:Ae} (h:n<=AB):Ox n=Aq:=by
 unfold Ox;exact AS (by omega)
end
section
variable {X:Cx}
inductive RX (x:V) (vs:Ac V) (H:Hp) (Q:VK):Prop
 | mk (l:Ad) (xs:Ac V) (y:V):x=.ref l->vs=[y]->H l=Aa (.lst xs)->xs.length < AB->Q .non (upd H l (.lst (xs++[y])))->RX x vs H Q
theorem El:MtM X "list.append" RX:=by
 intro pins s σ H x vs v us Q I rx rv h;obtain ⟨l,xs,y,rfl,rfl,hH,hz,q⟩:=h
 cases rx
 obtain ⟨u,rfl,ru⟩:=rv.one;obtain ⟨z,its,n,r,hl,e⟩:=I.lstM hH;refine Ki F.slot_list_append ⟨_,e,rfl⟩ F.entry_list_append (F.args_list_append_2 _ _) (PySem.list_append l its.toArray n u (by rw [BJ];omega)) ⟨e,?_⟩;refine ⟨.non,_,I.lset (its':=its++[u]) hH e (by simp) (r.append (.cons ru .nil)) ?_,rfl,q⟩;rw [Bj,L_];omega
inductive R' (x:V) (vs:Ac V) (H:Hp) (Q:VK):Prop
 | mk (l b:Ad) (xs zs:Ac V):x=.ref l->vs=[.ref b]->H l=Aa (.lst xs)->H b=Aa (.lst zs)->xs.length+zs.length<=AB->Q .non (upd H l (.lst (xs++zs)))->R' x vs H Q
theorem KS:MtM X "list.extend" R':=by
 intro pins s σ H x vs v us Q I rx rv h;obtain ⟨l,b,xs,zs,rfl,rfl,hH,hB,hz,q⟩:=h
 cases rx
 obtain ⟨u,rfl,ru⟩:=rv.one
 cases ru
 obtain ⟨z,its,n,r,hl,e⟩:=I.lstM hH;obtain ⟨z2,its2,n2,r2,hl2,e2⟩:=I.lstM hB;have hsz:its.toArray.size+its2.toArray.size<=AB:=by rw [BJ,BJ];omega
 have hlong:¬ (!its.toArray.isEmpty && Ox (its.toArray.size+its2.toArray.size))=Af:=by
  rw [Aap hsz,Ot];exact Bl
 refine Ki F.slot_list_extend ⟨_,e,rfl⟩ F.entry_list_extend (F.args_list_extend_2 _ _)
  (AutoSeq1.list_extend_list_list_0 l its.toArray n b its2.toArray n2 hlong (by rw [BJ];omega) (by omega)) ⟨e,e2,?_⟩
 refine ⟨.non,_,I.lset (its':=its++its2) hH e (by simp) (r.append r2) ?_,rfl,q⟩;rw [Bj];omega
noncomputable def Ab1:V->Ac V->Hp->VK->Prop:=fun x vs H Q=>∃l xs i k y,x=.ref l/\vs=[.int i]/\H l=Aa (.lst xs)/\-(2 ^ 63)<=i/\i < 2 ^ 63/\seqIndex? i xs.length=Aa k/\xs[k]?=Aa y/\Q y (upd H l (.lst (xs.eraseIdx k)))
theorem Rm:MtM X "list.pop" Ab1:=by
 intro pins s σ H x vs v us Q I rx rv h;obtain ⟨l,xs,i,k,y,rfl,rfl,hH,h1,h2,hk,hy,q⟩:=h
 cases rx
 obtain ⟨u,rfl,ru⟩:=rv.one;obtain ⟨t,rfl⟩:=ru;obtain ⟨z,its,n,r,hl,e⟩:=I.lstM hH;obtain ⟨w,hw,rw'⟩:=r.get hy
 refine Ki F.slot_list_pop ⟨_,e,rfl⟩ F.entry_list_pop (F.args_list_pop_2 _ _)
  (MeetsSeq.list_pop_at l its.toArray n i t k w (fitsIndex_both h1 h2) (by rw [BJ,<- hl];exact hk) (by rw [<- Array.getElem?_toList];exact hw) (by rw [BJ];omega)) ⟨e,?_⟩
 refine ⟨y,_,I.lset (its':=its.eraseIdx k) hH e ?_ (r.eraseIdx k) ?_,rw',q⟩
 ·show its.toArray.eraseIdxIfInBounds k=(its.eraseIdx k).toArray;rw [eraseIdxIfInBounds_toArray]
 ·have:=QR xs k;omega
end
section
variable {prog:A9} {w:A3} {A:AR} {E:Ah->Aj->Prop} {s:Aj}
set_option maxRecDepth 100000 in
end
section
variable {X:Cx}
end
end L2
namespace Att
open PySem PySem.W PySem.Calls PyProof.Rows
theorem Zl {P:Ka} {h:AD}:∀(ns:Ac Ab) (vs:Ac Ah),WellAll P h vs (ns.map WData.int)->C_ vs ns:=by
 intro ns
 induction ns with
 | nil =>
   intro vs w;rw [IG] at w
   cases w
   exact .nil
 | cons n ns ih =>
   intro vs w;rw [Bg] at w
   cases w with
   | cons a b =>
     cases a
     exact .cons _ _ (ih _ b)
theorem AbM {l:OpenLaw} {n:Ae} (hn:l.most=Aa n) {P:Ka} {h:AD} {args:Ac WData} {vals:Ac Ah}
 (hpre:l.row.toRowW.claim.pre args=Af) (hwl:WellAll P h vals args) :
 ∃a vs ns,vals=[AO a]/\args=[WData.list (ns.map WData.int)]/\h.get? a=Aa { cls:=.type "list",data:=.seq vs.toArray }/\C_ vs ns/\ns.length<=n:=by
 have hsh:WShape.hasAll [] args [.list .int]=Af:=(pre_splitW hpre).1;have hc:l.pre.holds [] { args:=args }=Af:=(pre_splitW hpre).2;obtain ⟨d,r,rfl,h1,h2⟩:=hasAllW_cons hsh;obtain rfl:=hasAllW_nil h2;obtain ⟨xs,rfl,h3⟩:=hasW_list h1;obtain ⟨ns,rfl⟩:=items_int h3
 have hlen:ns.length<=n:=by
  unfold OpenLaw.pre at hc
  have h4:(WTm.not (.lt (.lit (.int (n:Ab))) (.len (.arg 0)))).holds [] { args:=[.list (ns.map .int)] }=Af:=by
   have h4:=(holds_andW hc).1;rw [hn] at h4;exact h4
  have h5:=condW_of h4 (w_not (w_lt w_lit (w_len_list (w_arg rfl))));rw [At] at h5;refine Nat.le_of_not_lt fun q=>?_;have q':(n:Ab) < ((ns.length:Ae):Ab):=by omega
  first
   | (rw [AT q'] at h5;exact Aw h5 (by decide))
   | (simp at h5;omega)
 cases hwl with
 | cons w1 w2 =>
   cases w2
   cases w1 with
   | list ho hall=>exact ⟨_,_,ns,rfl,rfl,ho,Zl ns _ hall,hlen⟩
theorem AaZ (l:OpenLaw) (args:Ac WData):l.row.toRowW.claim.post args (.bool Af) args=Af :=
 postW_of (r:=l.row.toRowW) (X:=(Af == Af))
  (show WShape.has [] (.bool Af) .bool=Af by first | rfl | decide | simp [WShape.has,WShape.arms,WShape.armsAll])
  (show (WTm.eq .res (.lit (.bool Af))).value [] { args:=args,res:=Aa (.bool Af),after:=args }=Aa (.bool (Af == Af)) from w_eq_bool (w_res rfl) w_lit) rfl
theorem attach_call {l:OpenLaw} {n:Ae} {q:A9} {loose:Ac Ak} {XP:(Ak->A5 Ah)->AD->Prop} {YP:A3->AD->Prop} {d:DefRec}
 (hn:l.most=Aa n) (hdf:d.params.defaults=[])
 (call:∀(w:A3) (s₀ s₁:Aj) (mg mb:Ak->A5 Ah) (fa:Ad) (o:A2) (pm cd doc:Ah) (a:Ad) (vs:Ac Ah) (ns:Ac Ab),
  Ground q loose [] XP w s₀ mg mb s₁.heap->YP w s₁.heap ->
  s₁.heap.get? fa=Aa o->o.data=.func (docDef d.name d.params d.body d.scope pm cd doc)->s₁.heap.CodeRec cd d.name->mg d.name=Aa (.ref fa) ->
  s₁.heap.get? a=Aa { cls:=.type "list",data:=.seq vs.toArray }->C_ vs ns->ns.length<=n->s₁.gens=#[] ->
  codeAny (A6 l.prog w) callerA (.call (.ref fa) ⟨[.ref a],[]⟩) (fun r s'=>r=.ok (.ret (.bool Af))/\OldK s₁.heap s'.heap/\s'.os=s₁.os/\Ga s'.gens) s₁) :
 WalkO q loose XP YP l.row.toRowW d [] (fun f vs=>Pf f vs):=by
 intro w s₀ s₁ mg mb G Y fa o pm cd doc dV kV ho hd hcd hD hmg hg args vals as hpre hlay hrd hwl hlo;obtain rfl:dV=.none:=Dflts.none hD hdf;obtain rfl:kV=.none:=Dflts.noKw hD;obtain ⟨a,vs,ns,rfl,rfl,hobj,hints,hlen⟩:=AbM hn hpre hwl;refine enter_call (HJ (call w s₀ s₁ mg mb fa o pm cd doc a vs ns G Y ho (fd_plain hd) hcd hmg hobj hints hlen hg) fun r s' hq=>?_);obtain ⟨rfl,h2,h3,h4⟩:=hq;exact ⟨.inl ⟨.bool Af,.bool Af,[],rfl,fun _=>rfl,.bool Af,AaZ l _,fun _=>⟨LO,fun _ hm=>(nomatch hm)⟩⟩,h2,h3,h4⟩
section
variable {prog:A9} {w:A3} {A:AR} {E:Ah->Aj->Prop} {s:Aj} {K:Frag}
end
end Att
namespace L2
open PySem PySem.Spec PyProof.Rows
theorem Lw:∀{vs:Ac Ah} {ns:Ac Ab},C_ vs ns->AU (ns.map V.int) vs
 | _,_,.nil=>.nil
 | _,_,.cons n t h=>.cons ⟨t,rfl⟩ (Lw h)
end L2
namespace L2
open PySem PySem.Spec PyProof.Rows
end L2
namespace L2
open PySem PySem.Spec PyProof.Rows
def Ct (s:AC) (j:Ae):AC:=match s with
 | .ClassDef _ _ _ body _ _ _ _ _ _ _=>body.getD j (.Pass ⟨0,0,0,0⟩)
 | _=>.Pass ⟨0,0,0,0⟩
noncomputable def HU (s:AC):Hm:=match s with
 | .FunctionDef _ a _ _ _ _ _ _ _ _=>a
 | _=>{ posonlyargs:=[],args:=[],vararg:=Ai,kwonlyargs:=[],kw_defaults:=[],kwarg:=Ai,defaults:=[] }
noncomputable def FN (s:AC):Ac AC:=match s with
 | .FunctionDef _ _ b _ _ _ _ _ _ _=>b
 | _=>[]
noncomputable def A7 (s:AC):Bu:=match s with
 | .FunctionDef _ _ _ _ _ _ sc _ _ _=>sc
 | _=>{ kind:=.function,names:=[],isGenerator:=Aq,isCoroutine:=Aq }
abbrev CX0:CXT:=fun _ _ _ _ _ _=>BA
abbrev E0:XK:=fun _ _ _=>BA
theorem Fs {X:Cx}:Gr CX0 X E0:=fun _ _ _ _ _ _ _ h=>h.elim
structure Fun (K:A8) (x qual:Ak) (st:AC) (f:Ad) (fd:AE):Prop where
 ex:∃(oc:Ah) (od:A5 Ad) (kV doc pm:Ah) (an:A5 Ad) (cdv ct:Ah) (osl:AL (A5 Ah)),
  fd=GN x qual (HU st) (FN st) (A7 st) .none kV doc pm an cdv ct/\K.lookup f=Aa ⟨oc,od,.func fd,osl⟩/\Kf K cdv qual=Af
 kp:GP K (.ref f)=Af
section
variable {P:A9} {w:A3} {K:A8} {mg:Ak->A5 Ah} {base:AD}
theorem Fun.ok {x qual:Ak} {st:AC} {f:Ad} {fd:AE} {N ps:Ac Ak} {k:Ae} {sp:Sp} (F:Fun K x qual st f fd) (S:AM N ps (A7 st)) (len:∀vs H Q E,sp vs H Q E->vs.length=ps.length)
 (hbody:∀(cdv:Ah) (A:AR) (outer:Ac BC) (s:Aj) (H:Hp) (vs:Ac V) (Q:VK) (E:XK),BB k (A.deeper (envOfC qual (A7 st) s.heap.objs.size f cdv))->sp vs H Q E ->
  ∃t,PSs (Gu CX0 P w K mg base N qual (A7 st) f cdv A outer s H E).nox (FN st) t/\t { nx:=fun _ H'=>Q .non H',rt:=Q } (Fz N vs) H):AG P w K mg base CX0 (k+1) f fd ps sp:=by
 obtain ⟨oc,od,kV,doc,pm,an,cdv,ct,osl,rfl,lk,hcd⟩:=F.ex;refine Nk lk hcd S len fun A outer s H vs Q E hr hsp=>?_;obtain ⟨t,h,q⟩:=hbody cdv A outer s H vs Q E hr hsp;exact ⟨t,h.nox,q⟩
theorem fun_mk {x qual:Ak} {st:AC} {f:Ad} {oc:Ah} {od an:A5 Ad} {osl:AL (A5 Ah)} {kV doc pm cdv ct:Ah} (l:K.lookup f=Aa ⟨oc,od,.func (GN x qual (HU st) (FN st) (A7 st) .none kV doc pm an cdv ct),osl⟩)
 (c:Kf K cdv qual=Af) (k:GP K (.ref f)=Af):Fun K x qual st f (GN x qual (HU st) (FN st) (A7 st) .none kV doc pm an cdv ct):=⟨⟨oc,od,kV,doc,pm,an,cdv,ct,osl,rfl,l,c⟩,k⟩
end
theorem C8 {n:Ae} (h:n<=1000):n < AB:=Dn h (by decide)
section
variable {X:Cx}
theorem pv (i:Ae) {x:Ak} {pos:Pos} (hN:X.N[i]?=Aa x:=by rfl) (hv:Vis X.env.scope x:=by first | exact B2 rfl | exact IL (B2 rfl) | exact IL (IL rfl)) (hd:(x == ("__debug__":Ak))=Aq:=by decide)
 (hcd:(x == ("__classdict__":Ak))=Aq:=by decide):PE X (.Name x pos) (Im i):=AaS hN hv hd hcd
end
theorem KD {A B:Prop} (h:B):if Aq=Af then A else B:=by
 rw [Ao Bl];exact h
theorem Np {A B:Prop} (h:A):if Af=Af then A else B:=by
 rw [Ar rfl];exact h
theorem Jh {c A B:Prop} [Decidable c] (h1:c->A) (h2:¬ c->B):if c then A else B:=by
 by_cases h:c
 ·rw [Ar h];exact h1 h
 ·rw [Ao h];exact h2 h
noncomputable def Ax (H H':Hp):Prop:=∀b o,H b=Aa o->H' b=Aa o
theorem Ax.trans {H H1 H2:Hp} (a:Ax H H1) (b:Ax H1 H2):Ax H H2:=fun c o h=>b c o (a c o h)
theorem Ax.seq {K:A8} {H H':Hp} {a:Ad} {xs:Ac V} (e:Ax H H') (h:SqL K H a xs):SqL K H' a xs:=by
 rcases h with (h | ⟨o,h⟩) | h
 ·exact .inl (.inl (e _ _ h))
 ·exact .inl (.inr ⟨o,e _ _ h⟩)
 ·exact .inr h
end L2
namespace L2
open PySem PySem.Spec PyProof.Rows
section
variable {κ:Type} [F6 κ]
noncomputable def A' (kvs:Ac (κ × V)) (k:κ):A5 V:=(kvs.find? fun kv=>decide (kv.1=k)).map (·.2)
noncomputable def B6 (kvs:Ac (κ × V)) (k:κ) (v:V):Ac (κ × V) :=
 if (kvs.any fun kv=>decide (kv.1=k))=Af then kvs.map (fun kv=>if kv.1=k then (kv.1,v) else kv) else kvs++[(k,v)]
theorem Ev {p:κ × V} {r:Ac (κ × V)} {k:κ} (e:p.1=k):A' (p :: r) k=Aa p.2:=by simp [A',Ez,e]
theorem Eu {p:κ × V} {r:Ac (κ × V)} {k:κ} (e:¬ p.1=k):A' (p :: r) k=A' r k:=by simp [A',Ez,e]
theorem F' (k:κ):∀kvs:Ac (κ × V),(kvs.any fun kv=>decide (kv.1=k))=(A' kvs k).isSome
 | []=>rfl
 | p :: r=>by
   rw [IE];by_cases e:p.1=k
   ·simp only [Ev e,AT e,Ow,WD]
   ·rw [Eu e,AS e,Ou];exact F' k r
theorem Vk (k j:κ) (y:V):∀kvs:Ac (κ × V),A' (kvs.map fun kv=>if kv.1=k then (kv.1,y) else kv) j=(A' kvs j).map fun x=>if j=k then y else x
 | []=>rfl
 | p :: r=>by
   have ih:=Vk k j y r;rw [Bg];by_cases h:p.1=k
   ·rw [Ar h];by_cases e:p.1=j
    ·rw [Ev (p:=(p.1,y)) e,Ev e,GK,Ar (e.symm.trans h)]
    ·rw [Eu (p:=(p.1,y)) e,Eu e,ih]
   ·rw [Ao h];by_cases e:p.1=j
    ·rw [Ev (p:=p) e,Ev e,GK,Ao (fun z=>h (e.trans z))]
    ·rw [Eu (p:=p) e,Eu e,ih]
theorem Vm (k j:κ) (y:V):∀kvs:Ac (κ × V),A' kvs k=Ai->A' (kvs++[(k,y)]) j=if j=k then Aa y else A' kvs j
 | [],_=>by
   by_cases e:k=j
   ·rw [Ar e.symm];exact Ev (p:=(k,y)) e
   ·rw [Ao (fun z=>e z.symm)];exact Eu (p:=(k,y)) e
 | p :: r,hn=>by
   rw [VZ];have hk:¬ p.1=k:=fun z=>by rw [Ev z] at hn;cases hn
   rw [Eu hk] at hn;have ih:=Vm k j y r hn;by_cases e:p.1=j
   ·rw [Ev e,Ev e,Ao (fun z=>hk (e.trans z))]
   ·rw [Eu e,Eu e,ih]
theorem Oe (kvs:Ac (κ × V)) (k j:κ) (y:V):A' (B6 kvs k y) j=if j=k then Aa y else A' kvs j:=by
 unfold B6;by_cases a:(kvs.any fun kv=>decide (kv.1=k))=Af
 ·rw [Ar a,Vk];rw [F'] at a;by_cases e:j=k
  ·obtain ⟨x,hx⟩:=Option.isSome_iff_exists.mp a;rw [Ar e,e,hx,GK,Ar rfl]
  ·rw [Ao e]
   cases A' kvs j with
   | none=>rfl
   | some x=>rw [GK,Ao e]
 ·rw [Ao a];refine Vm k j y kvs ?_;rw [F'] at a
  cases q:A' kvs k with
  | none=>rfl
  | some x=>rw [q] at a;exact (a rfl).elim
theorem Jk (kvs:Ac (κ × V)) (k:κ) (v:V):(B6 kvs k v).length<=kvs.length+1:=by
 unfold B6
 split
 ·rw [At];omega
 ·rw [Bj,BP,DI];omega
theorem Abu {kvs:Ac (κ × V)} {k:κ} (v:V) (h:A' kvs k=Ai):B6 kvs k v=kvs++[(k,v)]:=by
 unfold B6;rw [F',h];exact Ao (by decide)
theorem CL.isSome_eq {o:A5 V} {u:A5 Ah} (r:CL o u):o.isSome=u.isSome:=by
 cases o with
 | none=>cases u with
   | none=>rfl
   | some _=>exact (show BA from r).elim
 | some _=>cases u with
   | none=>exact (show BA from r).elim
   | some _=>rfl
theorem CL.getD {o:A5 V} {u:A5 Ah} {d:V} {d':Ah} (r:CL o u) (rd:AQ d d'):AQ (o.getD d) (u.getD d'):=by
 cases o with
 | none=>cases u with
   | none=>exact rd
   | some _=>exact (show BA from r).elim
 | some _=>cases u with
   | none=>exact (show BA from r).elim
   | some _=>exact r
theorem KV.val {kvs:Ac (κ × V)} {vs:Ac (κ × Ah)} (r:KV kvs vs) (k:κ):CL (A' kvs k) (valueAt vs k):=by
 unfold KV at r
 induction r with
 | nil=>exact Da
 | @cons p q ps qs h t ih =>
   obtain ⟨h1,h2⟩:=h;by_cases e:p.1=k
   ·have e':q.1=k:=h1.symm.trans e;have b:valueAt (q :: qs) k=Aa q.2:=by simp [valueAt,Ez,e']
    rw [Ev e,b];exact h2
   ·have e':¬ q.1=k:=fun z=>e (h1.trans z);have b:valueAt (q :: qs) k=valueAt qs k:=by simp [valueAt,Ez,e']
    rw [Eu e,b];exact ih
theorem KV.any {kvs:Ac (κ × V)} {vs:Ac (κ × Ah)} (r:KV kvs vs) (k:κ):(kvs.any fun kv=>decide (kv.1=k))=vs.any fun kv=>decide (kv.1=k):=by
 unfold KV at r
 induction r with
 | nil=>rfl
 | cons h t ih=>rw [IE,IE,ih,h.1]
theorem KV.repl {kvs:Ac (κ × V)} {vs:Ac (κ × Ah)} (r:KV kvs vs) (k:κ) {y:V} {u:Ah} (ry:AQ y u) :
 KV (kvs.map fun kv=>if kv.1=k then (kv.1,y) else kv) (vs.map fun kv=>if kv.1=k then (kv.1,u) else kv):=by
 unfold KV at r ⊢
 induction r with
 | nil=>exact .nil
 | @cons p q ps qs h t ih =>
   rw [Bg,Bg];refine .cons ?_ ih;obtain ⟨h1,h2⟩:=h;by_cases e:p.1=k
   ·rw [Ar e,Ar (h1.symm.trans e)];exact ⟨h1,ry⟩
   ·rw [Ao e,Ao (fun z=>e (h1.trans z))];exact ⟨h1,h2⟩
theorem KV.put {kvs:Ac (κ × V)} {vs:Ac (κ × Ah)} (r:KV kvs vs) (k:κ) {y:V} {u:Ah} (ry:AQ y u):KV (B6 kvs k y) (stored vs k u):=by
 unfold B6 stored;rw [r.any k];by_cases e:(vs.any fun kv=>decide (kv.1=k))=Af
 ·rw [Ar e,Ar e];exact r.repl k ry
 ·rw [Ao e,Ao e];exact OQ r ⟨rfl,ry⟩
theorem KV.keys {kvs:Ac (κ × V)} {vs:Ac (κ × Ah)} (r:KV kvs vs):kvs.map (·.1)=vs.map (·.1):=by
 unfold KV at r
 induction r with
 | nil=>rfl
 | cons h t ih=>rw [Bg,Bg,ih,h.1]
theorem KV.length {kvs:Ac (κ × V)} {vs:Ac (κ × Ah)} (r:KV kvs vs):kvs.length=vs.length:=GL r
end
theorem KE {P:A9} {w:A3} {k:Key} {u:Ah} (r:AQ (kV k) u):(BO P w).is k u=Af:=by
 cases k with
 | inl i=>obtain ⟨t,e⟩:=(show ∃t,u=GT i t from r);subst e;exact ZV P w i t
 | inr x=>obtain ⟨t,e⟩:=(show ∃t,u=IR x t from r);subst e;exact ZW P w x t
theorem QF {P:A9} {w:A3}:∀{ks:Ac Key} {us:Ac Ah},AU (ks.map kV) us->ItemsAre (BO P w) ks us
 | [],_,r=>by rw [IG] at r;cases r;exact .nil
 | k :: ks,_,r=>by
   rw [Bg] at r
   cases r with
   | cons h t=>exact .cons (KE h) (QF t)
abbrev KT (H:Hp):Ac (Ac Key × V)->Ac (Ac Key × Ad × Ah)->Prop:=Cq fun p q=>p.1=q.1/\H q.2.1=Aa (.tup (p.1.map kV))/\AQ p.2 q.2.2
theorem KT.val {H:Hp} {kvs:Ac (Ac Key × V)} {xs:Ac (Ac Key × Ad × Ah)} (r:KT H kvs xs) (k:Ac Key):CL (A' kvs k) ((atKey xs k).map (·.2)):=by
 induction r with
 | nil=>exact Da
 | @cons p q ps qs h t ih =>
   obtain ⟨h1,_,h2⟩:=h;by_cases e:p.1=k
   ·have e':q.1=k:=h1.symm.trans e;have b:atKey (q :: qs) k=Aa q.2:=by simp [atKey,Ez,e']
    rw [Ev e,b];exact h2
   ·have e':¬ q.1=k:=fun z=>e (h1.trans z);have b:atKey (q :: qs) k=atKey qs k:=by simp [atKey,Ez,e']
    rw [Eu e,b];exact ih
theorem KT.repl {H:Hp} {kvs:Ac (Ac Key × V)} {xs:Ac (Ac Key × Ad × Ah)} (r:KT H kvs xs) (k:Ac Key) {y:V} {u:Ah} (ry:AQ y u) :
 KT H (kvs.map fun kv=>if kv.1=k then (kv.1,y) else kv) (xs.map (putAt k u)):=by
 induction r with
 | nil=>exact .nil
 | @cons p q ps qs h t ih =>
   rw [Bg,Bg];refine .cons ?_ ih;obtain ⟨h1,h2,h3⟩:=h;unfold putAt;by_cases e:p.1=k
   ·rw [Ar e,Ar (h1.symm.trans e)];exact ⟨h1,h2,ry⟩
   ·rw [Ao e,Ao (fun z=>e (h1.trans z))];exact ⟨h1,h2,h3⟩
theorem KT.put {H:Hp} {kvs:Ac (Ac Key × V)} {xs:Ac (Ac Key × Ad × Ah)} (r:KT H kvs xs) (k:Ac Key) {b:Ad} {y:V} {u:Ah} (hb:H b=Aa (.tup (k.map kV))) (ry:AQ y u) :
 KT H (B6 kvs k y) (storedH xs k b u):=by
 have e:(kvs.any fun kv=>decide (kv.1=k))=(atKey xs k).isSome:=by
  rw [F',(r.val k).isSome_eq,OP]
 unfold B6 storedH;rw [e];by_cases q:(atKey xs k).isSome=Af
 ·rw [Ar q,Ar q];exact r.repl k ry
 ·rw [Ao q,Ao q];exact OQ r ⟨rfl,hb,ry⟩
theorem KT.keeps {H H':Hp} {kvs:Ac (Ac Key × V)} {xs:Ac (Ac Key × Ad × Ah)} (r:KT H kvs xs) (ht:∀b ys,H b=Aa (.tup ys)->H' b=Aa (.tup ys)):KT H' kvs xs :=
 Paired.mapP r fun _ _ z=>⟨z.1,ht _ _ z.2.1,z.2.2⟩
section
variable {P:A9} {w:A3} {H:Hp} {h:AD} {a:Ad}
theorem So {u:HO} (ok:HOk P w H h) (e:Rd H a u):Bi P w H h a u:=e.ok ok
theorem HV {kvs:Ac (Key × V)} (ok:HOk P w H h) (e:Rd H a (.dK kvs)):kvs.length<=AB/\(a == Cr)=Aq/\∃vs,KV kvs vs/\h.DictOf (BO P w) a vs :=
 show Bi P w H h a (.dK kvs) from So ok e
theorem Y7 {kvs:Ac (Key × V)} (ok:HOk P w H h) (e:H a=Aa (.dK kvs)):kvs.length<=AB/\(a == Cr)=Aq/\∃vs,KV kvs vs/\h.DictOf (BO P w) a vs:=HV ok (.inl e)
theorem Hc {ks:Ac Key} (ok:HOk P w H h) (e:H a=Aa (.tup (ks.map kV))):(tupleKind (BO P w)).is h ks a:=by
 obtain ⟨_,its,r,o,h1,h2,n,h3⟩:=(show Bi P w H h a (.tup (ks.map kV)) from ok a _ e);exact ⟨o,its.toArray,n,h1,h2,h3,by simpa using QF r⟩
theorem G_ {kvs:Ac (Ac Key × V)} (ok:HOk P w H h) (e:Rd H a (.dT kvs)):kvs.length<=AB/\(a == Cr)=Aq /\
 ∃xs,KT H kvs xs/\h.DictOfH (tupleKind (BO P w)) a xs:=by
 obtain ⟨z,y,xs,r,o,es,ep,h1,h2,h3,h4,h5⟩:=(show Bi P w H h a (.dT kvs) from So ok e);refine ⟨z,y,xs,r,o,es,ep,h1,h2,h3,h4,fun x hx=>?_,h5⟩
 have all:∀{l:Ac (Ac Key × V)} {m:Ac (Ac Key × Ad × Ah)},KT H l m->∀x∈m,(tupleKind (BO P w)).is h x.1 x.2.1:=by
  intro l m q
  induction q with
  | nil=>intro x hx;exact nomatch hx
  | @cons p q ps qs hq t ih =>
    intro x hx;rcases mem_cons.mp hx with e | hx
    ·subst e;exact Hc ok (by rw [<- hq.1];exact hq.2.1)
    ·exact ih x hx
 exact all r x hx
theorem Ng {kvs:Ac (Ac Key × V)} (ok:HOk P w H h) (e:H a=Aa (.dT kvs)):kvs.length<=AB/\(a == Cr)=Aq /\
 ∃xs,KT H kvs xs/\h.DictOfH (tupleKind (BO P w)) a xs:=G_ ok (.inl e)
end
noncomputable def Df (H:Hp) (a:Ad) (y:V) (r:A5 V):Prop :=
 (∃kvs k,Rd H a (.dK kvs)/\y=kV k/\r=A' kvs k)\/∃kvs k b,Rd H a (.dT kvs)/\y=.ref b/\H b=Aa (.tup (k.map kV))/\r=A' kvs k
noncomputable def EM (H:Hp) (a:Ad) (y v:V) (H':Hp):Prop :=
 (∃kvs k,H a=Aa (.dK kvs)/\y=kV k/\kvs.length < AB/\H'=upd H a (.dK (B6 kvs k v))) \/
 ∃kvs k b,H a=Aa (.dT kvs)/\y=.ref b/\H b=Aa (.tup (k.map kV))/\kvs.length < AB/\H'=upd H a (.dT (B6 kvs k v))
theorem Df.k {H:Hp} {a:Ad} {kvs:Ac (Key × V)} {k:Key} (e:H a=Aa (.dK kvs)):Df H a (kV k) (A' kvs k):=.inl ⟨kvs,k,.inl e,rfl,rfl⟩
theorem Df.t {H:Hp} {a b:Ad} {kvs:Ac (Ac Key × V)} {k:Ac Key} (e:H a=Aa (.dT kvs)) (eb:H b=Aa (.tup (k.map kV))):Df H a (.ref b) (A' kvs k):=.inr ⟨kvs,k,b,.inl e,rfl,eb,rfl⟩
theorem EM.k {H:Hp} {a:Ad} {kvs:Ac (Key × V)} {k:Key} {v:V} (e:H a=Aa (.dK kvs)) (hl:kvs.length < AB):EM H a (kV k) v (upd H a (.dK (B6 kvs k v))):=.inl ⟨kvs,k,e,rfl,hl,rfl⟩
theorem EM.t {H:Hp} {a b:Ad} {kvs:Ac (Ac Key × V)} {k:Ac Key} {v:V} (e:H a=Aa (.dT kvs)) (eb:H b=Aa (.tup (k.map kV))) (hl:kvs.length < AB) :
 EM H a (.ref b) v (upd H a (.dT (B6 kvs k v))):=.inr ⟨kvs,k,b,e,rfl,eb,hl,rfl⟩
section
variable {X:Cx} {pins:Ac (Ad × A2)} {σ:St} {H:Hp} {s:Aj} {a:Ad} {y v:V} {u r:Ah} {o:A5 V} {A:AR} {E:Ah->Aj->Prop}
theorem Inv.big (I:Inv X pins σ H s):Cr < s.heap.objs.size:=by
 have h:Dc < s.heap.objs.size:=(I.mod.glob.keeps I.bk).lt;exact Nat.lt_trans (by decide) h
theorem Yz {Q:Ah->Aj->Prop} (hu:A.units+1 < cLine) (I:Inv X pins σ H s) (g:Df H a y (Aa v)) (ry:AQ y u) (h:∀w' s',Inv X pins σ H s'->AQ v w'->Q w' s') :
 Au (A6 X.prog X.w) A (getItem (.ref a) u) Q E s:=by
 rcases g with ⟨kvs,k,e,ey,l⟩ | ⟨kvs,k,b,e,ey,eb,l⟩
 ·subst ey;obtain ⟨z,hd,vs,rel,dd⟩:=HV I.hok e;obtain ⟨w',hw,rw'⟩:=CL.some_of (v:=v) (o:=valueAt vs k) (by rw [l];exact rel.val k);exact wpAny_getItem_of (KE ry) dd.mapOf hw (h w' _ (I.tok _) rw')
 ·subst ey
  cases (show u=AO b from ry)
  obtain ⟨z,hd,xs,rel,dd⟩:=G_ I.hok e;obtain ⟨w',hw,rw'⟩:=CL.some_of (v:=v) (o:=(atKey xs k).map (·.2)) (by rw [l];exact rel.val k);obtain ⟨p,hp,hp2⟩:=Option.map_eq_some_iff.mp hw;refine X4 (Ko hu) (Hc I.hok eb) dd hp ?_;rw [hp2];exact h w' _ (I.tok _) rw'
theorem FM {h':AD} {t':Ae} {ob:HO} (I:Inv X pins σ H s) (mu:Mut (H a)) (hs:Ey a s.heap h') (he:∃q,h'.get? a=Aa q) (new:Bi X.prog X.w (upd H a ob) h' a ob) :
 Inv X pins σ (upd H a ob) { s with heap:=h',toks:=t' } :=
 I.write (x:=a) (e:=a) mu (.inl rfl) (fun b q hb z=>(hs.2 b hb).trans z) he new
theorem Y6 {P:A9} {w:A3} {H':Hp} {h':AD} {kvs:Ac (Key × V)} {vs:Ac (Key × Ah)} (z:kvs.length<=AB) (hd:(a == Cr)=Aq) (rel:KV kvs vs) (dd:h'.DictOf (BO P w) a vs) :
 Bi P w H' h' a (.dK kvs):=⟨z,hd,vs,rel,dd⟩
theorem Y1 {H':Hp} {Q:Unit->Aj->Prop} (hu:A.units+1 < cLine) (I:Inv X pins σ H s) (g:EM H a y v H') (ry:AQ y u) (rv:AQ v r) (h:∀s',Inv X pins σ H' s'->Q () s') :
 Au (A6 X.prog X.w) A (setItem (.ref a) u r) Q E s:=by
 rcases g with ⟨kvs,k,e,ey,l,eH⟩ | ⟨kvs,k,b,e,ey,eb,l,eH⟩
 ·subst ey eH;obtain ⟨z,hd,vs,rel,dd⟩:=Y7 I.hok e;have hz:vs.length<=AB:=by rw [<- rel.length];exact z
  have hl:(B6 kvs k v).length<=AB:=by have:=Jk kvs k v;omega
  refine wpAny_setItem_pairs (hsz:=hz) (KE ry) dd fun h' dd' hs=>h _ ?_;have he:∃q,h'.get? a=Aa q:=let ⟨q,_,_,hq,_⟩:=dd';⟨q,hq⟩;exact FM I (by rw [e];exact Da) hs he (Y6 hl hd (rel.put k rv) dd')
 ·subst ey eH
  cases (show u=AO b from ry)
  obtain ⟨z,hd,xs,rel,dd⟩:=Ng I.hok e;have hz:xs.length<=AB:=by rw [<- GL rel];exact z
  have hl:(B6 kvs k v).length<=AB:=by have:=Jk kvs k v;omega
  refine XC (hsz:=hz) (Ko hu) (Hc I.hok eb) dd fun h' dd' hs=>h _ ?_;obtain ⟨q,es,ep,hq,h2,h3,h4,_,h5⟩:=dd';refine FM I (by rw [e];exact Da) hs ⟨q,hq⟩ ⟨hl,hd,_,(rel.put k eb rv).keeps fun c ys ec=>?_,q,es,ep,hq,h2,h3,h4,h5⟩;rw [AF (Ce ec e (fun z=>by cases z))];exact ec
end
section
variable {X:Cx} {pins:Ac (Ad × A2)} {σ:St} {H:Hp} {s:Aj} {a:Ad} {kvs:Ac (Key × V)} {k:Key} {u:Ah} {A:AR} {E:Ah->Aj->Prop}
end
noncomputable def MT (i:A4):Prop:=∀ov iv,subscripted i Aq ov iv=operate [ov,iv] (getItem ov iv)
theorem UO {prog:A9} {w:A3} {A:AR} {E:Ah->Aj->Prop} {s:Aj} {env:BC} {value slice:A4} {pos:Pos} {T id:DX} {Q:Ah->Aj->Prop}
 (hl:typeLookup (.type T) "__getitem__"=pure (Aa (.builtin id))) (hs:MT slice)
 (h:Au (A6 prog w) A (eval value env) (fun o s₁=>Au (A6 prog w) A (eval slice env) (fun i s₂=>s₂.TypeIs o T/\Au (A6 prog w) A (getItem o i) Q E s₂) E s₁) E s) :
 Au (A6 prog w) A (eval (.Subscript value slice pos) env) Q E s:=by
 refine Subscript_ (DM h (fun o s₁ h₁=>DM h₁ (fun i s₂ h₂=>?_) fun _ _ x=>x) fun _ _ x=>x);obtain ⟨hT,h₂⟩:=h₂;unfold subscriptTail;refine An ?_;rw [getitemInPython_of_ne hT.not_modules];refine An (Ku hT hl ?_)
 have fin:Au (A6 prog w) A (subscripted slice Aq o i) (fun r s₃=>Au (A6 prog w) A (letTemporaryGo value o r >>= fun _=>pure r) Q E s₃) E s₂:=by
  rw [hs o i];exact wpAny_operating (DM h₂ (fun r s₃ h₃=>An (wpAny_letTemporaryGo (Ay h₃))) fun _ _ x=>x)
 first
  | exact Ay (An fin)
  | exact An (Ay (An fin))
  | exact An fin
theorem Y4 {X:Cx} {pins:Ac (Ad × A2)} {σ:St} {H:Hp} {s:Aj} {a:Ad} {y:V} {o:A5 V} (I:Inv X pins σ H s) (g:Df H a y o):s.TypeIs (.ref a) "dict":=by
 rcases g with ⟨kvs,k,e,_,_⟩ | ⟨kvs,k,b,e,_,_,_⟩
 ·obtain ⟨_,_,vs,_,dd⟩:=HV I.hok e;exact dd.typeIs
 ·obtain ⟨_,_,xs,_,dd⟩:=G_ I.hok e;exact dd.typeIs
inductive RY (x y:V) (H:Hp) (Q:VK):Prop
 | mk (a:Ad) (v:V):x=.ref a->Df H a y (Aa v)->Q v H->RY x y H Q
noncomputable def Acs (td ty:TE):TE:=fun σ H Q=>td σ H fun x H1=>ty σ H1 fun y H2=>RY x y H2 Q
inductive RZ (x y v:V) (H:Hp) (Q:Hp->Prop):Prop
 | mk (a:Ad) (H4:Hp):x=.ref a->EM H a y v H4->Q H4->RZ x y v H Q
noncomputable def AbJ (td ty tv:TE):TS:=fun D σ H=>tv σ H fun v H1=>td σ H1 fun x H2=>ty σ H2 fun y H3=>RZ x y v H3 (D.nx σ)
section
variable {X:Cx} {o i e value:A4} {pos pos' tpos:Pos} {td ty tv:TE}
theorem Ju (hu:X.A.units+1 < cLine) (ho:PE X o td) (hi:PE X i ty) (hs:MT i):PE X (.Subscript o i pos) (Acs td ty):=by
 intro pins s σ H Q I h;refine UO PySem.F.slot_dict_getitem.lookup hs (thn (ho pins s σ H _ I h) fun u s1 hq_=>?_);obtain ⟨x,H1,I1,rx,q1⟩:=hq_;refine thn (hi pins s1 σ H1 _ I1 q1) fun iv s2 hq_=>?_;obtain ⟨y,H2,I2,ry,a,v,ex,g,q2⟩:=hq_;subst ex;obtain rfl:u=AO a:=rx;exact ⟨Y4 I2 g,Yz hu I2 g ry fun w' s3 I3 rw'=>⟨v,H2,I3,rw',q2⟩⟩
theorem Jy (hu:X.A.units+1 < cLine) (ho:PE X o td) (hi:PE X i ty) (hv:PE X value tv) (hs:swapsWith value (Aa (.Subscript o i pos')) pos.line X.env=pure Aq) :
 PS X (.Assign [.Subscript o i pos'] value pos) (AbJ td ty tv):=by
 intro pins s σ H D I h;refine Xx (thn (hv pins s σ H _ I h) fun r s1 ⟨v,H1,I1,rv,q1⟩=>thn (ho pins s1 σ H1 _ I1 q1) fun u s2 ⟨x,H2,I2,rx,q2⟩=>thn (hi pins s2 σ H2 _ I2 q2) fun iv s3 ⟨y,H3,I3,ry,a,H4,ex,g,q3⟩=>?_) hs;subst ex;obtain rfl:u=AO a:=rx;exact Y1 hu I3 g ry rv fun s4 I4=>⟨σ,H4,I4,q3⟩
end
theorem Y5 {P:A9} {w:A3} {H:Hp} (h:AD) (hb:Cr < h.objs.size):Bi P w H (h.push { cls:=.type "dict",data:=.dict #[] }) h.objs.size (.dK []) :=
 ⟨Br _,beq_eq_false_iff_ne.mpr (BF (B1 hb)),[],.nil,Heap.DictOf.new h⟩
theorem Y8 {P:A9} {w:A3} {H:Hp} (h:AD) (hb:Cr < h.objs.size):Bi P w H (h.push { cls:=.type "dict",data:=.dict #[] }) h.objs.size (.dT []) :=
 ⟨Br _,beq_eq_false_iff_ne.mpr (BF (B1 hb)),[],.nil,_,#[],0,BD _ rfl,⟨rfl,rfl,rfl⟩,rfl,rfl,Fc⟩
noncomputable def Acw:TE:=fun _ H Q=>∀p,H p=Ai->Q (.ref p) (upd H p (.dK []))
noncomputable def Acy:TE:=fun _ H Q=>∀p,H p=Ai->Q (.ref p) (upd H p (.dT []))
section
variable {X:Cx} {pos:Pos}
theorem AaH:PE X (.Dict [] [] pos) Acw:=fun pins s σ H Q I h =>
 Pz ⟨.ref s.heap.objs.size,_,I.laid (a:=s.heap.objs.size) (o:=.dK []) (t':=s.toks) (fun _ _ q=>Bv _ q) (A1 _) (Y5 s.heap I.big),rfl,h _ (I.hok.fresh (A1 _))⟩
theorem NH:PE X (.Dict [] [] pos) Acy:=fun pins s σ H Q I h =>
 Pz ⟨.ref s.heap.objs.size,_,I.laid (a:=s.heap.objs.size) (o:=.dT []) (t':=s.toks) (fun _ _ q=>Bv _ q) (A1 _) (Y8 s.heap I.big),rfl,h _ (I.hok.fresh (A1 _))⟩
end
structure M1 (X:Cx) (o:A4) (m:Ak) (apos:Pos) (e:A4) (cpos:Pos):Prop where
 base:attributeBase o m X.env (eval o X.env)=eval o X.env
 few:((backTo cpos (Bh [e] X.env)).all (fun x=>!x.1) && (backToKw cpos (keywordEach [] X.env)).all (fun x=>x.1.isSome)
  && decide (([e]:Ac A4).length+([]:Ac GH).length+(if ([]:Ac GH).isEmpty then 0 else 1) < 30))=Af
 line:(apos.endLine == cpos.line)=Af
 trees:backTo cpos (Bh [e] X.env)=[(Aq,eval e X.env)]
structure M2 (X:Cx) (o:A4) (m:Ak) (apos:Pos) (e f:A4) (cpos:Pos):Prop where
 base:attributeBase o m X.env (eval o X.env)=eval o X.env
 few:((backTo cpos (Bh [e,f] X.env)).all (fun x=>!x.1) && (backToKw cpos (keywordEach [] X.env)).all (fun x=>x.1.isSome)
  && decide (([e,f]:Ac A4).length+([]:Ac GH).length+(if ([]:Ac GH).isEmpty then 0 else 1) < 30))=Af
 line:(apos.endLine == cpos.line)=Af
 trees:backTo cpos (Bh [e,f] X.env)=[(Aq,eval e X.env),(Aq,eval f X.env)]
noncomputable def IsD (H:Hp) (a:Ad):Prop:=(∃kvs,Rd H a (.dK kvs))\/∃kvs,Rd H a (.dT kvs)
theorem No {X:Cx} {pins:Ac (Ad × A2)} {σ:St} {H:Hp} {s:Aj} {a:Ad} (I:Inv X pins σ H s) (d:IsD H a) :
 s.TypeIs (.ref a) "dict"/\(∀b,AO a=.ref b->∃ob,s.heap.get? b=Aa ob/\ob.dict=Ai)/\(a == Cr)=Aq:=by
 rcases d with ⟨kvs,e⟩ | ⟨kvs,e⟩
 ·obtain ⟨_,hd,vs,_,dd⟩:=HV I.hok e;refine ⟨dd.typeIs,fun b q=>?_,hd⟩
  cases q
  obtain ⟨ob,_,_,h1,h2,_⟩:=dd;exact ⟨ob,h1,h2.2.1⟩
 ·obtain ⟨_,hd,xs,_,dd⟩:=G_ I.hok e;refine ⟨dd.typeIs,fun b q=>?_,hd⟩
  cases q
  obtain ⟨ob,_,_,h1,h2,_⟩:=dd;exact ⟨ob,h1,h2.2.1⟩
section
variable {X:Cx} {pins:Ac (Ad × A2)} {σ:St} {H:Hp} {s:Aj} {a:Ad} {y d:V} {u r:Ah} {o:A5 V} {A:AR} {E:Ah->Aj->Prop}
theorem Yy {Q:Ah->Aj->Prop} (hu:A.units+1 < cLine) (I:Inv X pins σ H s) (g:Df H a y o) (ry:AQ y u) (rd:AQ d r) (h:∀w' s',Inv X pins σ H s'->AQ (o.getD d) w'->Q w' s') :
 Au (A6 X.prog X.w) A (call (.builtin "dict.get") [.ref a,u,r]) Q E s:=by
 rcases g with ⟨kvs,k,e,ey,l⟩ | ⟨kvs,k,b,e,ey,eb,l⟩
 ·subst ey;obtain ⟨z,hd,vs,rel,dd⟩:=HV I.hok e;refine M6 OT dd.typeIs WK (WI _ _ _) (meets_dict_get_default (BO X.prog X.w) a (KE ry) hd r) ⟨_,dd.mapOf,h _ _ (I.tok _) ?_⟩;rw [l];exact (rel.val k).getD rd
 ·subst ey
  cases (show u=AO b from ry)
  obtain ⟨z,hd,xs,rel,dd⟩:=G_ I.hok e;refine M6 OT dd.typeIs WK (WI _ _ _) (meetsH_dict_get_default (tupleKind (BO X.prog X.w)) a b hd r) ⟨Ko hu,k,xs,Hc I.hok eb,dd,h _ _ (I.tok _) ?_⟩;rw [l];exact (rel.val k).getD rd
end
noncomputable def Acu (td ty tx:TE):TE:=fun σ H Q=>td σ H fun x H1=>∃a,x=.ref a/\IsD H1 a/\ty σ H1 fun y H2=>tx σ H2 fun z H3=>∃o,Df H3 a y o/\Q (o.getD z) H3
section
variable {X:Cx} {o e f:A4} {apos cpos:Pos} {td ty tx:TE}
theorem Jv (hu:X.A.units+1 < cLine) (ho:PE X o td) (he:PE X e ty) (hf:PE X f tx) (m:M2 X o "get" apos e f cpos):PE X (.Call (.Attribute o "get" apos) [e,f] [] cpos) (Acu td ty tx):=by
 intro pins s σ H Q I h;refine Py m.base m.few m.line Ke OT PySem.F.type_dict_get (thn (ho pins s σ H _ I h) fun u s1 hq_=>?_);obtain ⟨x,H1,I1,rx,a,ex,d,q1⟩:=hq_;subst ex;obtain rfl:u=AO a:=rx;obtain ⟨t1,t2,_⟩:=No I1 d;refine ⟨t1,t2,?_⟩;rw [m.trees]
 refine JO rfl (L5 (F5 (thn (he pins s1 σ H1 _ I1 q1) fun iv s2 ⟨y,H2,I2,ry,q2⟩ =>
  F5 (thn (hf pins s2 σ H2 _ I2 q2) fun fv s3 ⟨z,H3,I3,rz,ov,g,q3⟩=>GC ?_))))
 exact Yy hu I3 g ry rz fun w' s4 I4 rw'=>⟨_,H3,I4,rw',q3⟩
end
section
variable {X:Cx} {pins:Ac (Ad × A2)} {σ:St} {H:Hp} {s:Aj} {a:Ad} {kvs:Ac (Key × V)} {A:AR} {E:Ah->Aj->Prop}
end
section
variable {X:Cx} {pins:Ac (Ad × A2)} {σ:St} {H:Hp} {s:Aj} {a:Ad} {y:V} {u:Ah} {A:AR} {E:Ah->Aj->Prop}
end
end L2
namespace L2
open PySem PySem.Spec PyProof.Rows
section
variable {κ:Type} [F6 κ]
theorem Vl {kvs:Ac (κ × V)} {k:κ} (h:A' kvs k=Ai):¬ k∈kvs.map (·.1):=by
 intro m;obtain ⟨p,hp,e⟩:=mem_map.mp m;have q:(kvs.any fun kv=>decide (kv.1=k))=Af:=any_eq_true.mpr ⟨p,hp,AT e⟩;rw [F',h] at q;exact Aw q (by simp)
theorem Adc {kvs:Ac (κ × V)} {k:κ} {v:V} (h:A' kvs k=Aa v):k∈kvs.map (·.1):=by
 have q:(kvs.any fun kv=>decide (kv.1=k))=Af:=by
  rw [F',h]
  all_goals rfl
 obtain ⟨p,hp,e⟩:=any_eq_true.mp q;exact mem_map.mpr ⟨p,hp,CK e⟩
theorem Ro:∀{l:Ac κ} {k:κ},l.Nodup->¬ k∈l->(l++[k]).Nodup
 | [],k,_,_=>by simp
 | a :: r,k,h,hk=>by
   obtain ⟨h1,h2⟩:=nodup_cons.mp h;show (a :: (r++[k])).Nodup;refine nodup_cons.mpr ⟨fun m=>?_,Ro h2 fun m=>hk (mem_cons.mpr (IL m))⟩;rcases mem_append.mp m with q | q
   ·exact h1 q
   ·exact hk (mem_cons.mpr (B2 (mem_singleton.mp q).symm))
theorem Aaf {kvs:Ac (κ × V)} {k:κ} (v:V) (hn:(kvs.map (·.1)).Nodup) (h:A' kvs k=Ai):((B6 kvs k v).map (·.1)).Nodup:=by
 rw [Abu v h,AK];exact Ro hn (Vl h)
end
end L2
namespace L2
open PySem PySem.Spec PyProof.Rows
noncomputable def Sz (n:Ae) (x:Ab):Prop:=x.natAbs < 2 ^ n
section
variable {m n:Ae} {x y:Ab}
theorem Sz.bits (h:Sz n x):Ed x<=n:=intBits_le_iff.mpr h
theorem Sz.of_bits (h:Ed x<=n):Sz n x:=intBits_le_iff.mp h
theorem Sz.mono (h:Sz m x) (l:m<=n):Sz n x:=.of_bits (BE h.bits l)
theorem Sz.mul (h:Sz m x) (k:Sz n y):Sz (m+n) (x*y):=.of_bits (intBits_mul_le h.bits k.bits)
theorem Sz.add (h:Sz m x) (k:Sz n y):Sz (max m n+1) (x+y):=.of_bits (intBits_add_le h.bits k.bits)
theorem Sz.sub (h:Sz m x) (k:Sz n y):Sz (max m n+1) (x - y):=.of_bits (intBits_sub_le h.bits k.bits)
theorem Sz.neg (h:Sz m x):Sz m (-x):=.of_bits (intBits_neg_le h.bits)
theorem Sz.fdiv (h:Sz m x):Sz m (x.fdiv y):=.of_bits (intBits_fdiv_le h.bits)
theorem szd (n:Ae) {x:Ab} (h:decide (x.natAbs < 2 ^ n)=Af:=by decide +kernel):Sz n x:=(show x.natAbs < 2 ^ n from CK h)
theorem B_ (h:-(2 ^ n:Ae) < x) (k:x < (2 ^ n:Ae)):Sz n x:=by
 unfold Sz;generalize 2 ^ n=p at h k ⊢;omega
end
noncomputable def Kw (i j:Ab):Prop:=∃m n,Sz m i/\Sz n j/\m+n<=134217728
theorem Aae {i j:Ab} {m n:Ae} (h:Sz m i) (k:Sz n j) (l:decide (m+n<=134217728)=Af:=by decide +kernel):Kw i j:=⟨m,n,h,k,CK l⟩
noncomputable def XE (_ j:Ab):Prop:=j≠0/\Sz 9000 j
section
variable {X:Cx}
theorem Ck:OpR X (E3 .Mult) (rI Kw fun i j=>.int (i*j)):=opI fun _ _ _ _ _ _ _ hc q =>
 mul_int q (let ⟨_,_,a,b,c⟩:=hc;IntMulOk.of_le a.bits b.bits c)
theorem EU:OpR X (E3 .FloorDiv) (rI XE fun i j=>.int (i.fdiv j)):=opI fun _ j _ _ _ _ _ hc q =>
 floordiv_int hc.1 q (.inl (PyProof.noPylong_of_log2 ((Nat.log2_lt (by have:=hc.1;omega)).mpr hc.2)))
theorem Aan {x y:Ab} (h:Sz 13500 x):Builtin.divisionGoesByPylong x y=Aq:=by
 have key:(if x == 0 then 0 else x.natAbs.log2 / 30+1)<=450:=by
  by_cases hy:(x == 0)=Af
  ·rw [Ar hy];exact Br _
  ·rw [Ao hy]
   have nz:x.natAbs≠0:=by
    have:¬ x=0:=fun e=>hy (by rw [e];rfl);omega
   have:=(Nat.log2_lt nz).mpr h;omega
 show (decide ((if y == 0 then 0 else y.natAbs.log2 / 30+1) > 300) && decide ((if x == 0 then 0 else x.natAbs.log2 / 30+1) > (if y == 0 then 0 else y.natAbs.log2 / 30+1)+150))=Aq;generalize (if y == 0 then 0 else y.natAbs.log2 / 30+1)=dy;generalize (if x == 0 then 0 else x.natAbs.log2 / 30+1)=dx at key;by_cases c:dy > 300
 ·rw [AS (show ¬ dx > dy+150 by omega),Ot]
 ·rw [AS c,Iu]
theorem La:OpR X (E3 .FloorDiv) (rI (fun i j=>j≠0/\Sz 13500 i) fun i j=>.int (i.fdiv j)):=opI fun _ _ _ _ _ _ _ hc q=>floordiv_int hc.1 q (.inl (Aan hc.2))
theorem XS (ns ms:Ac Ab):((Bo (min ns.length ms.length)).all (fun j=>ns.getD j 0 == ms.getD j 0) && ns.length == ms.length)=decide (ns=ms):=by
 rw [Ho];simp only [Gb,O9,mem_range,beq_iff_eq,Gk]
 constructor
 ·rintro ⟨h,l⟩;refine JU l fun i h1 h2=>?_;have:=h i (by omega);simpa [BI,h1,h2] using this
 ·rintro rfl;exact ⟨fun _ _=>rfl,rfl⟩
theorem R1 (hu:X.A.units < cLine):OpR X (Cj .Eq) (fun x y H Q=>∃(a b:Ad) (ns ms:Ac Ab),x=.ref a/\y=.ref b/\SqT X.K H a (ns.map V.int)/\SqT X.K H b (ms.map V.int)/\Q (.bl (decide (ns=ms))) H):=by
 intro pins s σ H x y v u Q I rx ry h;obtain ⟨a,b,ns,ms,rfl,rfl,ha,hb,q⟩:=h
 cases rx
 cases ry
 obtain ⟨its,rv,ht,_⟩:=I.tuple ha;obtain ⟨its2,rv2,ht2,_⟩:=I.tuple hb;have l1:ns.length=its.length:=by rw [<- rv.length,At]
 have l2:ms.length=its2.length:=by rw [<- rv2.length,At]
 refine SeqAt.eq_tupleAt (e:=fun j=>ns.getD j 0 == ms.getD j 0) (show s.heap.IsTuple a its.toArray from ht) (show s.heap.IsTuple b its2.toArray from ht2) hu (fun j h1 h2=>?_) ?_
 ·have h1':j < ns.length:=by rw [l1];simpa using h1
  have h2':j < ms.length:=by rw [l2];simpa using h2
  obtain ⟨u1,e1,r1⟩:=rv.get (i:=j) (x:=.int ns[j]) (by rw [Ba,Cm h1'] <;> rfl);obtain ⟨u2,e2,r2⟩:=rv2.get (i:=j) (x:=.int ms[j]) (by rw [Ba,Cm h2'] <;> rfl);obtain ⟨t1,rfl⟩:=r1;obtain ⟨t2,rfl⟩:=r2
  have f1:its.toArray[j]=.int ns[j] t1:=by
   have:=(List.getElem?_eq_some_iff.mp e1).2;simpa using this
  have f2:its2.toArray[j]=.int ms[j] t2:=by
   have:=(List.getElem?_eq_some_iff.mp e2).2;simpa using this
  rw [f1,f2];have g1:ns.getD j 0=ns[j]:=by simp [BI,h1']
  have g2:ms.getD j 0=ms[j]:=by simp [BI,h2']
  show M4 X.A.in1 s (.int ns[j] t1) (.int ms[j] t2) (ns.getD j 0 == ms.getD j 0);rw [g1,g2];exact Pl _ _ _ _
 ·have e:((Bo (min its.toArray.size its2.toArray.size)).all (fun j=>ns.getD j 0 == ms.getD j 0) && its.toArray.size == its2.toArray.size)=decide (ns=ms):=by
   rw [BJ,BJ,<- l1,<- l2];exact XS ns ms
  rw [e];exact ⟨.bl _,H,I,rfl,q⟩
theorem HR:De X (.builtin "isinstance") (fun xs H Q=>∃x t c b,xs=[x,.ty c]/\CS X.K H x t/\Hz X.K t (.type c)=Aa b/\Q (.bl b) H):=by
 intro pins s σ H xs us Q I rv h;obtain ⟨x,t,c,b,rfl,ty,e,q⟩:=h;obtain ⟨u,u',rfl,r1,r2⟩:=Lv rv
 cases (show u'=Dp c from r2)
 exact QD I r1 ty e fun tk=>⟨.bl b,H,I.tok tk,rfl,q⟩
end
section
variable {K:A8}
theorem QL:Hz K (.type "int") (.type "int")=Aa Af:=by
 show (if ((Dp "int") == (Dp "int"))=Af then Aa Af else (if Mw "int"=Af then (M3 "int").map (·.contains (Dp "int")) else Ai))=Aa Af
 decide +kernel
theorem QK:Hz K (.type "int") (.type "bool")=Aa Aq:=by
 show (if ((Dp "int") == (Dp "bool"))=Af then Aa Af else (if Mw "bool"=Af then (M3 "int").map (·.contains (Dp "bool")) else Ai))=Aa Aq
 decide +kernel
theorem Zy:Hz K (.type "tuple") (.type "tuple")=Aa Af:=by
 show (if ((Dp "tuple") == (Dp "tuple"))=Af then Aa Af else (if Mw "tuple"=Af then (M3 "tuple").map (·.contains (Dp "tuple")) else Ai))=Aa Af
 decide +kernel
theorem Zx:Hz K (.type "list") (.type "list")=Aa Af:=by
 show (if ((Dp "list") == (Dp "list"))=Af then Aa Af else (if Mw "list"=Af then (M3 "list").map (·.contains (Dp "list")) else Ai))=Aa Af
 decide +kernel
end
noncomputable def Ac3 (c:TT) (t u:TS):TS:=fun D σ H=>∃M:St->Hp->Prop,(c σ H fun b H1=>if b=Af then t { D with nx:=M } σ H1 else u { D with nx:=M } σ H1)/\∀σ' H',M σ' H'->D.nx σ' H'
theorem Hh {X:Cx} {c:A4} {a b:Ac AC} {tc:TT} {t u:TS} {pos:Pos} (hc:PT X c tc) (ha:PSs X a t) (hb:PSs X b u):PS X (.If c a b pos) (Ac3 tc t u):=by
 intro pins s σ H D I h;obtain ⟨M,h,hM⟩:=h
 have up:∀(f:Flow) (s':Aj),SP X pins { D with nx:=M } f s'->SP X pins D f s':=fun f s' q=>by
  cases f with
  | next =>
    obtain ⟨σ',H',I',q⟩:=q;exact ⟨σ',H',I',hM σ' H' q⟩
  | ret v=>exact q
  | brk=>exact q
  | cont=>exact q
 refine wpAny_If (thn (hc pins s σ H _ I h) fun d s1 hq_=>?_);obtain ⟨H1,I1,q1⟩:=hq_
 cases d with
 | true=>exact thn (ha pins s1 σ H1 _ I1 q1) up
 | false=>exact thn (hb pins s1 σ H1 _ I1 q1) up
theorem Qd:I_ 10 40:=⟨by decide,by decide,by decide⟩
theorem C9 {n:Ae} (h:n<=1000):n<=AB:=DK (C8 h)
theorem QE {ns:Ac Ab} {k:Ab} (h0:0<=k) (h:k < (ns.length:Ab)):∃v:Ab,atI (ns.map V.int) k=Aa (.int v):=by
 have hk:k.toNat < ns.length:=by omega
 have ek:k=((k.toNat:Ae):Ab):=by omega
 have q:atI (ns.map V.int) ((k.toNat:Ae):Ab)=Aa (.int ns[k.toNat]):=HQ (by rw [Ba,Cm hk] <;> rfl);rw [<- ek] at q;exact ⟨_,q⟩
end L2
namespace L2
open PySem PySem.Spec PyProof.Rows
noncomputable def Cx.inComp (X:Cx) (Nc:Ac Ak) (sc:Bu) (cl:Ac (Ak × Ad)) (s:Aj) (H:Hp) (ex:Ac Ad):Cx :=
 { X with N:=Nc,s₀:=s,H₀:=H,env:=compEnvC sc cl s.heap.objs.size X.env,outer:=X.stack,stack:=X.stack,ex:=ex,fn:=fun _=>Aq,pn:=[],xe:=fun _ _=>BA }
theorem Yp {env:BC} {f:Ak × Gf->Ac (Ak × Ad)->CQ (ForInStep (Ac (Ak × Ad)))}
 (hf:∀n k r,f (n,k) r=if (k == Gg)=Af then (cellOf env n >>= fun c=>pure (F7 ((n,c) :: r))) else pure (F7 r)) :
 ∀(l:Ac (Ak × Gf)) (cs:Ac (Ak × Ad)),(∀x∈l,x.2=.free->∃c,env.cells.lookup x.1=Aa c) ->
  ∃cl,(forIn l cs f:CQ (Ac (Ak × Ad)))=pure cl/\(∀p∈cl,p∈cs\/env.cells.lookup p.1=Aa p.2)/\(∀p∈cs,p∈cl)/\∀x∈l,x.2=.free->∃c,(x.1,c)∈cl:=by
 intro l
 induction l with
 | nil =>
   intro cs _;exact ⟨cs,by rw [LS],fun p hp=>.inl hp,fun p hp=>hp,fun x hx=>Aw hx (by simp)⟩
 | cons y r ih =>
   intro cs h;obtain ⟨n,k⟩:=y;by_cases hk:k=.free
   ·subst hk;obtain ⟨c,hc⟩:=h (n,.free) (by simp) rfl
    have e:cellOf env n=pure c:=by
     unfold cellOf;rw [show env.cells.lookup n=Aa c from hc]
    obtain ⟨cl,h1,h2,h3,h4⟩:=ih ((n,c) :: cs) fun x hx=>h x (Bc _ hx);refine ⟨cl,?_,fun p hp=>?_,fun p hp=>h3 p (Bc _ hp),fun x hx hf'=>?_⟩
    ·rw [OB,hf,Ar (by decide),e];simp only [MD];exact h1
    ·rcases h2 p hp with z | z
     ·rcases mem_cons.mp z with z | z
      ·subst z;exact .inr hc
      ·exact .inl z
     ·exact .inr z
    ·rcases mem_cons.mp hx with z | z
     ·subst z;exact ⟨c,h3 _ (by simp)⟩
     ·exact h4 x z hf'
   ·have hb:(k == Gg)=Aq:=by simpa using hk
    obtain ⟨cl,h1,h2,h3,h4⟩:=ih cs fun x hx=>h x (Bc _ hx);refine ⟨cl,?_,h2,h3,fun x hx hf'=>?_⟩
    ·rw [OB,hf,hb,Ao (by decide)];simp only [MD];exact h1
    ·rcases mem_cons.mp hx with z | z
     ·subst z;exact Aw hf' hk
     ·exact h4 x z hf'
theorem QW {α:Type}:∀{l:Ac (Ak × α)} {n:Ak} {c:α},(n,c)∈l->∃d,l.lookup n=Aa d
 | (k,v) :: r,n,c,h=>by
   rw [FE]
   cases hx:(n == k) with
   | true=>exact ⟨v,rfl⟩
   | false =>
     rcases mem_cons.mp h with z | z
     ·cases z
      simp at hx
     ·exact QW z
theorem Nb {env:BC} {sc:Bu} (h:∀x∈sc.names,x.2=.free->∃c,env.cells.lookup x.1=Aa c) :
 ∃cl,closureFor sc env=pure cl/\(∀y c,cl.lookup y=Aa c->env.cells.lookup y=Aa c)/\∀x∈sc.names,x.2=.free->∃c,cl.lookup x.1=Aa c:=by
 obtain ⟨cl,h1,h2,_,h4⟩:=Yp (env:=env) (f:=fun x r=>if (x.2 == Gg)=Af then (cellOf env x.1 >>= fun c=>pure (F7 ((x.1,c) :: r))) else pure (F7 r)) (fun _ _ _=>rfl) sc.names [] h;refine ⟨cl,?_,fun y c e=>?_,fun x hx hf=>?_⟩
 ·unfold closureFor;have:(forIn sc.names ([]:Ac (Ak × Ad)) fun x r=>(match x with | (name,kind)=>if (kind == Gg)=Af then (do let __do_lift <- cellOf env name;pure (F7 ((name,__do_lift) :: r))) else pure (F7 r)):CQ (Ac (Ak × Ad)))=pure cl:=h1
  first
   | (simp only [this,MD];done)
   | (simp only [h1,MD];done)
   | (rw [show (forIn sc.names ([]:Ac (Ak × Ad)) _:CQ (Ac (Ak × Ad)))=pure cl from h1];rfl)
 ·rcases h2 (y,c) (E2 e) with z | z
  ·exact Aw z (by simp)
  ·exact z
 ·obtain ⟨c,hc⟩:=h4 x hx hf;exact QW hc
theorem KJ (env:BC):∀(names:Ac (Ak × Gf)) (y:Ak),
 (names.map fun (n,k)=>if (k == Gg && env.scope.kind == .function && env.kindOf n == Aa .cell) then (n,Hx) else (n,k)).lookup y
  = (names.lookup y).map fun k=>if (k == Gg && env.scope.kind == .function && env.kindOf y == Aa .cell) then Hx else k
 | [],y=>rfl
 | (n,k) :: r,y=>by
   have ih:=KJ env r y;rw [Bg];dsimp only
   cases hx:(y == n) with
   | true =>
     have e:y=n:=by simpa using hx
     subst e;by_cases c:(k == Gg && env.scope.kind == .function && env.kindOf y == Aa .cell)=Af
     ·rw [Ar c];simp only [FE,hx,GK];rw [Ar c]
     ·rw [Ao c];simp only [FE,hx,GK];rw [Ao c]
   | false =>
     by_cases c:(k == Gg && env.scope.kind == .function && env.kindOf n == Aa .cell)=Af
     ·rw [Ar c];simp only [FE,hx];exact ih
     ·rw [Ao c];simp only [FE,hx];exact ih
noncomputable def DO (X:Cx) (ifs:Ac A4) (t:TT):Prop :=
 ∀(pins:Ac (Ad × A2)) (s:Aj) (σ:St) (H:Hp) (Q:AI->Hp->Prop),Inv X pins σ H s->t σ H Q ->
  Au (A6 X.prog X.w) X.A (forIn ifs Af fun c r=>if r=Af then do let ok <- isTrue c X.env (eval c X.env);pure (F7 ok) else pure (F7 r)) (TP X pins σ Q) X.xe s
noncomputable def UX:TT:=fun _ H Q=>Q Af H
theorem yes {σ:St} {H:Hp} {Q:AI->Hp->Prop} (h:Q Af H):UX σ H Q:=h
theorem DD {X:Cx}:DO X [] UX:=by
 intro pins s σ H Q I h;rw [LS];exact Ay ⟨H,I,h⟩
theorem Fv {X:Cx} {c:A4} {t:TT} (hc:PT X c t):DO X [c] t:=by
 intro pins s σ H Q I h;rw [OB,Ar rfl];refine An (An (thn (hc pins s σ H Q I h) fun b s1 q=>Ay ?_));dsimp only;rw [LS];exact Ay q
theorem EX {α:Type} {t:CQ α} {Q Q':α->Aj->Prop} {M:Ff} {A:AR} {E:Ah->Aj->Prop} {s:Aj} (h:Au M A t Q (fun _ _=>BA) s) (hQ:∀a s,Q a s->Q' a s):Au M A t Q' E s:=DM h hQ fun _ _ z=>z.elim
noncomputable def JF (wi:TI) (tt:TT) (te:TE):TE:=fun σ H Q=>wi σ H fun J H1=>∀D,H1 D=Ai->∃W:Ae->Ae->Ac V->Hp->Prop,(∃m,W 0 m [] (upd H1 D (.lst [])))/\∀i m ys H2,W i m ys H2 ->
 H2 D=Aa (.lst ys)/\((J.stop i H2/\Q (.ref D) H2)\/(J.go i H2/\ys.length < AB/\∀x H3,J.yld i H2 x H3->tt (σ++[Aa x]) H3 fun b H4=>if b=Af then te (σ++[Aa x]) H4 fun y H5=>H5 D=Aa (.lst ys)/\∃m',m' < m/\W (i+1) m' (ys++[y]) (upd H5 D (.lst (ys++[y])))
  else ∃m',m' < m/\W (i+1) m' ys H4))
structure E5 (N Nc:Ac Ak) (x:Ak) (sc fsc:Bu):Prop where
 kind:sc.kind=.function
 cell:∀y∈sc.names,y.2≠.cell
 nm:∀y∈sc.names,y.2=.local->sc.names.lookup y.1=Aa .local
 own:sc.names.lookup x=Aa .local
 fr:∀y∈sc.names,y.2=.free->fsc.names.lookup y.1=Aa .cell\/fsc.names.lookup y.1=Aa .free
 len:Nc.length=N.length+1
 nd:Nc.Nodup
 last:Nc[N.length]?=Aa x
 slot:((Bo N.length).all fun i=>match Nc[i]? with
  | some y=>(match sc.names.lookup y with | some .free=>N[i]? == Aa y | some .local=>Aq | some .cell=>Aq | _=>Af)
  | none=>Af)=Af
theorem E5.at {N Nc:Ac Ak} {x:Ak} {sc fsc:Bu} (C:E5 N Nc x sc fsc) {i:Ae} {y:Ak} (hi:i < N.length) (h:Nc[i]?=Aa y):sc.names.lookup y≠Aa .local/\sc.names.lookup y≠Aa .cell/\(sc.names.lookup y=Aa .free->N[i]?=Aa y):=by
 have q:=all_eq_true.mp C.slot i (mem_range.mpr hi);rw [h] at q;dsimp only at q
 cases e:sc.names.lookup y with
 | none=>exact ⟨fun z=>(nomatch z),fun z=>(nomatch z),fun z=>(nomatch z)⟩
 | some k =>
   rw [e] at q
   cases k with
   | «local»=>exact Aw (show Aq=Af from q) Bl
   | cell=>exact Aw (show Aq=Af from q) Bl
   | free=>exact ⟨fun z=>(nomatch z),fun z=>(nomatch z),fun _=>by simpa using q⟩
   | _=>exact ⟨fun z=>(nomatch z),fun z=>(nomatch z),fun z=>(nomatch z)⟩
section
variable {X:Cx} {elt iter:A4} {x:Ak} {px pos:Pos} {ifs:Ac A4} {sc fsc:Bu} {N Nc:Ac Ak} {wi:TI} {tt:TT} {te:TE}
structure Go (X:Cx) (pins:Ac (Ad × A2)) (H:Hp) (C:Ad):Prop where
 free:H C=Ai
 ne:C≠X.env.locals
 new:X.s₀.heap.objs.size<=C
 cells:∀x c,X.env.cells.lookup x=Aa c->c≠C
 pins:∀p∈X.pn++pins,p.1≠C
theorem Inv.sameBut {pins:Ac (Ad × A2)} {σ:St} {H:Hp} {s:Aj} {C:Ad} {h':AD} (I:Inv X pins σ H s) (c:Go X pins H C) (k:Ey C s.heap h'):Inv X pins σ H { s with heap:=h' } :=
 I.turned (t':=s.toks) (it:=C) (fun b o hb e=>(k.2 b hb).trans e) c.free c.ne (.inr c.new) c.cells c.pins
theorem AbP {σ:St} {o v:A5 V}:(σ++[o]).set σ.length v=σ++[v]:=by
 rw [Eg _ _ (A1 _),EI];rfl
theorem Yt (I:∀y,(X.env.kindOf y=Aa .cell\/X.env.kindOf y=Aa .free)->∃c,X.env.cells.lookup y=Aa c) (hE:X.env.scope=fsc) (cn:E5 N Nc x sc fsc):∀y∈sc.names,y.2=.free->∃c,X.env.cells.lookup y.1=Aa c:=fun y hy hf=>by
 refine I y.1 ?_;show X.env.scope.names.lookup y.1=Aa .cell\/X.env.scope.names.lookup y.1=Aa .free;rw [hE];exact cn.fr y hy hf
end
theorem GZ {lo:Ab} {n:Ae} {tt:TT} {te:TE} {σ:St} {H1:Hp} {Q:Ad->Hp->Prop} (hn:n<=AB) (Pv:Ad->Ae->Ac V->Hp->Prop)
 (h0:∀D,H1 D=Ai->Pv D 0 [] (upd H1 D (.lst []))) (hD:∀D i ys H,Pv D i ys H->H D=Aa (.lst ys)/\ys.length<=i)
 (hs:∀D i ys H (K1:VK) (K2:Hp->Prop),H1 D=Ai->i < n->Pv D i ys H->(∀y H5,H5 D=Aa (.lst ys)->Pv D (i+1) (ys++[y]) (upd H5 D (.lst (ys++[y])))->K1 y H5)->(∀H4,Pv D (i+1) ys H4->K2 H4) ->
  tt (σ++[Aa (.int (lo+i))]) H fun b H4=>if b=Af then te (σ++[Aa (.int (lo+i))]) H4 K1 else K2 H4)
 (hd:∀D ys H,H1 D=Ai->Pv D n ys H->Q D H) :
 ∀D,H1 D=Ai->∃W:Ae->Ae->Ac V->Hp->Prop,(∃m,W 0 m [] (upd H1 D (.lst [])))/\∀i m ys H2,W i m ys H2 ->
  H2 D=Aa (.lst ys)/\(((Itr lo n).stop i H2/\Q D H2)\/((Itr lo n).go i H2/\ys.length < AB/\∀x H3,(Itr lo n).yld i H2 x H3->tt (σ++[Aa x]) H3 fun b H4=>if b=Af then te (σ++[Aa x]) H4 fun y H5=>H5 D=Aa (.lst ys)/\∃m',m' < m/\W (i+1) m' (ys++[y]) (upd H5 D (.lst (ys++[y])))
   else ∃m',m' < m/\W (i+1) m' ys H4)):=by
 intro D hDn;refine ⟨fun i m ys H=>m=n - i/\i<=n/\Pv D i ys H,⟨n,rfl,Br _,h0 D hDn⟩,?_⟩;rintro i m ys H2 ⟨rfl,hi,p⟩;obtain ⟨e,l⟩:=hD D i ys H2 p;refine ⟨e,?_⟩;by_cases hlt:i < n
 ·refine .inr ⟨hlt,Dn l (B' hlt hn),fun x H3 y=>?_⟩;obtain ⟨e1,e2⟩:=y;subst e1 e2;exact hs D i ys _ _ _ hDn hlt p (fun y H5 h5 p5=>⟨h5,n - (i+1),by omega,rfl,hlt,p5⟩) fun H4 p4=>⟨n - (i+1),by omega,rfl,hlt,p4⟩
 ·have ei:i=n:=by omega
  subst ei;exact .inl ⟨A1 _,hd D ys H2 hDn p⟩
theorem FL {K:A8} {a:Ad} {xs:Ac V} {tt:TT} {te:TE} {σ:St} {H1:Hp} {Q:Ad->Hp->Prop} (hn:xs.length<=AB) (Pv:Ad->Ae->Ac V->Hp->Prop)
 (h0:∀D,H1 D=Ai->Pv D 0 [] (upd H1 D (.lst []))) (hD:∀D i ys H,Pv D i ys H->H D=Aa (.lst ys)/\ys.length<=i) (hl:∀D i ys H,H1 D=Ai->Pv D i ys H->SqL K H a xs)
 (hs:∀D i x ys H (K1:VK) (K2:Hp->Prop),H1 D=Ai->xs[i]?=Aa x->Pv D i ys H->(∀y H5,H5 D=Aa (.lst ys)->Pv D (i+1) (ys++[y]) (upd H5 D (.lst (ys++[y])))->K1 y H5)->(∀H4,Pv D (i+1) ys H4->K2 H4) ->
  tt (σ++[Aa x]) H fun b H4=>if b=Af then te (σ++[Aa x]) H4 K1 else K2 H4)
 (hd:∀D ys H,H1 D=Ai->Pv D xs.length ys H->Q D H) :
 ∀D,H1 D=Ai->∃W:Ae->Ae->Ac V->Hp->Prop,(∃m,W 0 m [] (upd H1 D (.lst [])))/\∀i m ys H2,W i m ys H2 ->
  H2 D=Aa (.lst ys)/\(((Itl K a).stop i H2/\Q D H2)\/((Itl K a).go i H2/\ys.length < AB/\∀x H3,(Itl K a).yld i H2 x H3->tt (σ++[Aa x]) H3 fun b H4=>if b=Af then te (σ++[Aa x]) H4 fun y H5=>H5 D=Aa (.lst ys)/\∃m',m' < m/\W (i+1) m' (ys++[y]) (upd H5 D (.lst (ys++[y])))
   else ∃m',m' < m/\W (i+1) m' ys H4)):=by
 intro D hDn;refine ⟨fun i m ys H=>m=xs.length - i/\i<=xs.length/\Pv D i ys H,⟨xs.length,rfl,Br _,h0 D hDn⟩,?_⟩;rintro i m ys H2 ⟨rfl,hi,p⟩;obtain ⟨e,l⟩:=hD D i ys H2 p;have q:=hl D i ys H2 hDn p;refine ⟨e,?_⟩;by_cases hlt:i < xs.length
 ·refine .inr ⟨⟨xs,xs[i],q,by simp [hlt]⟩,Dn l (B' hlt hn),fun x H3 y=>?_⟩;obtain ⟨e1,y⟩:=y;subst e1;exact hs D i x ys _ _ _ hDn (y xs q) p (fun y H5 h5 p5=>⟨h5,xs.length - (i+1),by omega,rfl,hlt,p5⟩) fun H4 p4=>⟨xs.length - (i+1),by omega,rfl,hlt,p4⟩
 ·have ei:i=xs.length:=by omega
  subst ei;exact .inl ⟨⟨xs,q,A1 _⟩,hd D ys H2 hDn p⟩
section
variable {X:Cx}
theorem QH (K:A8) (h:X.K=K:=by rfl):IxR X (NO K):=by subst h;exact CM
theorem Ek (K:A8) (h:X.K=K:=by rfl):IxR X (NP K):=by subst h;exact AX
theorem R3 (K:A8) (h:X.K=K:=by rfl):OpR X (Cj .In) (rIn K Aq):=by subst h;exact Aaw
theorem Aa0 (K:A8) (h:X.K=K:=by rfl):OpR X (Cj .NotIn) (rIn K Af):=by subst h;exact Aaz
end
end L2
namespace L2
open PySem PySem.Spec PyProof.Rows
section
variable {X:Cx}
inductive R_ (K:A8) (x y:V) (H:Hp) (Q:VK):Prop
 | mk (a b:Ad) (ns ms:Ac Ab):x=.ref a->y=.ref b->SqL K H a (ns.map V.int)->SqL K H b (ms.map V.int)->Q (.bl (decide (ns=ms))) H->R_ K x y H Q
inductive Sf (K:A8) (x y:V) (H:Hp) (Q:VK):Prop
 | mk (a b:Ad) (ns ms:Ac Ab):x=.ref a->y=.ref b->SqL K H a (ns.map V.int)->SqL K H b (ms.map V.int)->Q (.bl (!decide (ns=ms))) H->Sf K x y H Q
theorem Ry (hu:X.A.units+64 < cLine):OpR X (Cj .Eq) (R_ X.K):=by
 intro pins s σ H x y v u Q I rx ry h;obtain ⟨a,b,ns,ms,rfl,rfl,ha,hb,q⟩:=h
 cases rx
 cases ry
 obtain ⟨its,rv,ht,_⟩:=I.list ha;obtain ⟨its2,rv2,ht2,_⟩:=I.list hb;exact PySem.W.eq_intsK ht.isList (E9 rv) ht2.isList (E9 rv2) hu ⟨.bl _,H,I,rfl,q⟩
theorem NB (hu:X.A.units+64 < cLine):OpR X (Cj .NotEq) (Sf X.K):=by
 intro pins s σ H x y v u Q I rx ry h;obtain ⟨a,b,ns,ms,rfl,rfl,ha,hb,q⟩:=h
 cases rx
 cases ry
 obtain ⟨its,rv,ht,_⟩:=I.list ha;obtain ⟨its2,rv2,ht2,_⟩:=I.list hb;exact PySem.W.ne_intsK ht.isList (E9 rv) ht2.isList (E9 rv2) hu ⟨.bl _,H,I,rfl,q⟩
theorem K7 (hc:X.calm=Af):De X (.builtin "sum") (fun xs H Q=>∃(p:Ad) (ns:Ac Ab),xs=[.ref p]/\SqL X.K H p (ns.map V.int)/\Q (.int ns.sum) H):=by
 intro pins s σ H xs us Q I rv h;obtain ⟨p,ns,rfl,hS,q⟩:=h;obtain ⟨u,rfl,r⟩:=Ew rv
 cases r
 obtain ⟨its,rv,pl,hz⟩:=I.list hS;have hi:=E9 rv;obtain ⟨xs,e⟩:=hi.allInts.items
 have en:xs.toList.map (·.1)=ns:=by
  have:=nums_intItems xs;rw [<- e,show its.toArray.toList=its from rfl,hi.numsOf] at this;exact this.symm
 refine sum_intListG (I.ok.hd hc) (by rw [<- e];exact pl.isList) fun h' tk t' hk=>?_;rw [preSum_eq,Cn (by simp),en];exact ⟨.int ns.sum,H,I.kept hk,⟨_,rfl⟩,q⟩
theorem Aab:MtR X "int.bit_length" (fun x xs H Q=>∃i:Ab,x=.int i/\xs=[]/\Q (.int (Ed i:Ae)) H):=by
 intro pins s σ H x xs v us Q I rx rv h;obtain ⟨i,rfl,rfl,q⟩:=h;obtain ⟨t,rfl⟩:=rx
 cases rv
 exact call_int_bit_length ⟨.int _,H,I.tok _,⟨_,rfl⟩,q⟩
end
end L2
namespace L2
open PySem PySem.Spec PyProof.Rows
section
variable {M:Ff} {A:AR} {E:Ah->Aj->Prop} {s:Aj} {env:BC} {outer:Ac BC} {L e:Ad} {base:AD}
end
end L2
namespace L2
open PySem PySem.Spec PyProof.Rows
section
variable {X:Cx} {pins:Ac (Ad × A2)} {σ:St} {H:Hp} {s:Aj} {e:Ad} {cls:Ah} {od:A5 Ad}
end
section
variable {X:Cx} {pins:Ac (Ad × A2)} {σ:St} {H:Hp} {s s':Aj} {E:XK} {ev:Ah}
end
section
variable {X:Cx} {W:St->XK} {k:Ae} {f:Ad} {fd:AE} {ps:Ac Ak} {sp:Sp} {dvs:Ac V} {ds:Ac Ah} {x:Ak} {p pos:Pos} {e:A4} {es:Ac A4} {t:TA}
end
end L2
namespace L2
open PySem PySem.Spec PyProof.Rows
section
variable {X:Cx} {W:St->XK} {C:Ad} {x:Ak} {p cpos pos:Pos} {e:A4} {es:Ac A4} {t:TA}
end
section
variable {X:Cx} {pins:Ac (Ad × A2)} {σ:St} {H:Hp} {s:Aj} {e:Ad} {cls:Ah} {od:A5 Ad}
end
section
variable {X:Cx} {pins:Ac (Ad × A2)} {σ:St} {H:Hp} {s:Aj} {e C:Ad} {cls:Ah} {od:A5 Ad} {x n:Ak} {i:Ae} {np pos:Pos} {b₀:AC} {suite:Ac AC} {rest:Ac ExceptHandler} {ts:TS} {tr:TH}
end
end L2
namespace L2
open PySem PySem.Spec PyProof.Rows
section
variable {prog:A9} {w:A3} {A:AR} {E:Ah->Aj->Prop} {s:Aj} {K:A8} {a C:Ad} {o:A2} {od:A5 A2} {name:Ak} {tk:Do}
end
section
variable {X:Cx}
end
end L2
namespace L2
open PySem PySem.Spec PyProof.Rows
section
variable {X:Cx}
end
section
variable {K:A8} {H H':Hp} {x:V} {b:AI}
end
section
variable {K:A8} {A B:Ad}
end
end L2
namespace L2
open PySem PySem.Spec PyProof.Rows
end L2
namespace L2
open PySem PySem.Spec PyProof.Rows
section
variable {prog:A9} {w:A3} {A:AR} {E:Ah->Aj->Prop} {s:Aj} {K:A8} {C P f x:Ad} {ox:A2} {od:A5 A2} {name:Ak} {v:Ah}
end
end L2
namespace L2
open PySem PySem.Spec PyProof.Rows
section
variable {prog:A9} {w:A3} {A:AR} {E:Ah->Aj->Prop} {h:AD} {g:AL JP} {d:Drawn} {t:Ae} {os:Eh}
variable {nm q:Ak} {C N:Ad} {bs bm:Ac Ah} {hd:AI} {sn:Ac Ak} {sub:Ac Ah} {ab:AI} {col:A5 AI} {dd:A5 Ad} {k0 k1 k2 k3 k5:A5 Ah}
end
section
variable {X:Cx} {W:St->XK} {C P fi:Ad} {k:Ae} {fd:AE} {ps ns:Ac Ak} {x:Ak} {p cpos pos:Pos} {e:A4} {es:Ac A4} {t:TA}
end
end L2
namespace L2
open PySem PySem.Spec PyProof.Rows
mutual
inductive Rep (K:A8) (H:Hp):V->Ca->Prop
 | non:Rep K H .non .none
 | bl (b:AI):Rep K H (.bl b) (.bool b)
 | int (i:Ab):Rep K H (.int i) (.int i)
 | str (x:Ak):Rep K H (.str x) (.str x)
 | lst {a:Ad} {xs:Ac V} {ds:Ac Ca}:SqL K H a xs->Reps K H xs ds->Rep K H (.ref a) (.list ds)
 | tup {a:Ad} {xs:Ac V} {ds:Ac Ca}:SqT K H a xs->Reps K H xs ds->Rep K H (.ref a) (.tuple ds)
inductive Reps (K:A8) (H:Hp):Ac V->Ac Ca->Prop
 | nil:Reps K H [] []
 | cons {x:V} {xs:Ac V} {d:Ca} {ds:Ac Ca}:Rep K H x d->Reps K H xs ds->Reps K H (x :: xs) (d :: ds)
end
section
variable {K:A8} {H H':Hp}
mutual
theorem Rep.same (e:Ax H H'):∀{x:V} {d:Ca},Rep K H x d->Rep K H' x d
 | _,_,.non=>.non
 | _,_,.bl b=>.bl b
 | _,_,.int i=>.int i
 | _,_,.str x=>.str x
 | _,_,.lst h r=>.lst (e.seq h) (Reps.same e r)
 | _,_,.tup h r=>.tup (by
  rcases h with (h | ⟨o,h⟩) | h
  ·exact .inl (.inl (e _ _ h))
  ·exact .inl (.inr ⟨o,e _ _ h⟩)
  ·exact .inr h) (Reps.same e r)
theorem Reps.same (e:Ax H H'):∀{xs:Ac V} {ds:Ac Ca},Reps K H xs ds->Reps K H' xs ds
 | _,_,.nil=>.nil
 | _,_,.cons r t=>.cons (Rep.same e r) (Reps.same e t)
end
theorem Reps.ints:∀(ns:Ac Ab),Reps K H (ns.map V.int) (ns.map PyData.int)
 | []=>.nil
 | n :: ns=>.cons (.int n) (Reps.ints ns)
end
section
variable {X:Cx} {pins:Ac (Ad × A2)} {σ:St} {H:Hp} {s:Aj}
mutual
theorem Inv.reads (I:Inv X pins σ H s):∀{x:V} {d:Ca},Rep X.K H x d->∀{v:Ah},AQ x v->∃as,Reads s.heap v d as
 | _,_,.non,v,r=>by cases (show v=BQ from r);exact ⟨_,.none⟩
 | _,_,.bl b,v,r=>by cases (show v=C0 b from r);exact ⟨_,.bool b⟩
 | _,_,.int i,v,r=>by obtain ⟨t,e⟩:=(show ∃t,v=GT i t from r);cases e;exact ⟨_,.int i t⟩
 | _,_,.str x,v,r=>by obtain ⟨t,e⟩:=(show ∃t,v=IR x t from r);cases e;exact ⟨_,.str x t⟩
 | _,_,.lst (a:=a) h rs,v,r=>by
   cases (show v=AO a from r)
   obtain ⟨its,rv,⟨o,n,e1,e2,_,e4⟩,_⟩:=I.list h;obtain ⟨as,q⟩:=Inv.readsAll I rs rv;exact ⟨_,.list e1 e2 e4 q⟩
 | _,_,.tup (a:=a) h rs,v,r=>by
   cases (show v=AO a from r)
   obtain ⟨its,rv,⟨o,e1,e2,n,e4⟩,_⟩:=I.tuple h;obtain ⟨as,q⟩:=Inv.readsAll I rs rv;exact ⟨_,.tuple e1 e2 e4 q⟩
theorem Inv.readsAll (I:Inv X pins σ H s):∀{xs:Ac V} {ds:Ac Ca},Reps X.K H xs ds->∀{vs:Ac Ah},AU xs vs->∃as,ReadsAll s.heap vs ds as
 | _,_,.nil,_,.nil=>⟨_,.nil⟩
 | _,_,.cons r t,_,.cons q u=>by
   obtain ⟨a1,h1⟩:=Inv.reads I r q;obtain ⟨a2,h2⟩:=Inv.readsAll I t u;exact ⟨_,.cons h1 h2⟩
end
noncomputable def Abx (K:A8):R2:=fun x y H Q=>∃d e,Rep K H x d/\Rep K H y e/\Gj d=Af/\Gj e=Af/\Q (.bl (FH d e)) H
noncomputable def Abz (K:A8):R2:=fun x y H Q=>∃d e,Rep K H x d/\Rep K H y e/\Gj d=Af/\Gj e=Af/\Q (.bl (!PyData.eqv d e)) H
theorem Js {K:A8} (hu:X.A.units+64 < cLine) (hK:X.K=K:=by rfl):OpR X (Cj .Eq) (Abx K):=by
 subst hK;intro pins s σ H x y v u Q I rx ry h;obtain ⟨d,e,hx,hy,s1,s2,q⟩:=h;obtain ⟨as,r1⟩:=I.reads hx rx;obtain ⟨bs,r2⟩:=I.reads hy ry;exact eq_dataH r1 r2 s1 s2 hu ⟨.bl _,H,I,rfl,q⟩
theorem R4 {K:A8} (hu:X.A.units+64 < cLine) (hK:X.K=K:=by rfl):OpR X (Cj .NotEq) (Abz K):=by
 subst hK;intro pins s σ H x y v u Q I rx ry h;obtain ⟨d,e,hx,hy,s1,s2,q⟩:=h;obtain ⟨as,r1⟩:=I.reads hx rx;obtain ⟨bs,r2⟩:=I.reads hy ry;exact ne_dataH r1 r2 s1 s2 hu ⟨.bl _,H,I,rfl,q⟩
end
end L2
namespace L2
open PySem PySem.W PySem.Spec PyProof.Rows
section
variable {O:KeyOrd} {ky:Ae->O.α} {n:Ae} {cmp:Ae->Ae->(AI->Aj->Prop)->Aj->Prop} {J:Aj->Prop}
noncomputable def kk (ky:Ae->O.α) (p:AL Ae) (i:Ae):O.α:=ky (p.getD i 0)
noncomputable def Srt (ky:Ae->O.α) (p:AL Ae) (m:Ae):Prop:=∀i j,i<=j->j < m->O.kle (kk ky p i) (kk ky p j)
noncomputable def Fal (ky:Ae->O.α) (p:AL Ae) (m:Ae):Prop:=∀i j,i<=j->j < m->O.kle (kk ky p j) (kk ky p i)
noncomputable def Prm (n:Ae) (p:AL Ae):Prop:=p.toList.Perm (Bo n)
noncomputable def Fj (O:KeyOrd) (ky:Ae->O.α) (n:Ae) (cmp:Ae->Ae->(AI->Aj->Prop)->Aj->Prop) (J:Aj->Prop):Prop :=
 ∀i j (C:AI->Aj->Prop) s,i < n->j < n->J s->(∀s',J s'->C (O.blt (ky i) (ky j)) s')->cmp i j C s
theorem Prm.size {p:AL Ae} (h:Prm n p):p.size=n:=by
 have:=h.length_eq;rw [D6] at this;exact this
theorem Prm.lt {p:AL Ae} (h:Prm n p) {k:Ae} (hk:k < n):p.getD k 0 < n:=by
 have hz:=h.size;have e:p.getD k 0=p[k]'(by omega):=by simp [Hn,hz,hk]
 rw [e];exact mem_range.mp (h.mem_iff.mp (by simp))
theorem Prm.rev {p:AL Ae} (h:Prm n p) (i j:Ae):Prm n (IU p i j):=(mirror_perm p i j _).toList.trans h
theorem Prm.bub {p:AL Ae} (h:Prm n p) (k d:Ae):Prm n (bubble p k d):=(bubble_perm p k d).toList.trans h
theorem Jf {p q:AL Ae} {i j:Ae} (e:p[i]?=q[j]?):p.getD i 0=q.getD j 0:=by
 rw [V2,V2,e]
theorem HZ {p:AL Ae} {i j:Ae} (hj:j<=p.size) (k:Ae):kk ky (IU p i j) k=if i<=k/\k < j then kk ky p (i+j - 1 - k) else kk ky p k:=by
 have e:=getElem?_mirror_all (xs:=p) (i:=i) hj k;unfold kk IU;by_cases c:i<=k/\k < j
 ·rw [Ar c] at e ⊢;rw [Jf e]
 ·rw [Ao c] at e ⊢;rw [Jf e]
theorem QM {p:AL Ae} {src d:Ae} (hs:src < p.size) (hd:d<=src) (k:Ae) :
 kk ky (bubble p src d) k=if k=src - d then kk ky p src else if src - d < k/\k<=src then kk ky p (k - 1) else kk ky p k:=by
 have e:=getElem?_bubble hs d hd k;unfold kk;by_cases c:k=src - d
 ·rw [Ar c] at e ⊢;rw [Jf e]
 ·rw [Ao c] at e ⊢;by_cases c2:src - d < k/\k<=src
  ·rw [Ar c2] at e ⊢;rw [Jf e]
  ·rw [Ao c2] at e ⊢;rw [Jf e]
theorem Srt.succ {p:AL Ae} {m:Ae} (h:Srt ky p m) (h1:1<=m) (c:O.kle (kk ky p (m - 1)) (kk ky p m)):Srt ky p (m+1):=fun i j hij hj=>by
 by_cases e:j=m
 ·subst e;by_cases e2:i=j
  ·subst e2;exact FA _
  ·exact GG (h i (j - 1) (by omega) (by omega)) c
 ·exact h i j hij (by omega)
theorem Fal.succ {p:AL Ae} {m:Ae} (h:Fal ky p m) (h1:1<=m) (c:O.kle (kk ky p m) (kk ky p (m - 1))):Fal ky p (m+1):=fun i j hij hj=>by
 by_cases e:j=m
 ·subst e;by_cases e2:i=j
  ·subst e2;exact FA _
  ·exact GG c (h i (j - 1) (by omega) (by omega))
 ·exact h i j hij (by omega)
theorem Srt.one {p:AL Ae}:Srt ky p 1:=fun i j hij hj=>by
 have:i=j:=by omega
 subst this;exact FA _
theorem Fal.rev {p:AL Ae} {m:Ae} (hz:m<=p.size) (h:Fal ky p m):Srt ky (IU p 0 m) m:=fun i j hij hj=>by
 rw [HZ hz,HZ hz,Ar ⟨Br _,by omega⟩,Ar ⟨Br _,hj⟩];exact h _ _ (by omega) (by omega)
theorem Fal.revEq {p:AL Ae} {i j m:Ae} (hz:j<=p.size) (hm:j<=m) (h:Fal ky p m) (eq:∀a b,i<=a->a < j->i<=b->b < j->O.kle (kk ky p a) (kk ky p b)):Fal ky (IU p i j) m:=fun a b hab hb=>by
 rw [HZ hz,HZ hz];by_cases c1:i<=a/\a < j
 ·rw [Ar c1];by_cases c2:i<=b/\b < j
  ·rw [Ar c2];exact eq _ _ (by omega) (by omega) (by omega) (by omega)
  ·rw [Ao c2];exact h _ _ (by omega) hb
 ·rw [Ao c1];by_cases c2:i<=b/\b < j
  ·rw [Ar c2];exact h _ _ (by omega) (by omega)
  ·rw [Ao c2];exact h _ _ hab hb
theorem MV (ac:Fj O ky n cmp J) {p:AL Ae} (hp:Prm n p) {R:Ae->Aj->Prop}:∀(f a:Ae) (s:Aj),1<=a->a+f<=n->Srt ky p a->J s ->
 (∀m s',a<=m->m<=a+f->Srt ky p m->(m < a+f->O.klt (kk ky p m) (kk ky p (m - 1)))->J s'->R m s')->(kas_asc p f a).kasWp cmp R s
 | 0,a,s,h1,hz,hs,hJ,k=>k a s (A1 _) (A1 _) hs (fun h=>Aw h (C' _)) hJ
 | f+1,a,s,h1,hz,hs,hJ,k=>by
   refine ac _ _ _ s (hp.lt (by omega)) (hp.lt (by omega)) hJ fun s' hJ'=>?_
   cases e:O.blt (ky (p.getD a 0)) (ky (p.getD (a - 1) 0)) with
   | true =>
     dsimp only;rw [Ar rfl];exact k a s' (A1 _) (by omega) hs (fun _=>e) hJ'
   | false =>
     dsimp only;rw [Ao Bl];refine MV ac hp f (a+1) s' (by omega) (by omega) (hs.succ h1 e) hJ' fun m s2 l1 l2 q1 q2 q3=>?_;exact k m s2 (by omega) (by omega) q1 (fun h=>q2 (by omega)) q3
theorem K8 (ac:Fj O ky n cmp J) {R:AL Ae × Ae × Ae->Aj->Prop}:∀(f:Ae) (p:AL Ae) (m q:Ae) (s:Aj),Prm n p->q+1<=m->m+f<=n->Fal ky p m ->
 (∀a b,m - (q+1)<=a->a < m->m - (q+1)<=b->b < m->O.kle (kk ky p a) (kk ky p b))->J s ->
 (∀p' m' q' s',Prm n p'->q'+1<=m'->m<=m'->m'<=m+f->Fal ky p' m'->(∀a b,m' - (q'+1)<=a->a < m'->m' - (q'+1)<=b->b < m'->O.kle (kk ky p' a) (kk ky p' b))->J s'->R (p',m',q') s') ->
 (kas_desc f p m q).kasWp cmp R s
 | 0,p,m,q,s,hp,hq,hz,hf,he,hJ,k=>k p m q s hp hq (A1 _) (A1 _) hf he hJ
 | f+1,p,m,q,s,hp,hq,hz,hf,he,hJ,k=>by
   have hsz:=hp.size;refine ac _ _ _ s (hp.lt (by omega)) (hp.lt (by omega)) hJ fun s' hJ'=>?_
   cases e:O.blt (ky (p.getD m 0)) (ky (p.getD (m - 1) 0)) with
   | true =>
     dsimp only;rw [Ar rfl];have hf':Fal ky p (m+1):=hf.succ (by omega) (LN e)
     have one:∀p':AL Ae,∀a b,m+1 - (0+1)<=a->a < m+1->m+1 - (0+1)<=b->b < m+1->O.kle (kk ky p' a) (kk ky p' b):=fun p' a b _ _ _ _=>by
      have:a=b:=by omega
      subst this;exact FA _
     by_cases c:q > 0
     ·rw [Ar c];refine K8 ac f (IU p (m - (q+1)) m) (m+1) 0 s' (hp.rev _ _) (by omega) (by omega) (hf'.revEq (by omega) (by omega) he) (one _) hJ' fun p' m' q' s2 a1 a2 a3 a4 a5 a6 a7=>?_;exact k p' m' q' s2 a1 a2 (by omega) (by omega) a5 a6 a7
     ·rw [Ao c];refine K8 ac f p (m+1) 0 s' hp (by omega) (by omega) hf' (one _) hJ' fun p' m' q' s2 a1 a2 a3 a4 a5 a6 a7=>?_;exact k p' m' q' s2 a1 a2 (by omega) (by omega) a5 a6 a7
   | false =>
     dsimp only;rw [Ao Bl];refine ac _ _ _ s' (hp.lt (by omega)) (hp.lt (by omega)) hJ' fun s2 hJ2=>?_
     cases e2:O.blt (ky (p.getD (m - 1) 0)) (ky (p.getD m 0)) with
     | true =>
       dsimp only;rw [Ar rfl];exact k p m q s2 hp hq (A1 _) (by omega) hf he hJ2
     | false =>
       dsimp only;rw [Ao Bl];have g1:O.kle (kk ky p (m - 1)) (kk ky p m):=e;have g2:O.kle (kk ky p m) (kk ky p (m - 1)):=e2;refine K8 ac f p (m+1) (q+1) s2 hp (by omega) (by omega) (hf.succ (by omega) g2) (fun a b a1 a2 b1 b2=>?_) hJ2 fun p' m' q' s3 c1 c2 c3 c4 c5 c6 c7=>?_
       ·by_cases ea:a=m
        ·by_cases eb:b=m
         ·rw [ea,eb];exact FA _
         ·rw [ea];exact GG g2 (he (m - 1) b (by omega) (by omega) (by omega) (by omega))
        ·by_cases eb:b=m
         ·rw [eb];exact GG (he a (m - 1) (by omega) (by omega) (by omega) (by omega)) g1
         ·exact he a b (by omega) (by omega) (by omega) (by omega)
       ·exact k p' m' q' s3 c1 c2 (by omega) (by omega) c5 c6 c7
theorem UZ (ac:Fj O ky n cmp J) {p:AL Ae} (hp:Prm n p) {m nrem:Ae} {R:Ae × AL Ae->Aj->Prop} {s:Aj} (h1:1<=m) (h2:m<=nrem) (h3:nrem<=n) (hf:Fal ky p m) (hJ:J s)
 (k:∀m' p' s',1<=m'->m'<=nrem->Prm n p'->Srt ky p' m'->J s'->R (m',p') s'):(kas_tail3 m nrem p).kasWp cmp R s:=by
 have hsz:=hp.size;unfold kas_tail3;rw [JS];refine MV ac (hp.rev 0 m) (nrem - m) m s h1 (by omega) (hf.rev (by omega)) hJ fun m' s' a1 a2 a3 _ a5=>?_;exact k m' _ s' (by omega) (by omega) (hp.rev _ _) a3 a5
theorem Qi (ac:Fj O ky n cmp J) {p:AL Ae} (hp:Prm n p) {m nrem:Ae} {R:Ae × AL Ae->Aj->Prop} {s:Aj} (h2:m+1<=nrem) (h3:nrem<=n) (hf:Fal ky p (m+1)) (hJ:J s)
 (k:∀m' p' s',1<=m'->m'<=nrem->Prm n p'->Srt ky p' m'->J s'->R (m',p') s'):(kas_descPart m nrem p).kasWp cmp R s:=by
 unfold kas_descPart;rw [JS];refine K8 ac (nrem - (m+1)) p (m+1) 0 s hp (by omega) (by omega) hf (fun a b _ _ _ _=>?_) hJ fun p' m' q' s' a1 a2 a3 a4 a5 a6 a7=>?_
 ·have:a=b:=by omega
  subst this;exact FA _
 ·have hsz:=a1.size;dsimp only;by_cases c:q' > 0
  ·rw [Ar c];exact UZ ac (a1.rev _ _) (by omega) (by omega) h3 (a5.revEq (by omega) (A1 _) a6) a7 k
  ·rw [Ao c];exact UZ ac a1 (by omega) (by omega) h3 a5 a7 k
theorem Yx (ac:Fj O ky n cmp J) {p:AL Ae} (hp:Prm n p) {R:Ae × AL Ae->Aj->Prop} {s:Aj} (h1:1<=n) (hJ:J s)
 (k:∀m' p' s',1<=m'->m'<=n->Prm n p'->Srt ky p' m'->J s'->R (m',p') s'):(kas_count n p).kasWp cmp R s:=by
 have hsz:=hp.size;unfold kas_count;rw [JS];refine MV ac hp (n - 1) 1 s (A1 _) (by omega) Srt.one hJ fun m s' a1 a2 a3 a4 a5=>?_;by_cases c:m=n
 ·rw [Ar (by simpa using c)];exact k m p s' a1 (by omega) hp a3 a5
 ·rw [Ao (by simpa using c)];have lt:=a4 (by omega);by_cases c1:m > 1
  ·rw [Ar c1];refine ac _ _ _ s' (hp.lt (by omega)) (hp.lt (by omega)) a5 fun s2 hJ2=>?_
   cases e:O.blt (ky (p.getD 0 0)) (ky (p.getD (m - 1) 0)) with
   | true =>
     dsimp only;rw [Ar rfl];exact k m p s2 a1 (by omega) hp a3 hJ2
   | false =>
     dsimp only;rw [Ao Bl];have g:O.kle (kk ky p (m - 1)) (kk ky p 0):=e
     have eq:∀a b,a < m->b < m->O.kle (kk ky p a) (kk ky p b):=fun a b ha hb =>
      GG (a3 a (m - 1) (by omega) (by omega)) (GG g (a3 0 b (by omega) hb))
     refine Qi ac (hp.rev 0 m) (by omega) (A1 _) ?_ hJ2 k;intro i j hij hj;rw [HZ (by omega),HZ (by omega)];by_cases cj:j < m
     ·rw [Ar ⟨Br _,cj⟩,Ar ⟨Br _,by omega⟩];exact eq _ _ (by omega) (by omega)
     ·have ej:j=m:=by omega
      subst ej;rw [Ao (by omega)];by_cases ci:i < j
      ·rw [Ar ⟨Br _,ci⟩];exact GG (LN lt) (eq _ _ (by omega) (by omega))
      ·rw [Ao (by omega)];have:i=j:=by omega
       subst this;exact FA _
  ·rw [Ao c1];have em:m=1:=by omega
   subst em;refine Qi ac hp (by omega) (A1 _) ?_ a5 k
   have f1:Fal ky p 1:=fun i j hij hj=>by
    have:i=j:=by omega
    subst this;exact FA _
   exact f1.succ (A1 _) (LN lt)
theorem NK (ac:Fj O ky n cmp J) {p:AL Ae} (hp:Prm n p) {t:Ae} (ht:t < n) {R:Ae->Aj->Prop}:∀(f l r:Ae) (s:Aj),l<=r->r<=t->r - l<=f->(∀i,i < l->O.kle (kk ky p i) (kk ky p t))->(∀i,r<=i->i < t->O.klt (kk ky p t) (kk ky p i)) ->
 Srt ky p t->J s->(∀l' s',l'<=t->(∀i,i < l'->O.kle (kk ky p i) (kk ky p t))->(∀i,l'<=i->i < t->O.klt (kk ky p t) (kk ky p i))->J s'->R l' s')->(kas_place p t f l r).kasWp cmp R s
 | 0,l,r,s,h1,h2,h3,h4,h5,_,hJ,k=>k l s (by omega) h4 (fun i a b=>h5 i (by omega) b) hJ
 | f+1,l,r,s,h1,h2,h3,h4,h5,hs,hJ,k=>by
   unfold kas_place;by_cases c:l>=r
   ·rw [Ar c];exact k l s (by omega) h4 (fun i a b=>h5 i (by omega) b) hJ
   ·rw [Ao c];refine ac _ _ _ s (hp.lt ht) (hp.lt (by omega)) hJ fun s' hJ'=>?_
    cases e:O.blt (ky (p.getD t 0)) (ky (p.getD ((l+r) / 2) 0)) with
    | true =>
      dsimp only;rw [Ar rfl];have g:O.klt (kk ky p t) (kk ky p ((l+r) / 2)):=e;exact NK ac hp ht f l ((l+r) / 2) s' (by omega) (by omega) (by omega) h4 (fun i a b=>KeyOrd.klt_of_klt_of_kle g (hs _ _ a b)) hs hJ' k
    | false =>
      dsimp only;rw [Ao Bl];have g:O.kle (kk ky p ((l+r) / 2)) (kk ky p t):=e;exact NK ac hp ht f ((l+r) / 2+1) r s' (by omega) h2 (by omega) (fun i a=>GG (hs i ((l+r) / 2) (by omega) (by omega)) g) h5 hs hJ' k
theorem PK (ac:Fj O ky n cmp J) {R:AL Ae->Aj->Prop}:∀(f:Ae) (p:AL Ae) (t:Ae) (s:Aj),Prm n p->t+f=n->Srt ky p t->J s->(∀p' s',Prm n p'->Srt ky p' n->J s'->R p' s')->(kas_bin f p t).kasWp cmp R s
 | 0,p,t,s,hp,hz,hs,hJ,k=>k p s hp (by have:t=n:=by omega
                                       subst this;exact hs) hJ
 | f+1,p,t,s,hp,hz,hs,hJ,k=>by
   have hsz:=hp.size;unfold kas_bin;rw [JS];refine NK ac hp (by omega) t 0 t s (Br _) (A1 _) (by omega) (fun i h=>Aw h (W6 _)) (fun i a b=>Aw b (by omega)) hs hJ fun l s' a1 a2 a3 hJ'=>?_;refine PK ac f (bubble p t (t - l)) (t+1) s' (hp.bub _ _) (by omega) ?_ hJ' k;intro i j hij hj;have el:t - (t - l)=l:=by omega
   rw [QM (by omega) (by omega),QM (by omega) (by omega),el];by_cases ci:i=l
   ·rw [Ar ci];by_cases cj:j=l
    ·rw [Ar cj];exact FA _
    ·rw [Ao cj,Ar ⟨by omega,by omega⟩];exact LN (a3 _ (by omega) (by omega))
   ·rw [Ao ci];by_cases ci2:l < i/\i<=t
    ·rw [Ar ci2,Ao (by omega),Ar ⟨by omega,by omega⟩];exact hs _ _ (by omega) (by omega)
    ·rw [Ao ci2];by_cases cj:j=l
     ·rw [Ar cj];exact a2 _ (by omega)
     ·rw [Ao cj];by_cases cj2:l < j/\j<=t
      ·rw [Ar cj2];exact hs _ _ (by omega) (by omega)
      ·rw [Ao cj2];exact hs _ _ hij (by omega)
theorem T7 (ac:Fj O ky n cmp J) {R:AL Ae->Aj->Prop} {s:Aj} (h1:1<=n) (hJ:J s) (k:∀p s',Prm n p->Srt ky p n->J s'->R p s'):(kas_sort n).kasWp cmp R s:=by
 unfold kas_sort;rw [JS];refine Yx ac (Hs _) h1 hJ fun m p s' a1 a2 a3 a4 a5=>?_;dsimp only;by_cases c:m < n
 ·rw [Ar c];have e:max m 1=m:=by omega
  rw [e];exact PK ac (n - m) p m s' a3 (by omega) a4 a5 k
 ·rw [Ao c];have e:m=n:=by omega
  subst e;exact k p s' a3 a4 a5
end
end L2
namespace L2
open PySem PySem.W PySem.Spec PyProof.Rows
theorem EA:∀a b:Ac Ab,HT.lexLt a b=decide (a < b)
 | [],[]=>by simp [HT.lexLt]
 | [],_ :: _=>by simp [HT.lexLt]
 | _ :: _,[]=>by simp [HT.lexLt]
 | x :: xs,y :: ys=>by
   rw [HT.lexLt_cons,EA xs ys];by_cases e:x=y
   ·subst e;rw [Ar rfl];simp [V_]
   ·rw [Ao e];simp [V_,e]
noncomputable def Jm:KeyOrd where
 α:=Ac Ab
 blt a b:=HT.lexLt a b
 irrefl a:=by rw [EA];simpa using OE a
 trans a b c h1 h2:=by
  rw [EA] at *;simp only [Gk] at *;exact Wj h1 h2
 negTrans a b c h:=by
  rw [EA] at h;rw [EA,EA];simp only [Gk] at *;by_cases hab:a < b
  ·exact .inl hab
  ·exact .inr (List.lt_of_le_of_lt (List.not_lt.mp hab) h)
 total a b h1 h2:=by
  rw [EA] at *;simp only [Kk] at *;exact List.le_antisymm (List.not_lt.mp h2) (List.not_lt.mp h1)
noncomputable def Dr (h:AD) (v:Ah) (ns:Ac Ab):Prop:=∃a its,v=.ref a/\IsTup h a its/\C_ its.toList ns
section
variable {prog:A9} {w:A3} {A:AR} {E:Ah->Aj->Prop} {s:Aj} {Q:AI->Aj->Prop}
theorem Sx {fin bb:AI}:∀{vs us:Ac Ah} {ns ms:Ac Ab} (i:Ae),C_ vs ns->C_ us ms->Q (HT.lexLt ns ms) s->fin=decide (vs.length < us.length)->KatLex prog w A bb fin Q (vs.zip us) i s
 | _,_,_,_,i,.nil,.nil,h,e=>by
   refine kat_nil ?_;rw [e];exact h
 | _,_,_,_,i,.nil,.cons _ _ _,h,e=>by
   refine kat_nil ?_;rw [e];simpa [HT.lexLt] using h
 | _,_,_,_,i,.cons _ _ _,.nil,h,e=>by
   refine kat_nil ?_;rw [e];simpa [HT.lexLt] using h
 | _,_,_,_,i,.cons (vs:=vs) (ns:=ns) x t hv,.cons (vs:=us) (ns:=ms) y u hu,h,e=>by
   refine kat_cons (X2 (kat_go (fun c=>?_) (fun c=>?_)))
   ·have xy:x=y:=by simpa using c
    subst xy;refine kat_yes (Sx (i+1) hv hu ?_ ?_)
    ·simpa [HT.lexLt] using h
    ·rw [e];simp
   ·have xy:¬ x=y:=by simpa using c
    refine kat_no ?_;have h':Q (decide (x < y)) s:=by simpa [HT.lexLt,xy] using h
    cases (bb && i == 0) with
    | true=>exact oneLt_int h'
    | false=>exact kat_one _ _ (lt_int h')
noncomputable def PC (κ:SortKind):Prop:=(∃b,κ=tuples' b)\/κ=general'\/κ=oneType'
theorem AbF {κ:SortKind} {x y:Ah} {ns ms:Ac Ab} (hk:PC κ) (hx:Dr s.heap x ns) (hy:Dr s.heap y ms) (hu:A.units < cLine) (h:Q (HT.lexLt ns ms) s):Au (A6 prog w) A (keyLt' κ x y) Q E s:=by
 obtain ⟨a,its,rfl,ta,ia⟩:=hx;obtain ⟨b,jts,rfl,tb,ib⟩:=hy;rcases hk with ⟨bb,rfl⟩ | rfl | rfl
 ·obtain ⟨o,ho,hc,n,hd⟩:=ta;obtain ⟨o2,ho2,hc2,n2,hd2⟩:=tb;exact kat_lt ho hd ho2 hd2 (Sx 0 ia ib h (by simp))
 ·exact kat_one _ _ (HT.lt_tupInts ta tb ia ib hu h)
 ·rw [keyLt'_oneType,oneLt'_eq];simp only [Kl];refine An (wpAny_cRoomFor hu ?_);obtain ⟨⟨cls,dd,data,sl⟩,ho,hc,n,hd⟩:=id ta;obtain ⟨⟨cls2,dd2,data2,sl2⟩,ho2,hc2,n2,hd2⟩:=id tb;simp only at hc hd hc2 hd2;subst hc hd hc2 hd2;refine An (wpAny_callSpecialIfBound?_slot (T:="tuple") ⟨_,ho,rfl⟩ OV (Ki OV ⟨_,ho,rfl⟩ WL (WJ _ _) (HT.tuple_lt_ints a b its jts n n2 dd dd2 sl sl2 ns ms ia ib) ⟨ho,ho2,?_⟩));exact FI h
theorem Zk:∀{l:Ac Ah} {ns:Ac Ab},C_ l ns->∀{v:Ah},l[0]?=Aa v->∃n t,v=GT n t
 | _,_,.nil,v,e=>by simp at e
 | _,_,.cons n t _,v,e=>⟨n,t,by simpa using e.symm⟩
theorem Rb {α β:Type} {f:α->CQ β}:∀(l:Ac α) {R:Ac β->Aj->Prop},(∀v∈l,∀(Q':β->Aj->Prop),(∀r,Q' r s)->Au (A6 prog w) A (f v) Q' E s)->(∀rs,R rs s)->Au (A6 prog w) A (l.mapM f) R E s
 | [],_,_,h=>by
   rw [Wl];exact Ay (h [])
 | x :: l,R,hf,h=>by
   rw [Wk];exact An (hf x (.head _) _ fun r=>An (Rb l (R:=fun bs s'=>Au (A6 prog w) A (pure (r :: bs)) R E s') (fun v hv=>hf v (.tail _ hv)) fun rs=>Ay (h _)))
theorem Rx {l:Ac Ah} {R:A5 Ah->Aj->Prop} (hf:∀v∈l,∀(Q':Ah->Aj->Prop),(∀r,Q' r s)->Au (A6 prog w) A (typeOf v) Q' E s) (h:∀r,R r s):Au (A6 prog w) A (oneTypeOnly' l.toArray) R E s:=by
 rw [oneTypeOnly'_eq,Wm,Xp];refine An (An (Rb l hf fun rs=>Ay ?_))
 cases rs.toArray[0]? with
 | none=>exact Ay (h _)
 | some t=>exact Ay (h _)
theorem AbC {rows:Ac (Ac Ab)}:∀{vs:Ac Ah},Cq (Dr s.heap) vs rows->∀{R:Ac (A5 Ah)->Aj->Prop},(∀fs,fs.length=vs.length->(∀f∈fs,∀v,f=Aa v->∃n t,v=GT n t)->R fs s) ->
 Au (A6 prog w) A (vs.mapM firstOfTuple') R E s:=by
 intro vs hp
 induction hp with
 | nil =>
   intro R h;rw [Wl];exact Ay (h [] rfl (fun f m=>nomatch m))
 | cons hx hr ih =>
   intro R h;obtain ⟨a,its,rfl,⟨o,ho,hc,n,hd⟩,ia⟩:=hx;rw [Wk];refine An ?_;rw [kas_first_eq];refine An (Looks.here (show Looks (A6 prog w) s.heap (typeOf (.ref a)) o.cls from (Looks.ld ho).andThen .now) ?_);rw [hc,Ao (by first | decide | simp)];refine An (MB ho hd (Ay ?_));refine An (ih fun fs l1 l2=>Ay (h _ (by rw [BP,BP,l1]) fun f m v e=>?_));rcases mem_cons.mp m with m | m
   ·subst m;have e':its.toList[0]?=Aa v:=by simpa using e
    exact Zk ia e'
   ·exact l2 f m v e
theorem AbE {vs:Ac Ah} {rows:Ac (Ac Ab)} (hp:Cq (Dr s.heap) vs rows) {R:SortKind->Aj->Prop} (h:∀κ,PC κ->R κ s):Au (A6 prog w) A (keyKind' vs.toArray) R E s:=by
 rw [kat_kind_eq,Wm,Xp];refine An (An (AbC hp fun fs l1 l2=>Ay ?_));by_cases c:(fs.toArray.all fun x=>x.isSome)=Af
 ·rw [Ar c];refine An (IZ ?_);have e:fs.toArray.filterMap id=(fs.filterMap id).toArray:=by simp
  rw [e];refine An (Rx (fun v hv Q' hq=>?_) fun r=>Ay (h _ (.inl ⟨_,rfl⟩)));obtain ⟨f,fm,fe⟩:=mem_filterMap.mp hv;obtain ⟨n,t,rfl⟩:=l2 f fm v fe;exact MJ (a:=Dp "int") rfl (hq _)
 ·rw [Ao c];by_cases c2:(fs.toArray[0]?.bind id).isSome=Af
  ·rw [Ar c2];exact Ay (h _ (.inr (.inl rfl)))
  ·rw [Ao c2];refine An (Rx (fun v hv Q' hq=>?_) fun r=>?_)
   ·obtain ⟨ns,hr⟩:∃ns,Dr s.heap v ns:=by
     clear l1 l2 c c2
     induction hp with
     | nil=>cases hv
     | cons hx _ ih =>
       rcases mem_cons.mp hv with m | m
       ·exact ⟨_,m ▸ hx⟩
       ·exact ih m
    obtain ⟨a,its,rfl,⟨o,ho,hc,n,hd⟩,ia⟩:=hr;exact Looks.here (show Looks (A6 prog w) s.heap (typeOf (.ref a)) o.cls from (Looks.ld ho).andThen .now) (hq _)
   ·cases r with
    | none=>exact Ay (h _ (.inr (.inl rfl)))
    | some t=>exact Ay (h _ (.inr (.inr rfl)))
theorem ND {α β:Type} {R:α->β->Prop} (d:α) (e:β):∀{xs:Ac α} {ys:Ac β},Cq R xs ys->∀i,i < xs.length->R (xs.getD i d) (ys.getD i e)
 | _,_,.nil,i,h=>Aw h (W6 _)
 | _,_,.cons r _,0,_=>r
 | _,_,.cons _ t,i+1,h=>ND d e t i (by simpa using h)
theorem ZT (vs:Ac Ah):(Bo vs.length).map (fun i=>vs.getD i BQ)=vs:=by
 apply JU
 ·simp
 ·intro i h1 h2;simp [h2]
theorem Dr.keep {h h':AD} {v:Ah} {ns:Ac Ab} (x:Dr h v ns) (k:∀b o,o.cls=.type "tuple"->h.get? b=Aa o->h'.get? b=Aa o):Dr h' v ns:=by
 obtain ⟨a,its,rfl,⟨o,ho,hc,n,hd⟩,ia⟩:=x;exact ⟨a,its,rfl,⟨o,k a o hc ho,hc,n,hd⟩,ia⟩
theorem Sy {a:Ad} {vs:Ac Ah} {rows:Ac (Ac Ab)} {n:Ae} {P:OW->Aj->Prop} (ho:s.heap.get? a=Aa (seqObj "list" vs.toArray n)) (hp:Cq (Dr s.heap) vs rows) (h64:vs.length < 64) (hu:A.units < cLine)
 (h:∀p:AL Ae,Prm vs.length p->Srt (O:=Jm) (fun i=>rows.getD i []) p vs.length->P (.done (.ret .none)) { s with heap:=sortedHeap s.heap a vs (Fe (p.toList.map fun i=>vs.getD i BQ)) }) :
 Au (A6 prog w) A (CZ.«list.sort» ⟨[.ref a],[]⟩) P E s:=by
 rw [list_sort_plain];have ha:a < s.heap.objs.size:=A_ ho;refine An (MB ho rfl ?_);refine An (HK ho rfl ?_);obtain ⟨e1,ho1⟩:∃e1,(s.heap.update a (Co fun _=>#[])).get? a=Aa (seqObj "list" #[] e1):=⟨_,get?_update_seq ho (fun _=>#[])⟩;refine An (Kn ho1 rfl ?_);refine An (wpAny_newTuple ?_);refine An (IY ?_);refine Dq ?_
 have ho6:(((s.heap.update a (Co fun _=>#[])).push (seqObj "tuple" vs.toArray 0)).push (seqObj "list" #[] 0)).get? a=Aa (seqObj "list" #[] e1):=by
  rw [LC _ _ _ (by rw [size_push',LD];exact B1 (ON ha)),LC _ _ _ (by rw [LD];exact B1 ha)];exact ho1
 have hp6:Cq (Dr (((s.heap.update a (Co fun _=>#[])).push (seqObj "tuple" vs.toArray 0)).push (seqObj "list" #[] 0))) vs rows:=Paired.mapP hp fun v ns x=>x.keep fun b o hc e=>by
  have hb:b≠a:=fun z=>by
   rw [z,ho] at e
   cases e
   exact Aw (show Dp "list"=Dp "tuple" from hc) (by decide)
  exact Bv _ (Bv _ ((Gc _ _ (BF hb)).trans e))
 show Au (A6 prog w) A _ P E { s with heap:=((s.heap.update a (Co fun _=>#[])).push (seqObj "tuple" vs.toArray 0)).push (seqObj "list" #[] 0) };dsimp only;have hsz:vs.toArray.size=vs.length:=by simp
 by_cases h2:vs.toArray.size < 2
 ·rw [Ar h2,Ar h2];refine An (Ay ?_);rw [Xi];refine An (Ay ?_);dsimp only;refine An (Kn ho6 rfl ?_);refine An (HK ho6 rfl ?_ (hsz2:=by rw [Array.size_map];show (pairsOf vs).size<=_;rw [pairsOf_size,CC];omega));simp only [Pp,CY,C6]
  have hh:=h (Bo vs.length).toArray (Hs _) (fun i j hij hj=>by
   have:i=j:=by omega
   subst this;exact FA _)
  rw [show (Bo vs.length).toArray.toList.map (fun i=>vs.getD i BQ)=vs from ZT vs] at hh
  have e:(arrOf (SortSt.mk' general' (vs.toArray.zip vs.toArray) #[] 7 Ai)).map (·.2)=vs.toArray:=by
   show (vs.toArray.zip vs.toArray).map (·.2)=vs.toArray;apply Array.ext
   ·simp
   ·intro i h1 h2;simp
  refine Ay ?_;have hh':=hh;rw [<- e] at hh';exact hh'
 ·rw [Ao h2,Ao h2];refine An (AbE hp6 fun κ hκ=>?_)
  have ac:Fj Jm (fun i=>rows.getD i []) vs.length (kas_ask prog w A κ vs) (fun s'=>s'={ s with heap:=((s.heap.update a (Co fun _=>#[])).push (seqObj "tuple" vs.toArray 0)).push (seqObj "list" #[] 0) }):=by
   intro i j C s' hi hj e k;subst e;exact AbF hκ (ND BQ [] hp6 i hi) (ND BQ [] hp6 j hj) hu (k _ rfl)
  refine An (DM (kat_run (ks:=vs) (vs:=vs) (Q:=fun st' s'=>∃p:AL Ae,arrOf st'=p.map (kas_item (vs.toArray.zip vs.toArray))/\failedOf st'=Ai/\s'={ s with heap:=((s.heap.update a (Co fun _=>#[])).push (seqObj "tuple" vs.toArray 0)).push (seqObj "list" #[] 0) }/\Prm vs.length p/\Srt (O:=Jm) (fun i=>rows.getD i []) p vs.length)
   (G:=fun p s'=>s'={ s with heap:=((s.heap.update a (Co fun _=>#[])).push (seqObj "tuple" vs.toArray 0)).push (seqObj "list" #[] 0) }/\Prm vs.length p/\Srt (O:=Jm) (fun i=>rows.getD i []) p vs.length)
   rfl (by omega) h64 (fun p st' s' _ a2 a3 g=>⟨p,a2,a3,g⟩) (T7 ac (by omega) rfl fun p s' q1 q2 e=>⟨e,q1,q2⟩)) ?_ fun _ _ e=>e)
  rintro ⟨⟨⟩,st'⟩ s' ⟨p,har,hf,rfl,q1,q2⟩;dsimp only;have hout:=kat_snds rfl har;refine An (Kn ho6 rfl ?_);rw [hout];refine An (HK ho6 rfl ?_ (hsz2:=by rw [BJ,At,Ec,q1.size,CC];omega));rw [hf];simp only [Pp,CY,C6];exact Ay (h p q1 q2)
theorem Ab_ {l:Ad} {vs:Ac Ah} {rows:Ac (Ac Ab)} {R:Ah->Aj->Prop} (hl:s.heap.IsList l vs.toArray) (hp:Cq (Dr s.heap) vs rows) (h64:vs.length < 64) (hu:A.in1.in1.units < cLine)
 (h:∀p:AL Ae,Prm vs.length p->Srt (O:=Jm) (fun i=>rows.getD i []) p vs.length->R (.ref (s.heap.objs.size+1)) { s with heap:=sortedAll s.heap vs (Fe (p.toList.map fun i=>vs.getD i BQ)) }) :
 Au (A6 prog w) A (call (.builtin "sorted") [.ref l]) R E s:=by
 refine VB M9 MC M8 (args_sorted1 _) ?_;unfold CZ.«sorted»;refine An (m:=checkCount "sorted" 1 1 _) (Ay ?_);refine An (collect_list hl ?_);refine An (IY ?_)
 have hsz:((s.heap.push (seqObj "list" #[] 0)).update s.heap.objs.size (Co (·++vs.toArray))).objs.size=s.heap.objs.size+1:=by
  rw [LD,size_push']
 have hoL:(((s.heap.push (seqObj "list" #[] 0)).update s.heap.objs.size (Co (·++vs.toArray))).push (seqObj "list" vs.toArray 0)).get? (s.heap.objs.size+1)=Aa (seqObj "list" vs.toArray 0):=by
  rw [<- hsz];exact BD _ rfl
 have hp6:Cq (Dr (((s.heap.push (seqObj "list" #[] 0)).update s.heap.objs.size (Co (·++vs.toArray))).push (seqObj "list" vs.toArray 0))) vs rows:=Paired.mapP hp fun v ns x=>x.keep fun b o hc e =>
  Bv _ ((Gc _ _ (BF (B1 (A_ e)))).trans (Bv _ e))
 show Au _ _ _ _ _ { s with heap:=((s.heap.push (seqObj "list" #[] 0)).update s.heap.objs.size (Co (·++vs.toArray))).push (seqObj "list" vs.toArray 0) };rw [hsz];refine An (Dq (EK MF ⟨_,hoL,rfl⟩ M7 (Sy hoL hp6 h64 hu fun p a1 a2=>⟨_,rfl,?_⟩) (args_list_sort _)));exact Ay ⟨_,rfl,h p a1 a2⟩
end
section
variable {X:Cx}
theorem Yn:De X (.builtin "sorted") (fun xs H Q=>∃(a:Ad) (ns:Ac Ab),xs=[.ref a]/\SqL X.K H a (ns.map V.int)/\ns.length < 64 /\
 ∀(l:Ad) (ms:Ac Ab),ms.Perm ns->ms.Pairwise (·<=·)->H l=Ai->Q (.ref l) (upd H l (.lst (ms.map V.int)))):=by
 intro pins s σ H xs us Q I r h;obtain ⟨a,ns,rfl,hq,h64,q⟩:=h;obtain ⟨u,rfl,rx⟩:=Ew r
 cases rx
 obtain ⟨its,rv,pl,hz⟩:=I.list hq;have hlen:=rv.length;rw [At] at hlen;refine sorted_ints pl.isList (E9 rv) (by omega) fun out ms i1 i2 i3=>?_;obtain ⟨e,he⟩:=sortedAll_at s.heap its out;have hfr:H (s.heap.objs.size+1)=Ai:=I.hok.fresh (Dl _);refine ⟨.ref _,_,I.laid (t':=s.toks) (fun b o hb=>sortedAll_old hb) (Dl _) (show Bi X.prog X.w _ _ _ (.lst (ms.map V.int)) from ⟨?_,out.toList,e,Lw i1,he⟩),rfl,q _ ms i2 i3 hfr⟩;rw [At,i2.length_eq,CC];omega
theorem Ss:∀{as:Ac Ad} {us:Ac Ah},AU (as.map V.ref) us->us=as.map AO
 | [],_,.nil=>rfl
 | a :: as,_,.cons r t=>by
   cases (show _=AO a from r)
   rw [Ss t];rfl
theorem Lx:∀as:Ac Ad,AU (as.map V.ref) (as.map AO)
 | []=>.nil
 | a :: as=>.cons rfl (Lx as)
theorem Yo (hu:X.A.units+64 < cLine):De X (.builtin "sorted") (fun xs H Q=>∃(a:Ad) (qs:Ac (Ad × Ac Ab)),xs=[.ref a]/\SqL X.K H a (qs.map fun q=>V.ref q.1)/\(∀q∈qs,SqT X.K H q.1 (q.2.map V.int))/\qs.length < 64 /\
 ∀(l:Ad) (rs:Ac (Ad × Ac Ab)),rs.Perm qs->rs.Pairwise (fun x y=>HT.lexLt y.2 x.2=Aq)->H l=Ai->Q (.ref l) (upd H l (.lst (rs.map fun q=>V.ref q.1)))):=by
 intro pins s σ H xs us Q I r h;obtain ⟨a,qs,rfl,hq,hr,h64,q⟩:=h;obtain ⟨u,rfl,rx⟩:=Ew r
 cases rx
 obtain ⟨its,rv,pl,hz⟩:=I.list hq;have rv':AU ((qs.map (·.1)).map V.ref) its:=by rw [Bf];exact rv
 have ei:=Ss rv';have hlen:its.length=qs.length:=by rw [ei,At,At]
 have hp:Cq (Dr s.heap) its (qs.map (·.2)):=by
  rw [ei];clear ei rv rv' pl hlen hq hz h64 q
  induction qs with
  | nil=>exact .nil
  | cons q0 qr ih =>
    refine .cons ?_ (ih fun q m=>hr q (Bc _ m));obtain ⟨jts,rj,tj,_⟩:=I.tuple (hr q0 (AV ..));exact ⟨q0.1,jts.toArray,rfl,tj,by simpa using E9 rj⟩
 refine Ab_ pl.isList hp (by omega) (by show X.A.units+1+1 < cLine;omega) fun p a1 a2=>?_;obtain ⟨e,he⟩:=sortedAll_at s.heap its (Fe (p.toList.map fun i=>its.getD i BQ));have hfr:H (s.heap.objs.size+1)=Ai:=I.hok.fresh (Dl _);have hps:=a1.size
 have lt:∀i∈p.toList,i < qs.length:=fun i m=>by
  have:=mem_range.mp (a1.mem_iff.mp m);omega
 let rs:=p.toList.map fun i=>qs.getD i (0,[])
 have eo:(p.toList.map fun i=>its.getD i BQ)=(rs.map (·.1)).map AO:=by
  show _=((p.toList.map fun i=>qs.getD i (0,[])).map (·.1)).map AO;rw [Bf,Bf];refine E1 fun i m=>?_;have hi:=lt i m;rw [ei];simp [hi]
 rw [eo] at he ⊢
 have pm:rs.Perm qs:=by
  have e1:(Bo its.length).map (fun i=>qs.getD i ((0:Ad),([]:Ac Ab)))=qs:=by
   apply JU
   ·simp [hlen]
   ·intro i h1 h2;simp [h2]
  have:=VW (fun i=>qs.getD i ((0:Ad),([]:Ac Ab))) a1;rw [e1] at this;exact this
 refine ⟨.ref _,_,I.laid (t':=s.toks) (fun b o hb=>sortedAll_old hb) (Dl _) (show Bi X.prog X.w _ _ _ (.lst (rs.map fun q=>V.ref q.1)) from ⟨?_,(rs.map (·.1)).map AO,e,?_,he⟩),rfl,q _ rs pm ?_ hfr⟩
 ·rw [At,pm.length_eq,CC];omega
 ·have:=Lx (rs.map (·.1));rw [Bf] at this;exact this
 ·rw [Mc];intro i j hi hj hij;have hi':i < p.size:=by simpa [rs] using hi
  have hj':j < p.size:=by simpa [rs] using hj
  have g:=a2 i j (by omega) (by omega)
  have gi:(qs.map (·.2)).getD (p.getD i 0) []=(rs[i]).2:=by
   have l1:=lt p[i] (by simp);simp [rs,Hn,hi',l1]
  have gj:(qs.map (·.2)).getD (p.getD j 0) []=(rs[j]).2:=by
   have l1:=lt p[j] (by simp);simp [rs,Hn,hj',l1]
  have g2:HT.lexLt ((qs.map (·.2)).getD (p.getD j 0) []) ((qs.map (·.2)).getD (p.getD i 0) [])=Aq:=g;rw [gi,gj] at g2;exact g2
end
end L2
namespace L2
open PySem PySem.W PySem.Spec PyProof.Rows
noncomputable def D9 (h:AD) (d:Ad) (es:AL DG) (ep:Ae):Prop:=∃o,h.get? d=Aa o/\o.ExactDict/\o.data=.dict es ep
theorem D9.at {h h':AD} {d:Ad} {es:AL DG} {ep:Ae} (x:D9 h d es ep) (e:∀o,h.get? d=Aa o->h'.get? d=Aa o):D9 h' d es ep:=let ⟨o,ho,r⟩:=x;⟨o,e _ ho,r⟩
theorem D9.lt {h:AD} {d:Ad} {es:AL DG} {ep:Ae} (x:D9 h d es ep):d < h.objs.size:=let ⟨_,ho,_⟩:=x;A_ ho
theorem D9.typeIs {s:Aj} {d:Ad} {es:AL DG} {ep:Ae} (x:D9 s.heap d es ep):s.TypeIs (.ref d) "dict":=let ⟨o,ho,hc,_⟩:=x;⟨o,ho,hc.1⟩
section
variable {prog:A9} {w:A3} {A:AR} {E:Ah->Aj->Prop} {s:Aj} {d:Ad} {es:AL DG} {ep:Ae}
theorem Ab4 {Q:Ah->Aj->Prop} (hd:(d == Cr)=Aq) (hm:D9 s.heap d es ep)
 (hQ:Q (.ref s.heap.objs.size) { s with heap:=s.heap.push { cls:=.type "dict_keyiterator",data:=.fields #[.ref d,.int 0 0,.int es.size 0,.int ep 0] } }):Au (A6 prog w) A (pyIter (.ref d)) Q E s:=by
 have hT:=hm.typeIs;obtain ⟨o,ho,hc,hdat⟩:=id hm;refine XA hT VH (EK VH hT F.entry_dict_iter ?_ (F.args_dict_iter_1 _));unfold CZ.«dict.__iter__»;refine An ?_;unfold Builtin.Dict.dictSlotNone;refine An (Ks hT ?_);show Au _ _ (pure (AO d)) _ _ s;refine Ay ?_;show Au _ _ (Iw d >>= _) _ _ s;unfold Iw;rw [Ao (by rw [hd];exact Bl)];refine An (Ay ?_);refine An (Gn ho hdat ?_);refine An (IV ho hdat ?_);refine An (Fi (Ay ⟨_,rfl,"dict_keyiterator",_,⟨_,BD _ rfl,rfl⟩,F.slot_dict_keyiterator_next.lookup,?_⟩));simpa [rawInt] using hQ
theorem Ab5 {it:Ad} {i:Ae} {e:DG} {Q:A5 Ah->Aj->Prop} (hit:s.heap.IsKeyIter it d i es.size ep) (hm:D9 s.heap d es ep) (hx:es[i]?=Aa e)
 (hQ:∀h',h'.IsKeyIter it d (i+1) es.size ep->Ey it s.heap h'->Q (Aa e.key) { s with heap:=h' }):Au (A6 prog w) A (pyNext (.ref it)) Q E s:=by
 obtain ⟨o,ho,hc,hd⟩:=id hit;obtain ⟨od,hod,hcd,hdd⟩:=id hm;unfold pyNext
 refine An (Kp (MG (name:=A0 "__next__") hit.typeIs L8
  (EK L8 hit.typeIs VF ?_ (VC _))))
 refine An (Ay ?_);refine An ?_;refine An ?_
 first | refine An (MO hit.typeIs (Ay ?_)) | refine An (MQ hit.typeIs (Ay ?_))
 refine An (IW ho hd ?_);have hown:JN "dict_keyiterator"=Aq:=by decide
 simp only [hown,CY,C6];show Au _ _ (if (AO d == BQ)=Af then _ else _) _ _ s;rw [Ao (show ¬ ((AO d == BQ)=Af) from Bl)];refine An (Ay ?_);refine An (Gn hod hdd ?_);rw [Ao (by simp)];refine An (Ay ?_);refine An (IV hod hdd ?_);rw [Ao (by simp)];refine Ay ?_;simp only [show ¬ ((i:Ab) < 0) from by omega,C6,B7,hx];refine An ?_
 first | refine An (MO hit.typeIs (Ay ?_)) | refine An (MQ hit.typeIs (Ay ?_))
 refine An (X6 hit.typeIs ?_);show Au _ _ (setField (.ref it) 1 (rawInt ((i:Ab)+1)) >>= _) _ _ s;refine An (ML ho hd (by simp) ?_)
 have hit':(s.heap.update it (Mo (·.setIfInBounds 1 (rawInt ((i:Ab)+1))))).IsKeyIter it d (i+1) es.size ep :=
  ⟨_,Hr _ ho (WB (Mn hd _)),(W9 ..).trans hc,by rw [Mn hd];simp [rawInt]⟩
 refine An (Dq ?_);refine An (X6 (s:={ s with heap:=s.heap.update it (Mo (·.setIfInBounds 1 (rawInt ((i:Ab)+1)))) }) hit'.typeIs ?_);show Au _ _ (pure e.key) _ _ _;exact Ay (Ay ⟨_,rfl,Ay (hQ _ hit' (IA ..))⟩)
theorem Ab3 {it:Ad} {i:Ae} {Q:A5 Ah->Aj->Prop} (hh:A.handled=Ai) (hit:s.heap.IsKeyIter it d i es.size ep) (hm:D9 s.heap d es ep) (hx:es.size<=i)
 (hQ:∀h',Heap.ExtBut it s.heap h'->Q Ai { s with heap:=h' }):Au (A6 prog w) A (pyNext (.ref it)) Q E s:=by
 obtain ⟨o,ho,hc,hd⟩:=id hit;obtain ⟨od,hod,hcd,hdd⟩:=id hm;unfold pyNext
 refine An (Kp (MG (name:=A0 "__next__") hit.typeIs L8
  (EK L8 hit.typeIs VF ?_ (VC _))))
 refine An (Ay ?_);refine An ?_;refine An ?_
 first | refine An (MO hit.typeIs (Ay ?_)) | refine An (MQ hit.typeIs (Ay ?_))
 refine An (IW ho hd ?_);have hown:JN "dict_keyiterator"=Aq:=by decide
 simp only [hown,CY,C6];show Au _ _ (if (AO d == BQ)=Af then _ else _) _ _ s;rw [Ao (show ¬ ((AO d == BQ)=Af) from Bl)];refine An (Ay ?_);refine An (Gn hod hdd ?_);rw [Ao (by simp)];refine An (Ay ?_);refine An (IV hod hdd ?_);rw [Ao (by simp)];refine Ay ?_;simp only [show ¬ ((i:Ab) < 0) from by omega,C6,B7,V4 hx];refine An ?_
 first | refine An (MO hit.typeIs (Ay ?_)) | refine An (MQ hit.typeIs (Ay ?_))
 show Au _ _ (setField (.ref it) 0 .none >>= _) _ _ s;refine An (ML ho hd (by simp) ?_);show Au _ _ (newExc (.type "StopIteration") [] >>= _) _ _ _;refine An ?_;simp only [newExc,newTuple];refine An (Fi ?_ (by size_fits));refine An (m:=firstArgMember _ _) (MJ (a:=BQ) (by first | rfl | (simp only [firstArgMember];rfl)) ?_);refine Fi ?_ (by size_fits);simp only [raiseNew];refine An (wpAny_handled ?_);rw [show A.in1.handled=Ai from hh];refine An (Ay (wpAny_throw ?_));refine An (Kr (T:="StopIteration") (b:=Af) ⟨_,BD _ rfl,rfl⟩ isSubtype_stop ?_);exact Ay (hQ _ (((IA ..).extBut.push _).push _))
theorem Ab6 (hh:A.handled=Ai) (I:Ad) (hne:d≠I):Walks prog w A I [I,d] [I] es.size (fun i v=>∃e,es[i]?=Aa e/\v=e.key) (fun i h=>h.IsKeyIter I d i es.size ep/\D9 h d es ep) where
 sub:=fun b hb=>by simp at hb;simp [hb]
 frame:=fun _ _ _ st hk=>⟨st.1.at fun o e=>hk I (by simp) o e,st.2.at fun o e=>hk d (by simp) o e⟩
 item:=fun i s Q E hi st hQ=>by
  obtain ⟨e,hx⟩:∃e,es[i]?=Aa e:=⟨es[i],by simp [hi]⟩;refine Ab5 st.1 st.2 hx fun h' hit' hs'=>?_;exact hQ e.key h' s.toks ⟨e,hx,rfl⟩ ⟨hit',st.2.at fun o q=>hs'.extBut d o hne q⟩ fun b o hb q=>hs'.extBut b o (fun h=>hb (by simp [h])) q
 done:=fun s Q E st hQ=>Ab3 hh st.1 st.2 (A1 _) fun h' he'=>hQ h' s.toks fun b o hb q=>he' b o (fun h=>hb (by simp [h])) q
 self:=fun _ _ _ _ st hQ=>wpAny_pyIter_keyiter st.1 hQ
theorem Sl (lo:(d == Cr)=Aq):KdlSrc prog w "dict" d d es.size (fun i v=>∃e,es[i]?=Aa e/\v=e.key) (fun h=>D9 h d es ep) where
 type:=fun _ hm=>hm.typeIs
 there:=fun _ hm=>⟨hm.lt,hm.lt⟩
 keep:=fun _ _ hm hk=>hm.at fun o e=>hk d (.inl rfl) o e
 notList:=by decide
 notTuple:=by decide
 hint:=fun _ _ _ _ hm hq=>kdl_hint_dict hm.typeIs hq
 iter:=fun _ s hh hm=>⟨_,_,(fun _ _ hq=>Ab4 lo hm hq),Ab6 hh _ (B1 hm.lt),⟨⟨_,BD _ rfl,rfl,rfl⟩,hm.at fun o e=>Bv _ e⟩⟩
theorem Sk {acc:AL Ah} (h:ItemsOf (fun i v=>∃e,es[i]?=Aa e/\v=e.key) acc es.size):acc=es.map (·.key):=by
 obtain ⟨h1,h2⟩:=h;apply Array.ext
 ·simpa using h1
 ·intro i hi hj;obtain ⟨e,he,hk⟩:=h2 i acc[i] (by simp [hi]);have hi':i < es.size:=by omega
  rw [V3 hi'] at he;rw [hk,Array.getElem_map,Bn he]
theorem Sj {R:Ac Ah->Aj->Prop} (lo:(d == Cr)=Aq) (hm:D9 s.heap d es ep) (hh:A.handled=Ai) (hn:es.size<=AB)
 (h:∀(h':AD) (tk:Ae),(∀b o,s.heap.get? b=Aa o->h'.get? b=Aa o)->s.heap.objs.size < h'.objs.size->R (es.toList.map (·.key)) { s with heap:=h',toks:=tk }) :
 Au (A6 prog w) A (collect (.ref d)) R E s:=by
 have hlt:=hm.lt;unfold collect;refine An (wpAny_runValue (Kj entry_proto_collect' ?_));rw [JL PySem.F.plain_proto_collect _];show Au _ A.in1 (newList [] >>= fun l=>again (.builtin "list.__iadd__" ⟨[l,.ref d],[]⟩)) _ _ s;refine An (Fi ?_);refine Ay ⟨Km WN _,Kj entry_list_iadd' ?_⟩;rw [JL WN _];have hS₁:(s.heap.push { cls:=.type "list",data:=.seq ([]:Ac Ah).toArray }).get? s.heap.objs.size=Aa { cls:=.type "list",data:=.seq #[] }:=BD _ rfl;show Au _ A.in1 (Builtin.List.listExtendWith (.ref s.heap.objs.size) (.ref d) (.ref s.heap.objs.size)) _ _ _
 have key:=kdl_extend (A:=A) (s:={ s with heap:=s.heap.push { cls:=.type "list",data:=.seq ([]:Ac Ah).toArray } })
  (R:=fun (q:IQ) (s':Aj)=>∃(h':AD) (tk c':Ae),q=.ok (.ret (.ref s.heap.objs.size))/\s'={ s with heap:=h',toks:=tk } /\
   (∀b o,s.heap.get? b=Aa o->h'.get? b=Aa o)/\h'.get? s.heap.objs.size=Aa { cls:=.type "list",dict:=Ai,data:=.seq (es.map (·.key)) c',slots:=#[] })
  (Sl (prog:=prog) (w:=w) (es:=es) (ep:=ep) lo) hh (hm.at fun o e=>Bv _ e) s.heap.objs.size (IJ hlt) (IJ hlt) (.ref s.heap.objs.size) 0 hS₁
  (fun h' tk acc' c' hk hS' hacc=>⟨h',tk,c',rfl,rfl,fun b o e=>hk b o (B1 (A_ e)) (Bv _ e),by rw [<- Sk hacc];exact hS'⟩) hn
 refine DM key (fun fin s' x=>?_) fun e s' x=>?_
 ·cases fin with
  | done f =>
    obtain ⟨h',tk,c',e,rfl,hk,hS'⟩:=x
    cases e
    show Au _ A (load s.heap.objs.size >>= _) _ _ _;refine An (P2 hS' ?_);have:=h h' tk hk (A_ hS');rw [<- Os] at this;exact Ay this
  | again c₁ =>
    refine ⟨x.1,HJ x.2 fun q s₂ y=>?_⟩;obtain ⟨h',tk,c',rfl,rfl,hk,hS'⟩:=y;show Au _ A (load s.heap.objs.size >>= _) _ _ _;refine An (P2 hS' ?_);have:=h h' tk hk (A_ hS');rw [<- Os] at this;exact Ay this
 ·obtain ⟨_,_,_,e',_⟩:=x
  cases e'
theorem AbY {vs:Ac Ah} (lo:(d == Cr)=Aq) (hm:D9 s.heap d es ep) (hz:es.size<=1000) (hh:A.handled=Ai) (hv:es.toList.map (·.key)=vs) {R:Ah->Aj->Prop}
 (h:∀(h':AD) (tk:Ae) (a:Ad),(∀b o,s.heap.get? b=Aa o->h'.get? b=Aa o/\b≠a)->s.heap.objs.size<=a->h'.get? a=Aa (seqObj "list" vs.toArray 0) ->
  Au (A6 prog w) A.in1.in1 (CZ.«list.sort» ⟨[.ref a],[]⟩) (fun fin s'=>∃v,fin=.done (.ret v)/\R (.ref a) s') E { s with heap:=h',toks:=tk }) :
 Au (A6 prog w) A (call (.builtin "sorted") [.ref d]) R E s:=by
 refine VB M9 MC M8 (args_sorted1 _) ?_;unfold CZ.«sorted»;refine An (m:=checkCount "sorted" 1 1 _) (Ay ?_);refine An (Sj (A:=A.in1) lo hm hh (by rw [CC];omega) fun h' tk hk ge=>?_);rw [hv];have hl:vs.length<=1000:=by rw [<- hv,At,Ec];exact hz
 refine An (IY ?_ (by rw [CC];omega));have ho:(h'.push (seqObj "list" vs.toArray 0)).get? h'.objs.size=Aa (seqObj "list" vs.toArray 0):=BD _ rfl;refine An (Dq (EK MF ⟨_,ho,rfl⟩ M7 ?_ (args_list_sort _)));refine DM (h _ tk h'.objs.size (fun b o e=>⟨Bv _ (hk b o e),B1 (A_ (hk b o e))⟩) (DK ge) ho) (fun fin s' x=>?_) fun _ _ x=>x;obtain ⟨v,rfl,q⟩:=x;exact ⟨_,rfl,Ay ⟨_,rfl,q⟩⟩
end
section
variable {X:Cx}
theorem QN {H:Hp}:∀{kvs:Ac (Ac Key × V)} {xs:Ac (Ac Key × Ad × Ah)} {ks:Ac (Ac Ab)},KT H kvs xs->kvs.map (·.1)=ks.map (FF AH) ->
 ∃qs:Ac (Ad × Ac Ab),xs.map (fun x=>AO x.2.1)=(qs.map (·.1)).map AO/\qs.map (·.2)=ks/\∀q∈qs,H q.1=Aa (.tup (q.2.map V.int)):=by
 intro kvs xs ks r
 induction r generalizing ks with
 | nil =>
   intro e
   cases ks with
   | nil=>exact ⟨[],rfl,rfl,fun _ m=>Aw m Bm⟩
   | cons _ _=>cases e
 | @cons p q ps qr hq t ih =>
   intro e
   cases ks with
   | nil=>cases e
   | cons k ks =>
     injection e with e1 e2
     obtain ⟨qs,a1,a2,a3⟩:=ih e2;refine ⟨(q.2.1,k) :: qs,?_,?_,fun x m=>?_⟩
     ·rw [Bg,a1];rfl
     ·rw [Bg,a2]
     ·rcases mem_cons.mp m with m | m
      ·subst m;have h:=hq.2.1;have e1':p.1=k.map AH:=e1;rw [e1',Bf] at h;exact h
      ·exact a3 x m
theorem PY (hc:X.calm=Af) (hu:X.A.units+64 < cLine):De X (.builtin "sorted") (fun xs H Q=>∃(d:Ad) (kvs:Ac (Ac Key × V)) (ks:Ac (Ac Ab)),xs=[.ref d]/\Rd H d (.dT kvs)/\kvs.map (·.1)=ks.map (FF AH)/\ks.length < 64 /\
 ∀(l:Ad) (rs:Ac (Ad × Ac Ab)),(∀q∈rs,H q.1=Aa (.tup (q.2.map V.int)))->(rs.map (·.2)).Perm ks->rs.Pairwise (fun x y=>HT.lexLt y.2 x.2=Aq)->H l=Ai->Q (.ref l) (upd H l (.lst (rs.map fun q=>V.ref q.1)))):=by
 intro pins s σ H xs us Q I r h;obtain ⟨d,kvs,ks,rfl,hd,hks,h64,q⟩:=h;obtain ⟨u,rfl,rx⟩:=Ew r
 cases rx
 obtain ⟨_,lo,xs,kt,o,es,ep,h1,h2,h3,h4,_,_⟩:=G_ I.hok hd;obtain ⟨qs,b1,b2,b3⟩:=QN kt hks
 have hv:es.toList.map (·.key)=(qs.map (·.1)).map AO:=by
  rw [h4,Bf,<- b1];rfl
 have hql:qs.length=ks.length:=by rw [<- b2,At]
 have hes:es.size=qs.length:=by
  have:=Bx BM hv;simpa using this
 have hp:Cq (Dr s.heap) ((qs.map (·.1)).map AO) (qs.map (·.2)):=by
  clear hv hql hes b1 b2
  induction qs with
  | nil=>exact .nil
  | cons q0 qr ih =>
    refine .cons ?_ (ih fun q m=>b3 q (Bc _ m));obtain ⟨jts,rj,tj,_⟩:=I.tuple (SqT.of (b3 q0 (AV ..)));exact ⟨q0.1,jts.toArray,rfl,tj,by simpa using E9 rj⟩
 refine AbY lo ⟨o,h1,h2,h3⟩ (by omega) (I.ok.hd hc) hv fun h' tk a kp ge ho=>?_;have hp':Cq (Dr h') ((qs.map (·.1)).map AO) (qs.map (·.2)):=Paired.mapP hp fun v ns x=>x.keep fun b o _ e=>(kp b o e).1;have ll:((qs.map (·.1)).map AO).length=qs.length:=by rw [At,At]
 refine Sy (s:={ s with heap:=h',toks:=tk }) ho hp' (by omega) (by show X.A.units+1+1 < cLine;omega) fun p a1 a2=>⟨_,rfl,?_⟩;obtain ⟨e,he⟩:=sortedHeap_at (out:=Fe (p.toList.map fun i=>((qs.map (·.1)).map AO).getD i BQ)) ho;have hfr:H a=Ai:=I.hok.fresh ge;have hps:=a1.size
 have lt:∀i∈p.toList,i < qs.length:=fun i m=>by
  have:=mem_range.mp (a1.mem_iff.mp m);omega
 let rs:=p.toList.map fun i=>qs.getD i (0,[])
 have eo:(p.toList.map fun i=>((qs.map (·.1)).map AO).getD i BQ)=(rs.map (·.1)).map AO:=by
  show _=((p.toList.map fun i=>qs.getD i (0,[])).map (·.1)).map AO;simp only [Bf];refine E1 fun i m=>?_;have hi:=lt i m;simp [hi]
 rw [eo] at he ⊢
 have pm:rs.Perm qs:=by
  have e1:(Bo ((qs.map (·.1)).map AO).length).map (fun i=>qs.getD i ((0:Ad),([]:Ac Ab)))=qs:=by
   rw [ll];apply JU
   ·simp
   ·intro i h1 h2;simp [h2]
  have:=VW (fun i=>qs.getD i ((0:Ad),([]:Ac Ab))) a1;rw [e1] at this;exact this
 refine ⟨.ref _,_,I.laid (t':=tk) (fun b o hb=>?_) ge (show Bi X.prog X.w _ _ _ (.lst (rs.map fun q=>V.ref q.1)) from ⟨?_,(rs.map (·.1)).map AO,e,?_,he⟩),rfl,q _ rs (fun q m=>b3 q (pm.mem_iff.mp m)) (by rw [<- b2];exact pm.map _) ?_ hfr⟩
 ·obtain ⟨k1,k2⟩:=kp b o hb;rw [sortedHeap_old k2 (A_ k1)];exact k1
 ·rw [At,pm.length_eq,CC];omega
 ·have:=Lx (rs.map (·.1));rw [Bf] at this;exact this
 ·rw [Mc];intro i j hi hj hij;have hi':i < p.size:=by simpa [rs] using hi
  have hj':j < p.size:=by simpa [rs] using hj
  have g:=a2 i j (by omega) (by omega)
  have gi:(qs.map (·.2)).getD (p.getD i 0) []=(rs[i]).2:=by
   have l1:=lt p[i] (by simp);simp [rs,Hn,hi',l1]
  have gj:(qs.map (·.2)).getD (p.getD j 0) []=(rs[j]).2:=by
   have l1:=lt p[j] (by simp);simp [rs,Hn,hj',l1]
  have g2:HT.lexLt ((qs.map (·.2)).getD (p.getD j 0) []) ((qs.map (·.2)).getD (p.getD i 0) [])=Aq:=g;rw [gi,gj] at g2;exact g2
theorem Zj {P:A9} {w:A3} {kvs:Ac (Key × V)} {vs:Ac (Key × Ah)} (r:KV kvs vs):∀{es:Ac DG} {ns:Ac Ab},Pairs (BO P w) es vs->kvs.map (·.1)=ns.map AH->C_ (es.map (·.key)) ns:=by
 intro es ns hp e;rw [r.keys] at e;clear r
 induction hp generalizing ns with
 | nil =>
   cases ns with
   | nil=>exact .nil
   | cons _ _=>cases e
 | @cons ent kv es' vs' h _ t ih =>
   cases ns with
   | nil=>cases e
   | cons n ns =>
     injection e with e1 e2
     have e1':kv.1=AH n:=e1;have hk:=h;rw [e1'] at hk;rcases ES (show Gz (AH n) ent.key=Af from hk) with ⟨i,t',a,b⟩ | ⟨x,t',a,_⟩
     ·cases a
      rw [Bg,b];exact .cons n t' (ih e2)
     ·cases a
theorem PU (hc:X.calm=Af):De X (.builtin "max") (fun xs H Q=>∃(a:Ad) (ns:Ac Ab),xs=[.ref a]/\SqL X.K H a (ns.map V.int)/\0 < ns.length/\∀M,M∈ns->(∀z∈ns,z<=M)->Q (.int M) H):=by
 intro pins s σ H xs us Q I r h;obtain ⟨a,ns,rfl,hq,hne,q⟩:=h;obtain ⟨u,rfl,rx⟩:=Ew r
 cases rx
 obtain ⟨its,rv,pl,hz⟩:=I.list hq;have hi:=E9 rv;obtain ⟨xs,e⟩:=hi.allInts.items
 have hns:ns=xs.toList.map (·.1):=by
  rw [<- hi.numsOf,<- nums_intItems,<- e]
 have hsz:0 < xs.size:=by
  have h3:=hne;rw [hns,At,Ec] at h3;exact h3
 have hl:=pl.isList;rw [e] at hl;refine max_intList (I.ok.hd hc) hl hsz fun v h' tk hv hk=>?_;obtain ⟨t,rfl⟩:=intItems_at hv;obtain ⟨_,h2⟩:=argBest_gt (numAt xs) (xs.size - 1);refine ⟨.int _,H,I.kept hk,⟨t,rfl⟩,q _ ?_ fun z m=>?_⟩
 ·rw [hns,numAt_eq];exact getD_mem (by rw [At,Ec];omega)
 ·rw [hns] at m;obtain ⟨j,hj,rfl⟩:=mem_getD m;rw [At,Ec] at hj;rw [<- numAt_eq];exact h2 j (by omega)
end
end L2
namespace L2
open PySem
end L2
namespace L2
open PySem PySem.W PySem.Spec PyProof.Rows
section
variable {prog:A9} {w:A3} {A:AR} {E:Ah->Aj->Prop} {s:Aj}
end
section
variable {prog:A9} {w:A3} {A:AR} {R:IQ->Aj->Prop} {I:Ad} {fp wr:Ac Ad} {G:AL JP->AL JP->Prop} {n:Ae} {P:Ae->Ah->Prop} {St:Ae->Aj->Prop}
end
section
variable {prog:A9} {w:A3} {A:AR} {E:Ah->Aj->Prop} {s:Aj}
set_option maxRecDepth 100000 in
set_option maxHeartbeats 3200000 in
end
end L2
namespace L2
open PySem PySem.W PySem.Spec PyProof.Rows
section
variable {prog:A9} {w:A3} {A:AR} {E:Ah->Aj->Prop} {s:Aj}
end
section
variable {prog:A9} {w:A3} {A:AR} {E:Ah->Aj->Prop} {s:Aj} {a:Ad} {es:AL (Ab × Ah)} {ep:Ae} {t:SetTable}
end
end L2
namespace L2
open PySem PySem.W PySem.Spec PyProof.Rows
section
variable {X:Cx} {e:A4} {te:TE} {p p2 pos pos2:Pos}
end
end L2
namespace L2
open PySem PySem.Spec PyProof.Rows
section
variable {X:Cx} {pins:Ac (Ad × A2)} {σ:St} {H:Hp} {s:Aj} {h':AD}
theorem Inv.turnedAll {t':Ae} {fp:Ac Ad} (I:Inv X pins σ H s) (k:∀b o,b ∉ fp->s.heap.get? b=Aa o->h'.get? b=Aa o) (hf:∀b∈fp,Fk X pins H b):Inv X pins σ H { s with heap:=h',toks:=t' }:=by
 have nin:∀b u,H b=Aa u->b ∉ fp:=fun b u e z=>by rw [(hf b z).1] at e;cases e
 refine I.step (g':=s.gens) (d':=s.drawn) (ch:=fp) (fun b hb=>?_) (fun b o _ _ hc e _=>k b o hc e) (fun b o _ _ hc e _=>⟨o.slots,k b o hc e⟩) (fun _ _ _ _ n=>n)
  (fun b o hc e=>⟨o,k b o hc e⟩) (fun _ _ e=>e) (fun _ _ _ e=>e) (fun b ps e=>⟨#[],by rw [e];simp⟩) (fun m hm=>?_) (fun b u e=>?_) I.bare
 ·obtain ⟨_,f1,_,f3,f4,f5⟩:=hf b hb;exact ⟨f3,f1,f4,f5⟩
 ·obtain ⟨o,es,ep,ho,r⟩:=hm;exact ⟨o,es,ep,k _ o (fun z=>(hf _ z).2.1 rfl) ho,r⟩
 ·refine (I.hok b u e).stay (fun c v hc q=>k c v ?_ q) (fun _ q=>q) fun _ _ q=>q;rcases hc with z | z
  ·rw [z];exact nin b u e
  ·exact nin c _ z
theorem Inv.laidTurned {t':Ae} {fp:Ac Ad} {a:Ad} {o:HO} (I:Inv X pins σ H s) (k:∀b u,b ∉ fp->s.heap.get? b=Aa u->h'.get? b=Aa u) (hf:∀b∈fp,Fk X pins H b) (hp:s.heap.objs.size<=a)
 (new:Bi X.prog X.w (upd H a o) h' a o):Inv X pins σ (upd H a o) { s with heap:=h',toks:=t' }:=by
 have nin:∀b u,H b=Aa u->b ∉ fp:=fun b u e z=>by rw [(hf b z).1] at e;cases e
 have hn:H a=Ai:=I.hok.fresh hp
 refine I.step (g':=s.gens) (d':=s.drawn) (ch:=fp) (fun b hb=>?_) (fun b o _ _ hc e _=>k b o hc e) (fun b o _ _ hc e _=>⟨o.slots,k b o hc e⟩)
  (fun b u _ q n=>by rw [AF (B1 (B' (A_ q) hp))];exact n)
  (fun b o hc e=>⟨o,k b o hc e⟩) (fun b xs q=>by rw [AF (Em q hn)];exact q) (fun b u xs q=>by rw [AF (Em q hn)];exact q) (fun b ps q=>⟨#[],by rw [AF (Em q hn),q];simp⟩) (fun m hm=>?_) (fun b u e=>?_) I.bare
 ·obtain ⟨_,f1,_,f3,f4,f5⟩:=hf b hb;exact ⟨f3,f1,f4,f5⟩
 ·obtain ⟨o,es,ep,ho,r⟩:=hm;exact ⟨o,es,ep,k _ o (fun z=>(hf _ z).2.1 rfl) ho,r⟩
 ·by_cases hb:b=a
  ·subst hb;rw [Az] at e;cases e;exact new
  ·rw [AF hb] at e;refine (I.hok b u e).stay (fun c v hc q=>k c v ?_ q) (fun c q=>by rw [AF (Em q hn)];exact q) fun c xs q=>by rw [AF (Em q hn)];exact q
   rcases hc with z | z
   ·rw [z];exact nin b u e
   ·exact nin c _ z
end
noncomputable def Ite (K:A8) (a:Ad):It :=
 ⟨fun i H=>∃xs x,SqL K H a xs/\xs[i]?=Aa x,fun i H x H'=>∃T y,x=.ref T/\H T=Ai/\H'=upd H T (.tup [.int (i:Ab),y])/\∀xs,SqL K H a xs->xs[i]?=Aa y,fun i H=>∃xs,SqL K H a xs/\xs.length<=i⟩
theorem AcO {P:A9} {w:A3} {K:A8} {es:Ac A4} {k:Ae} {pos:Pos} (a e it:Ad) (hne:e≠it) :
 FJ P w K (.Tuple es k pos) (Ite K a) [e,it] e (fun i h=>(∃old,IsEnum h e it (i:Ae) old)/\h.IsListIter it a i) where
 mem:=by simp
 obj:=fun i h st b hb=>by
  obtain ⟨⟨old,he⟩,o,e1,c,d⟩:=st;rcases mem_cons.mp hb with z | z
  ·subst z;exact ⟨_,he,fun v z=>by cases (show L6 _=I0 v from z)⟩
  ·have z':b=it:=by simpa using z
   subst z';exact ⟨o,e1,fun v z=>by rw [d] at z;cases z⟩
 keep:=fun i h h' st kk=>by
  obtain ⟨⟨old,he⟩,st⟩:=st;exact ⟨⟨old,kk e (by simp) _ he⟩,st.at fun o q=>kk it (by simp) o q⟩
 item:=by
  intro X hP hw hK hc i pins s σ H E I hf st hg;subst hP hw hK;obtain ⟨xs,x,hq,hx⟩:=hg;obtain ⟨its,rv,p,hz⟩:=I.list hq;obtain ⟨u,hu,ru⟩:=rv.get hx;obtain ⟨⟨old,he⟩,hit⟩:=st;refine wpAny_pyNext_enum_item he hit p.isList (x:=u) (by simpa using hu) hne fun h1 ho hit1 hT hsz hk=>⟨_,rfl,?_⟩;refine wpAny_letOwnedTupleGo_enum ho fun h2 he2 sb=>?_;have fr:H s.heap.objs.size=Ai:=I.hok.fresh (A1 _);have lte:e < s.heap.objs.size:=A_ he;have lti:it < s.heap.objs.size:=by obtain ⟨o,q,_⟩:=id hit;exact A_ q
  refine ⟨.ref s.heap.objs.size,upd H s.heap.objs.size (.tup [.int (i:Ab),x]),?_,rfl,⟨_,x,rfl,fr,rfl,fun ys hy=>by rw [I.list_inj hy hq];exact hx⟩,⟨⟨_,by simpa using he2⟩,hit1.at fun o q=>(sb.2 it (BF hne)).trans q⟩,fun b hb=>?_⟩
  ·refine I.laidTurned (fp:=[e,it]) (t':=s.toks+1) (fun b o hb q=>(sb.2 b (fun z=>hb (by simp [z]))).trans (hk b o (fun z=>hb (by simp [z])) (fun z=>hb (by simp [z])) q)) hf (A1 _) ?_;refine ⟨by show 2<=AB;decide,[.int i s.toks,u],.cons ⟨_,rfl⟩ (.cons ru .nil),⟨_,(sb.2 _ (IJ lte)).trans hT,rfl,_,rfl⟩⟩
  ·rw [AF (fun z=>?_)]
   ·exact (hf b hb).1
   ·rcases mem_cons.mp hb with q | q
    ·rw [q] at z;exact Aw lte (by rw [z];exact C' _)
    ·have q':b=it:=by simpa using q
     rw [q'] at z;exact Aw lti (by rw [z];exact C' _)
 done:=by
  intro X hP hw hK hc i pins s σ H E I hf st hg;subst hP hw hK;obtain ⟨xs,hq,hx⟩:=hg;obtain ⟨its,rv,p,hz⟩:=I.list hq;obtain ⟨f0,f1,f2,f3,f4,f5⟩:=hf it (by simp);obtain ⟨⟨old,he⟩,hit⟩:=st;have hl:=rv.length;exact wpAny_pyNext_enum_end (I.ok.hd hc) he hit p.isList (by simp;omega) fun h' eb=>⟨rfl,I.turned (t':=s.toks) (fun b o hb e=>eb b o hb e) f0 f1 f3 f4 f5⟩
 self:=fun _ _ _ _ _ st h=>by
  obtain ⟨⟨old,he⟩,_⟩:=st;exact X9 he h
section
variable {X:Cx}
noncomputable def Zb (K:A8) (ta:TA):TI:=fun σ H R=>ta σ H fun vs H1=>∃a,vs=[.ref a]/\(∃xs,SqL K H1 a xs)/\R (Ite K a) H1
theorem RN {l:A4} {ta:TA} {p pos pt:Pos} {es:Ac A4} {k:Ae} (hg:Gl X "enumerate") (hm:X.mg "enumerate"=Ai) (ha:PA X [l] ta) (hs:Bh [l] X.env=[(Aq,eval l X.env)]:=by rfl) :
 PI X (.Tuple es k pt) (.Call (.Name "enumerate" p) [l] [] pos) (Zb X.K ta):=by
 intro pins s σ H R I h;refine Call_ (Fo I hg hm boot_enumerate (Mt (thn (ha pos pins s σ H _ I h) fun us s1 ⟨vs,H1,I1,r1,q1⟩=>?_) hs rfl));obtain ⟨a,e,⟨xs,hq⟩,q⟩:=q1;subst e
 cases r1 with
 | cons r rr =>
   cases rr
   cases r
   obtain ⟨its,rv,pl,hz⟩:=I1.list hq;refine call_enumerate_list pl.isList fun h' he hit hsz hk=>?_;refine X9 (s:={ s1 with heap:=h' }) he ?_;refine ⟨s1.heap.objs.size+1,[s1.heap.objs.size+1,s1.heap.objs.size],_,_,H1,rfl,I1.kept (t':=s1.toks) hk,AcO a _ _ (Nat.succ_ne_self _),⟨⟨_,he⟩,hit⟩,fun b hb=>?_,q⟩
   have ge:s1.heap.objs.size<=b:=by
    rcases mem_cons.mp hb with z | z
    ·rw [z];exact Dl _
    ·have z':b=s1.heap.objs.size:=by simpa using z
     rw [z'];exact A1 _
   exact I1.fpOk ge (I1.hok.fresh ge)
end
theorem YJ {K:A8} {a:Ad} {xs:Ac V} {g:TG} {tb:TS} {D:D8} {σ:St} {H:Hp} (Pv:Ae->St->Hp->Prop) (h0:Pv 0 σ H) (hl:∀i σ H,i<=xs.length->Pv i σ H->SqL K H a xs)
 (hs:∀i x T σ H,xs[i]?=Aa x->Pv i σ H->H T=Ai->g (.ref T) σ (upd H T (.tup [.int (i:Ab),x])) fun σ2 H2=>tb { D with nx:=Pv (i+1),ct:=Pv (i+1),bk:=D.nx } σ2 H2) (hd:∀σ H,Pv xs.length σ H->D.nx σ H) :
 ∃W:Ae->Ae->St->Hp->Prop,(∃m,W 0 m σ H)/\∀i m σ H,W i m σ H ->
  ((Ite K a).stop i H/\D.nx σ H)\/((Ite K a).go i H/\∃N:St->Hp->Prop,(∀σ' H',N σ' H'->∃m',m' < m/\W (i+1) m' σ' H')/\∀x H',(Ite K a).yld i H x H'->g x σ H' fun σ2 H2=>tb { D with nx:=N,ct:=N,bk:=D.nx } σ2 H2):=by
 refine ⟨fun i m σ H=>m=xs.length - i/\i<=xs.length/\Pv i σ H,⟨xs.length,by simp,Br _,h0⟩,?_⟩;rintro i m σ H ⟨rfl,hi,p⟩;have q:=hl i σ H hi p;by_cases hlt:i < xs.length
 ·refine .inr ⟨⟨xs,xs[i],q,by simp [hlt]⟩,Pv (i+1),fun σ' H' p'=>⟨xs.length - (i+1),by omega,rfl,hlt,p'⟩,fun x H' y=>?_⟩;obtain ⟨T,y,rfl,hT,rfl,hy⟩:=y;exact hs i y T σ H (hy xs q) p hT
 ·have e:i=xs.length:=by omega
  subst e;exact .inl ⟨⟨xs,q,A1 _⟩,hd σ H p⟩
section
variable {X:Cx}
theorem Of:∀{bs:Ac AI} {us:Ac Ah},AU (bs.map V.bl) us->us=bs.map C0
 | [],_,.nil=>rfl
 | _ :: _,_,.cons r rr=>by
   cases r
   rw [Of rr];rfl
theorem XT (bs:Ac AI):(Bo bs.length).all (fun i=>bs.getD i Aq)=bs.all id:=by
 rw [Ho,O9,O9]
 constructor
 ·intro h b hb;obtain ⟨i,hi,rfl⟩:=mem_iff_getElem.mp hb;have:=h i (mem_range.mpr hi);simpa [BI,hi] using this
 ·intro h i hi;have hi':=mem_range.mp hi;have:=h _ (LX hi');simpa [BI,hi'] using this
theorem XY (bs:Ac AI):(Bo bs.length).any (fun i=>bs.getD i Aq)=bs.any id:=by
 rw [Ho,VY,VY]
 constructor
 ·rintro ⟨i,hi,h⟩;have hi':=mem_range.mp hi;exact ⟨_,LX hi',by simpa [BI,hi'] using h⟩
 ·rintro ⟨b,hb,h⟩;obtain ⟨i,hi,rfl⟩:=mem_iff_getElem.mp hb;exact ⟨i,mem_range.mpr hi,by simpa [BI,hi] using h⟩
theorem Vf {P:A9} {w:A3} {A:AR} {bs:Ac AI}:TruthOf P w A (fun i v=>(bs.map C0).toArray[i]?=Aa v) (fun i=>bs.getD i Aq):=by
 intro i v s Q E hP hQ;have hP':(bs.map C0)[i]?=Aa v:=by simpa using hP
 rw [Ba] at hP'
 cases e:bs[i]? with
 | none=>rw [e] at hP';cases hP'
 | some b =>
   rw [e] at hP';have:C0 b=v:=Bn hP';subst this;refine FI ?_;have e2:bs.getD i Aq=b:=by rw [BI,e];rfl
   dsimp only at hQ;rw [e2] at hQ;exact hQ
theorem Yi (hc:X.calm=Af) {K:A8} (hK:X.K=K:=by rfl):De X (.builtin "all") (fun xs H Q=>∃(a:Ad) (bs:Ac AI),xs=[.ref a]/\SqL K H a (bs.map V.bl)/\Q (.bl (bs.all id)) H):=by
 subst hK;intro pins s σ H xs us Q I r h;obtain ⟨a,bs,rfl,hq,q⟩:=h;obtain ⟨u,rfl,rx⟩:=Ew r
 cases rx
 obtain ⟨its,rv,pl,hz⟩:=I.list hq;have ei:=Of rv;subst ei;have lt:a < s.heap.objs.size:=by obtain ⟨o,q,_⟩:=pl.isList;exact A_ q
 refine call_all_walk (MK pl.isList ?_);refine ⟨_,_,_,_,_,_,_,rfl,Pn (A:=X.A.in1) (I.ok.hd hc) s.heap.objs.size a (B1 lt) (bs.map C0).toArray,⟨⟨_,BD _ rfl,rfl,rfl⟩,pl.isList.at fun o q=>Bv _ q⟩,Vf,fun h' tk hk=>?_⟩;rw [BJ,At,XT];exact ⟨.bl _,H,I.kept (t':=tk) fun b o q=>hk b o (by simpa using B1 (A_ q)) (Bv _ q),rfl,q⟩
theorem Yj (hc:X.calm=Af) {K:A8} (hK:X.K=K:=by rfl):De X (.builtin "any") (fun xs H Q=>∃(a:Ad) (bs:Ac AI),xs=[.ref a]/\SqL K H a (bs.map V.bl)/\Q (.bl (bs.any id)) H):=by
 subst hK;intro pins s σ H xs us Q I r h;obtain ⟨a,bs,rfl,hq,q⟩:=h;obtain ⟨u,rfl,rx⟩:=Ew r
 cases rx
 obtain ⟨its,rv,pl,hz⟩:=I.list hq;have ei:=Of rv;subst ei;have lt:a < s.heap.objs.size:=by obtain ⟨o,q,_⟩:=pl.isList;exact A_ q
 refine call_any_walk (MK pl.isList ?_);refine ⟨_,_,_,_,_,_,_,rfl,Pn (A:=X.A.in1) (I.ok.hd hc) s.heap.objs.size a (B1 lt) (bs.map C0).toArray,⟨⟨_,BD _ rfl,rfl,rfl⟩,pl.isList.at fun o q=>Bv _ q⟩,Vf,fun h' tk hk=>?_⟩;rw [BJ,At,XY];exact ⟨.bl _,H,I.kept (t':=tk) fun b o q=>hk b o (by simpa using B1 (A_ q)) (Bv _ q),rfl,q⟩
end
end L2
namespace L2
open PySem PySem.Spec PyProof.Rows
noncomputable def JG (n:Ae) (wi:TI) (g:TG) (tt:TT) (te:TE):TE:=fun σ H Q=>wi σ H fun J H1=>∀D,H1 D=Ai->∃W:Ae->Ae->Ac V->Hp->Prop,(∃m,W 0 m [] (upd H1 D (.lst [])))/\∀i m ys H2,W i m ys H2 ->
 H2 D=Aa (.lst ys)/\((J.stop i H2/\Q (.ref D) H2)\/(J.go i H2/\ys.length < AB/\∀x H3,J.yld i H2 x H3->∀os:St,os.length=n->g x (σ++os) H3 fun σ4 H4=>(∃os':St,σ4=σ++os'/\os'.length=n)/\tt σ4 H4 fun b H5=>if b=Af then te σ4 H5 fun y H6=>H6 D=Aa (.lst ys)/\∃m',m' < m/\W (i+1) m' (ys++[y]) (upd H6 D (.lst (ys++[y])))
  else ∃m',m' < m/\W (i+1) m' ys H5))
structure EL (N Nc:Ac Ak) (xs:Ac Ak) (sc fsc:Bu):Prop where
 kind:sc.kind=.function
 cell:∀y∈sc.names,y.2≠.cell
 nm:∀y∈sc.names,y.2=.local->sc.names.lookup y.1=Aa .local
 own:∀x∈xs,sc.names.lookup x=Aa .local
 fr:∀y∈sc.names,y.2=.free->fsc.names.lookup y.1=Aa .cell\/fsc.names.lookup y.1=Aa .free
 len:Nc.length=N.length+xs.length
 nd:Nc.Nodup
 last:Nc.drop N.length=xs
 slot:((Bo N.length).all fun i=>match Nc[i]? with
  | some y=>(match sc.names.lookup y with | some .free=>N[i]? == Aa y | some .local=>Aq | some .cell=>Aq | _=>Af)
  | none=>Af)=Af
theorem EL.at {N Nc:Ac Ak} {xs:Ac Ak} {sc fsc:Bu} (C:EL N Nc xs sc fsc) {i:Ae} {y:Ak} (hi:i < N.length) (h:Nc[i]?=Aa y):sc.names.lookup y≠Aa .local/\sc.names.lookup y≠Aa .cell/\(sc.names.lookup y=Aa .free->N[i]?=Aa y):=by
 have q:=all_eq_true.mp C.slot i (mem_range.mpr hi);rw [h] at q;dsimp only at q
 cases e:sc.names.lookup y with
 | none=>exact ⟨fun z=>(nomatch z),fun z=>(nomatch z),fun z=>(nomatch z)⟩
 | some k =>
   rw [e] at q
   cases k with
   | «local»=>exact Aw (show Aq=Af from q) Bl
   | cell=>exact Aw (show Aq=Af from q) Bl
   | free=>exact ⟨fun z=>(nomatch z),fun z=>(nomatch z),fun _=>by simpa using q⟩
   | _=>exact ⟨fun z=>(nomatch z),fun z=>(nomatch z),fun z=>(nomatch z)⟩
theorem FU {X:Cx} {N Nc xs:Ac Ak} {sc fsc:Bu} {cl:Ac (Ak × Ad)} {s:Aj} {H:Hp} {ex:Ac Ad} {x:Ak} {px:Pos} {j n:Ae} (cn:EL N Nc xs sc fsc) (hj:xs[j]?=Aa x) (hn:n=N.length+j):PG (X.inComp Nc sc cl s H ex) (.Name x px) (BS n):=by
 have own:(relabel sc X.env).names.lookup x=Aa .local:=by
  have e:=KJ X.env sc.names x;rw [cn.own x (Bt hj)] at e;exact e
 refine B5 (X:=X.inComp Nc sc cl s H ex) cn.nd ?_ (.inl own) (.inr own);show Nc[n]?=Aa x;rw [hn,<- Wf,cn.last];exact hj
theorem ZH {prog:A9} {w:A3} {A:AR} {R:IQ->Aj->Prop} {s:Aj} {elt tg iter:A4} {ifs:Ac A4} {scope:Bu} {pos:Pos} {it acc:Ah} {env:BC} (I:Ae->Aj->Prop)
 (turn:∀n s,I n s->Au (A6 prog w) A (pyNext it) (fun r s₁=>match r with
  | none=>R (.ok .next) s₁
  | some v=>Au (A6 prog w) A (letOwnedTupleGo tg it v) (fun _ z=>Au (A6 prog w) A (assign tg env v) (fun _ s₂ =>
   Au (A6 prog w) A (forIn ifs Af fun c r=>if r=Af then do let ok <- isTrue c env (eval c env);pure (F7 ok) else pure (F7 r)) (fun ok s₃ =>
    if ok=Af then Au (A6 prog w) A (eval elt env) (fun x s₄=>Au (A6 prog w) A (call (.builtin "list.append") [acc,x]) (fun _ s₅=>∃m,m < n/\I m s₅) (fun _ _=>BA) s₄) (fun _ _=>BA) s₃
    else ∃m,m < n/\I m s₃) (fun _ _=>BA) s₂) (fun _ _=>BA) z) (fun _ _=>BA) s₁) (fun _ _=>BA) s)
 (n:Ae) (h:I n s):codeAny (A6 prog w) A (.compLoop (.ListComp elt [⟨tg,iter,ifs,0⟩] scope pos) 0 it acc env) R s:=by
 refine codeAny_loop rfl I (fun k z y=>?_) n h;show Au _ A ((compTurn (.ListComp elt [⟨tg,iter,ifs,0⟩] scope pos) 0 it acc env).onRaise fun x=>do noteFrame x env;theTreesLotGoes x) _ _ z;refine wpAny_noted ?_;rw [compTurn_list];refine An (MM (An (EX (turn k z y) fun r s₁ q1=>?_)))
 cases r with
 | none=>exact Ay q1
 | some v =>
   refine An (EX q1 fun _ z q2=>An (EX q2 fun _ s₂ q3=>An (EX q3 fun ok s₃ q4=>?_)))
   cases ok with
   | false=>exact Ay ⟨rfl,q4⟩
   | true=>exact An (An (EX q4 fun x s₄ q5=>An (EX q5 fun _ s₅ q6=>Ay (Ay ⟨rfl,q6⟩))))
noncomputable def Cx.inCompG (X:Cx) (Nc:Ac Ak) (sc:Bu) (fn:Ak->AI) (ce:Ae->Ac (Ak × Ad)->Ac (Ak × Ad)) (cl:Ac (Ak × Ad)) (s:Aj) (H:Hp) (ex:Ac Ad):Cx :=
 { X with N:=Nc,s₀:=s,H₀:=H,env:=compEnvC sc (ce s.heap.objs.size cl) s.heap.objs.size X.env,outer:=X.stack,stack:=X.stack,ex:=ex,fn:=fn,pn:=[],xe:=fun _ _=>BA }
noncomputable def K5 (n:Ae) (g:TG) (tt:TT) (te:TE) (σ:St) (Q:VK) (J:It) (H1:Hp):Prop:=∀D,H1 D=Ai->∃W:Ae->Ae->Ac V->Hp->Prop,(∃m,W 0 m [] (upd H1 D (.lst [])))/\∀i m ys H2,W i m ys H2 ->
 H2 D=Aa (.lst ys)/\((J.stop i H2/\Q (.ref D) H2)\/(J.go i H2/\ys.length < AB/\∀x H3,J.yld i H2 x H3->∀os:St,os.length=n->g x (σ++os) H3 fun σ4 H4=>(∃os':St,σ4=σ++os'/\os'.length=n)/\tt σ4 H4 fun b H5=>if b=Af then te σ4 H5 fun y H6=>H6 D=Aa (.lst ys)/\∃m',m' < m/\W (i+1) m' (ys++[y]) (upd H6 D (.lst (ys++[y])))
  else ∃m',m' < m/\W (i+1) m' ys H5))
structure HN (N Nc:Ac Ak) (n:Ae) (sc fsc:Bu) (fn:Ak->AI) (ce:Ae->Ac (Ak × Ad)->Ac (Ak × Ad)):Prop where
 kind:sc.kind=.function
 nm:∀y∈sc.names,y.2=.local->sc.names.lookup y.1=Aa .local
 cell:∀y,sc.names.lookup y=Aa .cell↔fn y=Af
 fr:∀y∈sc.names,y.2=.free->fsc.names.lookup y.1=Aa .cell\/fsc.names.lookup y.1=Aa .free
 len:Nc.length=N.length+n
 slot:∀{i:Ae} {y:Ak},i < N.length->Nc[i]?=Aa y->sc.names.lookup y≠Aa .local/\sc.names.lookup y≠Aa .cell/\(sc.names.lookup y=Aa .free->N[i]?=Aa y)
 new:∀{M:Ff} {A:AR} {E:Ah->Aj->Prop} {s:Aj} {gl:Ad} {cl:Ac (Ak × Ad)} {qual:Ak} {outer:BC} {Q:BC->Aj->Prop},
  (∀h₁:AD,h₁.Ns s.heap.objs.size (fun _=>Ai)->(∀b o,s.heap.get? b=Aa o->h₁.get? b=Aa o)->(∀y c,fn y=Af->(ce s.heap.objs.size cl).lookup y=Aa c->h₁.IsCell c Ai)->Q (newEnv sc s.heap.objs.size gl (ce s.heap.objs.size cl) qual Ai .none (Aa outer) builtinsNs) { s with heap:=h₁ }) ->
  Au M A (newFunctionEnv sc gl cl [] qual Ai .none (Aa outer)) Q E s
 d1:∀{k:Ae} {cl:Ac (Ak × Ad)} {y:Ak} {c:Ad},(ce k cl).lookup y=Aa c->(fn y=Af/\k < c)\/(fn y=Aq/\cl.lookup y=Aa c)
 d2:∀{k:Ae} {cl:Ac (Ak × Ad)} {y:Ak},fn y=Aq->(ce k cl).lookup y=cl.lookup y
 d3:∀{k:Ae} {cl:Ac (Ak × Ad)} {y:Ak},fn y=Af->∃c,(ce k cl).lookup y=Aa c
 d4:∀{y z:Ak},fn y=Af->fn z=Af->y=z
section
variable {X:Cx} {elt iter:A4} {tg:A4} {g:TG} {pos:Pos} {ifs:Ac A4} {sc fsc:Bu} {N Nc:Ac Ak} {wi:TI} {tt:TT} {te:TE} {k0:Ae} {fn:Ak->AI} {ce:Ae->Ac (Ak × Ad)->Ac (Ak × Ad)} {Bd:St->VK->It->Hp->Prop}
theorem P_ (hE:X.env.scope=fsc) (hXN:X.N=N) (cn:HN N Nc k0 sc fsc fn ce) (hc:X.calm=Af)
 (hg:∀cl s H ex,PG (X.inCompG Nc sc fn ce cl s H ex) tg g) (ht:∀cl s H ex,DO (X.inCompG Nc sc fn ce cl s H ex) ifs tt) (he:∀cl s H ex,PE (X.inCompG Nc sc fn ce cl s H ex) elt te)
 {cl:Ac (Ak × Ad)} (clS:∀y c,cl.lookup y=Aa c->X.env.cells.lookup y=Aa c) (clH:∀y∈sc.names,y.2=.free->∃c,cl.lookup y.1=Aa c)
 {pins:Ac (Ad × A2)} {σ:St} {H2:Hp} {s2:Aj} {it:Ad} {fp:Ac Ad} {tn:Ae->AD->Prop} {J:It} {Q:VK} {E:Ah->Aj->Prop}
 (I2:Inv X pins σ H2 s2) (T:FJ X.prog X.w X.K tg J fp it tn) (st2:tn 0 s2.heap) (f2:∀b∈fp,Fk X pins H2 b)
 (h2:K5 k0 g tt te σ Q J H2) :
 Au (A6 X.prog X.w) X.A (newList []) (fun acc s₃=>Au (A6 X.prog X.w) X.A (newFunctionEnv sc X.env.globals cl [] X.env.qual Ai .none (Aa X.env)) (fun cenv s₄ =>
  codeAny (A6 X.prog X.w) X.A (.compStart (.ListComp elt [⟨tg,iter,ifs,0⟩] sc pos) 0 (.ref it) acc { cenv with scope:=relabel sc X.env })
   (fun r s'=>r=.ok .next/\∃D H',acc=.ref D/\Inv X pins σ H' s'/\Q (.ref D) H'/\Go X pins H' cenv.locals/\∃m,s'.heap.Ns cenv.locals m) s₄) E s₃) E s2:=by
 refine Fi (cn.new fun h₁ hns₁ old hcell₁=>?_);dsimp only at hns₁ old hcell₁ ⊢;have hD:H2 s2.heap.objs.size=Ai:=I2.hok.fresh (A1 _);obtain ⟨W,⟨m0,w0⟩,turn⟩:=h2 s2.heap.objs.size hD
 have I3:Inv X pins σ (upd H2 s2.heap.objs.size (.lst [])) { s2 with heap:=s2.heap.push { cls:=.type "list",dict:=Ai,data:=.seq ([]:Ac Ah).toArray } } :=
  I2.laid (t':=s2.toks) (fun b u e=>Bv _ e) (A1 _) ⟨Br _,[],0,.nil,BD _ rfl⟩
 generalize hs3:({ s2 with heap:=s2.heap.push { cls:=.type "list",dict:=Ai,data:=.seq ([]:Ac Ah).toArray } }:Aj)=s3 at I3;have eh:s3.heap=s2.heap.push { cls:=.type "list",dict:=Ai,data:=.seq ([]:Ac Ah).toArray }:=by rw [<- hs3]
 have e2:({ s2 with heap:=h₁ }:Aj)={ s3 with heap:=h₁,toks:=s3.toks }:=by rw [<- hs3]
 generalize hH3:upd H2 s2.heap.objs.size (.lst [])=H3 at I3 w0;rw [<- eh] at hns₁ old hcell₁ ⊢;rw [e2]
 have below2:∀b,b∈fp->b < s3.heap.objs.size:=fun b hb=>by
  obtain ⟨o,e,_⟩:=T.obj _ _ st2 b hb;have:s2.heap.objs.size<=s3.heap.objs.size:=by rw [eh,IB];exact Dl _
  exact B' (A_ e) this
 have old2:∀b o,s2.heap.get? b=Aa o->s3.heap.get? b=Aa o:=fun b o e=>by rw [eh];exact Bv _ e
 have fpFree:∀b∈fp,H3 b=Ai:=fun b hb=>by
  rw [<- hH3,AF (fun z=>?_)]
  ·exact (f2 b hb).1
  ·obtain ⟨o,e,_⟩:=T.obj _ _ st2 b hb;have:=A_ e;rw [z] at this;exact C' _ this
 have rl:∀y,(relabel sc X.env).names.lookup y=(sc.names.lookup y).map fun k=>if (k == Gg && X.env.scope.kind == .function && X.env.kindOf y == Aa .cell) then Hx else k:=fun y=>KJ X.env sc.names y;have freeOf:∀y,sc.names.lookup y=Aa .free->∃c,cl.lookup y=Aa c:=fun y e=>clH (y,.free) (E2 e) rfl
 have isFree:∀y,((relabel sc X.env).names.lookup y=Aa .cell\/(relabel sc X.env).names.lookup y=Aa .free)->sc.names.lookup y=Aa .free\/fn y=Af:=fun y h=>by
  rw [rl y] at h
  cases e:sc.names.lookup y with
  | none=>rw [e] at h;rcases h with z | z <;> exact Aw z (by simp)
  | some k =>
    rw [e] at h
    cases k with
    | free=>exact .inl rfl
    | cell=>exact .inr ((cn.cell y).mp e)
    | _=>rcases h with z | z <;> exact Aw z (by simp)
 have ltC:∀y c,cl.lookup y=Aa c->c < s3.heap.objs.size:=fun y c e=>by
  obtain ⟨v,q⟩:=I3.cell y c (clS y c e);exact q.lt
 have exC:∀b∈fp,∀y c,(ce s3.heap.objs.size cl).lookup y=Aa c->c≠b:=fun b hb y c h z=>by
  rcases cn.d1 h with ⟨_,e2⟩ | ⟨_,e2⟩
  ·exact C' _ (Nat.lt_trans (below2 b hb) (z ▸ e2))
  ·exact (f2 b hb).2.2.2.2.1 y c (clS y c e2) z
 have exOk:∀b∈fp,b≠s3.heap.objs.size/\b ∉ frs X.stack:=fun b hb=>by
  obtain ⟨g0,g1,g2,g3,g4,g5⟩:=f2 b hb;refine ⟨B1 (below2 b hb),fun z=>?_⟩;rcases mem_cons.mp (I2.stkSub b z) with z | z
  ·exact g1 z
  ·exact g2 z
 have hCnew:X.s₀.heap.objs.size<=s3.heap.objs.size:=I3.sz
 have hCcell:∀y c,X.env.cells.lookup y=Aa c->c≠s3.heap.objs.size:=fun y c e z=>by
  obtain ⟨v,q⟩:=I3.cell y c e;have:=q.lt;rw [z] at this;exact C' _ this
 have hCpin:∀p∈X.pn++pins,p.1≠s3.heap.objs.size:=fun p hp z=>by
  have:=A_ (I3.pin p hp).1;rw [z] at this;exact C' _ this
 have okc:(X.inCompG Nc sc fn ce cl s3 H3 fp).Ok:=by
  refine ⟨I3.ok.mod,cn.kind,I3.ok.glob,I3.ok.blt,A1 _,fun y z c h1 h2=>?_,fun y hy=>?_,fun y c hf e=>?_,I3.ok.hd,I3.ok.frames,.inl rfl,
   fun b hb=>⟨(exOk b hb).1,exC b hb⟩,fun b o e=>I3.bs b o e,BE I3.ok.bsz I3.sz,fun b o e hb=>?_,fun b hb=>(exOk b hb).2,I3.stack,I3.stkFree⟩
  ·rcases cn.d1 h1 with ⟨e1,k1⟩ | ⟨e1,k1⟩ <;> rcases cn.d1 h2 with ⟨f1,k2⟩ | ⟨f1,k2⟩
   ·exact cn.d4 e1 f1
   ·exact Aw (ltC z c k2) (Nat.lt_asymm k1)
   ·exact Aw (ltC y c k1) (Nat.lt_asymm k2)
   ·exact I3.ok.inj y z c (clS y c k1) (clS z c k2)
  ·cases e:fn y with
   | true=>exact cn.d3 e
   | false =>
     rcases isFree y hy with f | f
     ·obtain ⟨c,hc⟩:=freeOf y f;exact ⟨c,(cn.d2 e).trans hc⟩
     ·exact Aw f (by rw [e];exact Bl)
  ·rcases cn.d1 e with ⟨_,k⟩ | ⟨f,_⟩
   ·exact DK k
   ·exact Aw (f.symm.trans hf) Bl
  obtain ⟨g0,g1,g2,g3,g4,g5⟩:=f2 b hb;rcases g3 with z | z
  ·exact I3.ok.noex b o e z
  ·exact Aw (A_ (I3.ok.bs b o e).1) (Nat.not_lt.mpr z)
 have hlen:σ.length=N.length:=by rw [I3.len,hXN]
 have Ic:Inv (X.inCompG Nc sc fn ce cl s3 H3 fp) [] (σ++Cy k0 Ai) H3 { s3 with heap:=h₁,toks:=s3.toks }:=by
  refine ⟨okc,rfl,I3.bare,Un.kept old,⟨_,hns₁,fun i y v h1 h2 h3=>?_⟩,fun y c e=>?_,I3.hok.fresh (A1 _),fun y c e=>?_,fun p hp=>Aw (show p∈([]:Ac (Ad × A2)) from hp) (by simp),I3.hok.kept old,?_⟩
  ·have hi:i < σ.length:=by
    by_cases hi:i < σ.length
    ·exact hi
    ·rw [JX (Nat.not_lt.mp hi)] at h2;rw [LW] at h2
     split at h2 <;> cases h2
   rw [LU hi] at h2;have hi':i < N.length:=by rw [<- hlen];exact hi
   obtain ⟨n1,n2,n3⟩:=cn.slot hi' h1
   have hf:sc.names.lookup y=Aa .free:=by
    rcases h3 with z | z
    ·exfalso;have z':(relabel sc X.env).names.lookup y=Aa .local:=z;rw [rl y] at z'
     cases e:sc.names.lookup y with
     | none=>rw [e] at z';simp at z'
     | some k =>
       rw [e] at z'
       cases k with
       | «local»=>exact n1 e
       | cell=>exact n2 e
       | free =>
         simp only [GK,WE] at z'
         split at z' <;> cases z'
       | _=>simp at z'
    ·exact (isFree y z).resolve_right fun f=>n2 ((cn.cell y).mpr f)
   have nf:fn y=Aq:=by
    cases e:fn y with
    | false=>rfl
    | true=>exact Aw ((cn.cell y).mpr e) n2
   have hN:X.N[i]?=Aa y:=by rw [hXN];exact n3 hf
   obtain ⟨m,hn,hl⟩:=I3.loc;have hv:fsc.names.lookup y=Aa .cell\/fsc.names.lookup y=Aa .free:=cn.fr (y,.free) (E2 hf) rfl;have hv':X.env.scope.names.lookup y=Aa .cell\/X.env.scope.names.lookup y=Aa .free:=by rw [hE];exact hv
   obtain ⟨u,ru,lk⟩:=hl i y v hN h2 (.inr hv');refine ⟨u,ru,.inr ⟨?_,?_⟩⟩
   ·show (relabel sc X.env).names.lookup y=Aa .cell\/(relabel sc X.env).names.lookup y=Aa .free;rw [rl y,hf];simp only [GK,WE]
    split
    ·exact .inl rfl
    ·exact .inr rfl
   ·rcases lk with ⟨kl,_⟩ | ⟨_,c,hc,hcell⟩
    ·exfalso;have kl':X.env.scope.names.lookup y=Aa .local:=kl;rw [kl'] at hv';rcases hv' with z | z <;> cases z
    ·obtain ⟨d,hd⟩:=freeOf y hf;have ed:=clS y d hd;rw [hc] at ed
     cases ed
     exact ⟨c,(cn.d2 nf).trans hd,hcell.keeps old⟩
  ·rcases cn.d1 e with ⟨f,_⟩ | ⟨_,k⟩
   ·exact ⟨Ai,hcell₁ y c f e⟩
   ·obtain ⟨v,q⟩:=I3.cell y c (clS y c k);exact ⟨v,q.keeps old⟩
  ·rcases cn.d1 e with ⟨_,k⟩ | ⟨_,k⟩
   ·exact I3.hok.fresh (DK k)
   ·exact I3.freeC y c (clS y c k)
  ·show (σ++Cy k0 Ai).length=Nc.length;rw [Bj,hlen,cn.len,FC]
 have stc:tn 0 ({ s3 with heap:=h₁,toks:=s3.toks }:Aj).heap:=T.keep _ _ _ st2 fun b _ o e=>old b o (old2 b o e)
 have fpc:∀{pins':Ac (Ad × A2)} {H':Hp},pins'=[]->(∀b∈fp,H' b=Ai)->∀b∈fp,Fk (X.inCompG Nc sc fn ce cl s3 H3 fp) pins' H' b:=fun {pins' H'} hp hn b hb=>by
  subst hp;exact ⟨hn b hb,(exOk b hb).1,(exOk b hb).2,.inl hb,exC b hb,fun p hp=>Aw (show p∈([]:Ac (Ad × A2)) from hp) (by simp)⟩
 have loop:∀s₄:Aj,s₄={ s3 with heap:=h₁,toks:=s3.toks } ->
  codeAny (A6 X.prog X.w) X.A (.compLoop (.ListComp elt [⟨tg,iter,ifs,0⟩] sc pos) 0 (.ref it) (.ref s2.heap.objs.size) (compEnvC sc (ce s3.heap.objs.size cl) s3.heap.objs.size X.env))
   (fun r s'=>r=.ok .next/\∃D H',(AO s2.heap.objs.size)=.ref D/\Inv X pins σ H' s'/\Q (.ref D) H'/\Go X pins H' s3.heap.objs.size/\∃m,s'.heap.Ns s3.heap.objs.size m) s₄:=by
  rintro s₄ rfl;refine ZH (fun n s'=>∃(i:Ae) (o:St) (H':Hp) (ys:Ac V),o.length=k0/\Inv (X.inCompG Nc sc fn ce cl s3 H3 fp) [] (σ++o) H' s'/\tn i s'.heap/\(∀b∈fp,H' b=Ai)/\W i n ys H') ?_ m0 ⟨0,_,H3,[],FC ..,Ic,stc,fpFree,w0⟩;rintro n s' ⟨i,o,H',ys,lo,I',st',fr',w'⟩;obtain ⟨hDl,tw⟩:=turn i n ys H' w';rcases tw with ⟨stop,q⟩ | ⟨go,hz,step⟩
  ·
   refine thn (T.done (X.inCompG Nc sc fn ce cl s3 H3 fp) rfl rfl rfl hc i [] s' _ H' _ I' (fpc rfl fr') st' stop) fun r s5 hq_=>?_;obtain ⟨hr,I5⟩:=hq_;subst hr
   have Ix:Inv X pins σ H' s5:=I3.call' (ch:=fp) I5.os I5.base I5.hok I5.bare fun b hb=>by
    obtain ⟨g0,g1,g2,g3,g4,g5⟩:=f2 b hb;exact ⟨g3,g1,g4,g5⟩
   have hCf:H' s3.heap.objs.size=Ai:=I5.free;obtain ⟨m,hn,_⟩:=I5.loc;exact ⟨rfl,s2.heap.objs.size,H',rfl,Ix,q,⟨hCf,fun z=>C' _ (by have:=I3.lt;rw [<- z] at this;exact this),hCnew,hCcell,hCpin⟩,m,hn⟩
  ·
   refine thn (T.item (X.inCompG Nc sc fn ce cl s3 H3 fp) rfl rfl rfl hc i [] s' _ H' _ I' (fpc rfl fr') st' go) fun r s5 hq_=>?_;obtain ⟨u,hr,h4⟩:=hq_;subst hr;dsimp only;refine EX h4 fun _ s6 hq_=>?_;obtain ⟨xv,H5,I5,r5,y5,st5,fr5⟩:=hq_;have I5':=I5.pinned (fpc rfl fr5) (T.obj _ _ st5)
   have again:∀{o':St} {H7:Hp} {s7:Aj} {m':Ae} {ys':Ac V},o'.length=k0->Inv (X.inCompG Nc sc fn ce cl s3 H3 fp) ([]++Jx fp s6.heap) (σ++o') H7 s7->m' < n->W (i+1) m' ys' H7 ->
    ∃m,m < n/\∃(i:Ae) (o:St) (H':Hp) (ys:Ac V),o.length=k0/\Inv (X.inCompG Nc sc fn ce cl s3 H3 fp) [] (σ++o) H' s7/\tn i s7.heap/\(∀b∈fp,H' b=Ai)/\W i m ys H':=fun {o' H7 s7 m' ys'} lo' I7 hm w7=>by
    refine ⟨m',hm,i+1,o',H7,ys',lo',I7.unpinned,T.keep _ _ _ st5 fun b hb o e=>(I7.pin (b,o) (B8 _ (B8 _ (KP hb e)))).1,fun b hb=>?_,w7⟩;obtain ⟨o',e,d⟩:=T.obj _ _ st5 b hb;exact (I7.pin (b,o') (B8 _ (B8 _ (KP hb e)))).2.1
   refine EX (hg cl s3 H3 fp _ s6 _ H5 xv u _ I5' r5 (step xv _ y5 o lo)) fun _ s7 hq_=>?_;obtain ⟨σ7,H7,I7,⟨o7,e7,lo7⟩,q7⟩:=hq_;subst e7;refine EX (ht cl s3 H3 fp _ s7 _ _ _ I7 q7) fun b s8 hq_=>?_;obtain ⟨H8,I8,q8⟩:=hq_
   cases b with
   | false =>
     rw [Ao Bl] at q8 ⊢;obtain ⟨m',hm,w8⟩:=q8;exact again lo7 I8 hm w8
   | true =>
     rw [Ar rfl] at q8 ⊢;refine EX (he cl s3 H3 fp _ s8 _ H8 _ I8 q8) fun y s9 hq_=>?_;obtain ⟨yv,H9,I9,r9,hD9,m',hm,w9⟩:=hq_;refine EX (El _ s9 _ H9 (.ref s2.heap.objs.size) [yv] (.ref s2.heap.objs.size) [y] (fun v H=>v=.non/\H=upd H9 s2.heap.objs.size (.lst (ys++[yv]))) I9 rfl (.cons r9 .nil) ⟨_,ys,yv,rfl,rfl,hD9,hz,rfl,rfl⟩) fun _ s10 hq_=>?_;obtain ⟨v10,H10,I10,r10,e10,e11⟩:=hq_;subst e11;exact again lo7 I10 hm w9
 exact codeAny_compStart_list (loop _ rfl) (T.self _ 0 _ _ _ stc (loop _ rfl))
theorem P' (I:∀y,(X.env.kindOf y=Aa .cell\/X.env.kindOf y=Aa .free)->∃c,X.env.cells.lookup y=Aa c) (hE:X.env.scope=fsc) (cn:HN N Nc k0 sc fsc fn ce):∀y∈sc.names,y.2=.free->∃c,X.env.cells.lookup y.1=Aa c:=fun y hy hf=>by
 refine I y.1 ?_;show X.env.scope.names.lookup y.1=Aa .cell\/X.env.scope.names.lookup y.1=Aa .free;rw [hE];exact cn.fr y hy hf
theorem NG (hE:X.env.scope=fsc) (hXN:X.N=N) (cn:HN N Nc k0 sc fsc fn ce) (hc:X.calm=Af) (hi:PI X tg iter wi) (hb:∀{σ:St} {Q:VK} {J:It} {H1:Hp},σ.length=N.length->Bd σ Q J H1->K5 k0 g tt te σ Q J H1)
 (hg:∀cl s H ex,PG (X.inCompG Nc sc fn ce cl s H ex) tg g) (ht:∀cl s H ex,DO (X.inCompG Nc sc fn ce cl s H ex) ifs tt) (he:∀cl s H ex,PE (X.inCompG Nc sc fn ce cl s H ex) elt te)
 (hs:∀v,E4 iter X.env v=pure v:=by intro _;rfl):PE X (.ListComp elt [⟨tg,iter,ifs,0⟩] sc pos) (fun σ H Q=>wi σ H (Bd σ Q)):=by
 intro pins s σ H Q I h;obtain ⟨cl,hcl,clS,clH⟩:=Nb (env:=X.env) (sc:=sc) (P' I.ok.has hE cn);rw [eval_ListComp];refine X0 (use:=Ai) rfl hs hcl cn.kind cn.nm (thn (hi pins s σ H _ I h) fun v s1 h1=>thn h1 fun itv s2 h2=>?_);obtain ⟨it,fp,tn,J,H2,rfl,I2,T,st2,f2,h2⟩:=h2;refine thn (P_ (pos:=pos) (iter:=iter) hE hXN cn hc hg ht he clS clH I2 T st2 f2 (hb (by rw [I2.len,hXN]) h2)) fun acc s3 h3=>thn h3 fun cenv s4 h4=>HJ h4 fun r s' h5=>?_;obtain ⟨rfl,D,H',rfl,I',q,cloc,m,hn⟩:=h5;exact ⟨m,hn,fun h' k=>⟨.ref D,H',I'.sameBut cloc k,rfl,q⟩⟩
theorem RT {j:Ae} {y:Ak} {py spos:Pos} (hE:X.env.scope=fsc) (hXN:X.N=N) (cn:HN N Nc k0 sc fsc fn ce) (hc:X.calm=Af) (hnd:X.N.Nodup) (hj:X.N[j]?=Aa y) (hy:X.env.scope.names.lookup y=Aa .local) (hi:PI X tg iter wi) (hb:∀{σ:St} {Q:VK} {J:It} {H1:Hp},σ.length=N.length->Bd σ Q J H1->K5 k0 g tt te σ Q J H1)
 (hg:∀cl s H ex,PG (X.inCompG Nc sc fn ce cl s H ex) tg g) (ht:∀cl s H ex,DO (X.inCompG Nc sc fn ce cl s H ex) ifs tt) (he:∀cl s H ex,PE (X.inCompG Nc sc fn ce cl s H ex) elt te)
 (hsw:swapsWith (.ListComp elt [⟨tg,iter,ifs,0⟩] sc pos) (Aa (.Name y py)) spos.line X.env=pure Af)
 (hs:∀v,E4 iter X.env v=pure v:=by intro _;rfl):PS X (.Assign [.Name y py] (.ListComp elt [⟨tg,iter,ifs,0⟩] sc pos) spos) (Il (fun σ H Q=>wi σ H (Bd σ Q)) (BS j)):=by
 intro pins s σ H D I h;obtain ⟨cl,hcl,clS,clH⟩:=Nb (env:=X.env) (sc:=sc) (P' I.ok.has hE cn);rw [exec_Assign_Name_used _ _ _ _ hsw];refine An (MM (An ?_));show Au _ X.A (do let _ <- comprehension (.ListComp elt [⟨tg,iter,ifs,0⟩] sc pos) sc X.env _ (newList []) Aq (eval iter X.env) (Aa (assign (.Name y py) X.env))) _ _ s;refine An (thn (X0 (Q:=fun _ s'=>SP X pins D .next s') rfl hs hcl cn.kind cn.nm (thn (hi pins s σ H _ I h) fun v s1 h1=>thn h1 fun itv s2 h2=>?_)) fun _ s' hq=>Ay (Ay hq));obtain ⟨it,fp,tn,J,H2,rfl,I2,T,st2,f2,h2⟩:=h2;refine thn (P_ (pos:=pos) (iter:=iter) (Q:=fun x H1=>BS j x σ H1 D.nx) hE hXN cn hc hg ht he clS clH I2 T st2 f2 (hb (by rw [I2.len,hXN]) h2)) fun acc s3 h3=>thn h3 fun cenv s4 h4=>HJ h4 fun r s' h5=>?_;obtain ⟨rfl,D',H',rfl,I',q,cloc,m,hn⟩:=h5;refine Xy (UN (v:=.ref D') I' hnd hj (.inl hy) rfl (fun s6 I6 sb=>?_) (.inr hy));obtain ⟨a,k,ha⟩:=sb;refine ⟨m,hn.sameBut k (fun z=>?_),fun h' k'=>⟨_,H',I6.sameBut cloc k',q⟩⟩;rcases ha with ha | ha
 ·exact cloc.ne (z.trans ha)
 ·exact cloc.cells _ _ ha z.symm
end
theorem EL.g {N Nc xs:Ac Ak} {sc fsc:Bu} (c:EL N Nc xs sc fsc):HN N Nc xs.length sc fsc (fun _=>Aq) (fun _ cl=>cl) :=
 ⟨c.kind,c.nm,fun y=>⟨fun h=>Aw rfl (c.cell (y,.cell) (E2 h)),(fun h=>nomatch h)⟩,c.fr,c.len,c.at,fun h=>X7 c.cell (by intro y hy;simp at hy) (fun h₁ a b=>h h₁ a (fun _ _ e=>(b.2 _ (B1 (A_ e))).trans (Bv _ e)) (fun _ _ h=>nomatch h)) c.kind,
  fun h=>.inr ⟨rfl,h⟩,fun _=>rfl,(fun h=>nomatch h),(fun h=>nomatch h)⟩
section
variable {X:Cx} {elt iter:A4} {xs:Ac Ak} {tg:A4} {g:TG} {pos:Pos} {ifs:Ac A4} {sc fsc:Bu} {N Nc:Ac Ak} {wi:TI} {tt:TT} {te:TE}
theorem RH (hE:X.env.scope=fsc) (hXN:X.N=N) (cn:EL N Nc xs sc fsc) (hc:X.calm=Af) (hi:PI X tg iter wi)
 (hg:∀cl s H ex,PG (X.inComp Nc sc cl s H ex) tg g) (ht:∀cl s H ex,DO (X.inComp Nc sc cl s H ex) ifs tt) (he:∀cl s H ex,PE (X.inComp Nc sc cl s H ex) elt te)
 (hs:∀v,E4 iter X.env v=pure v:=by intro _;rfl):PE X (.ListComp elt [⟨tg,iter,ifs,0⟩] sc pos) (JG xs.length wi g tt te) :=
 NG hE hXN cn.g hc hi (fun _ h=>h) hg ht he hs
theorem Abf {j:Ae} {y:Ak} {py spos:Pos} (hE:X.env.scope=fsc) (hXN:X.N=N) (cn:EL N Nc xs sc fsc) (hc:X.calm=Af) (hnd:X.N.Nodup) (hj:X.N[j]?=Aa y) (hy:X.env.scope.names.lookup y=Aa .local) (hi:PI X tg iter wi)
 (hg:∀cl s H ex,PG (X.inComp Nc sc cl s H ex) tg g) (ht:∀cl s H ex,DO (X.inComp Nc sc cl s H ex) ifs tt) (he:∀cl s H ex,PE (X.inComp Nc sc cl s H ex) elt te)
 (hsw:swapsWith (.ListComp elt [⟨tg,iter,ifs,0⟩] sc pos) (Aa (.Name y py)) spos.line X.env=pure Af)
 (hs:∀v,E4 iter X.env v=pure v:=by intro _;rfl):PS X (.Assign [.Name y py] (.ListComp elt [⟨tg,iter,ifs,0⟩] sc pos) spos) (Il (JG xs.length wi g tt te) (BS j)) :=
 RT hE hXN cn.g hc hnd hj hy hi (fun _ h=>h) hg ht he hsw hs
end
theorem E5.ns {N Nc:Ac Ak} {x:Ak} {sc fsc:Bu} (c:E5 N Nc x sc fsc):EL N Nc [x] sc fsc:=⟨c.kind,c.cell,c.nm,fun y m=>by rw [mem_singleton.mp m];exact c.own,c.fr,c.len,c.nd,by
 have l:=c.len;refine JV fun i=>?_;rw [Wf]
 cases i with
 | zero=>exact c.last
 | succ i=>rw [FB (by omega),FB (by show 1<=i+1;omega)],c.slot⟩
section
variable {X:Cx} {elt iter:A4} {x:Ak} {px pos:Pos} {ifs:Ac A4} {sc fsc:Bu} {N Nc:Ac Ak} {wi:TI} {tt:TT} {te:TE}
theorem Nf {J:It} {σ:St} {H1:Hp} {Q:VK} {n:Ae} (hn:n=σ.length) (h:∀D,H1 D=Ai->∃W:Ae->Ae->Ac V->Hp->Prop,(∃m,W 0 m [] (upd H1 D (.lst [])))/\∀i m ys H2,W i m ys H2 ->
 H2 D=Aa (.lst ys)/\((J.stop i H2/\Q (.ref D) H2)\/(J.go i H2/\ys.length < AB/\∀x H3,J.yld i H2 x H3->tt (σ++[Aa x]) H3 fun b H4=>if b=Af then te (σ++[Aa x]) H4 fun y H5=>H5 D=Aa (.lst ys)/\∃m',m' < m/\W (i+1) m' (ys++[y]) (upd H5 D (.lst (ys++[y])))
  else ∃m',m' < m/\W (i+1) m' ys H4))) :
 K5 1 (BS n) tt te σ Q J H1:=by
 intro D hD;obtain ⟨W,w0,w1⟩:=h D hD;refine ⟨W,w0,fun i m ys H2 w=>?_⟩;obtain ⟨a,b⟩:=w1 i m ys H2 w;refine ⟨a,b.imp id fun ⟨c,d,e⟩=>⟨c,d,fun x H3 y os ho=>?_⟩⟩
 match os,ho with
 | [o],_ =>
   have e2:(σ++[o]).set n (Aa x)=σ++[Aa x]:=by rw [hn];exact AbP
   show (∃os':St,(σ++[o]).set n (Aa x)=σ++os'/\os'.length=1)/\_;rw [e2];exact ⟨⟨[Aa x],rfl,rfl⟩,e x H3 y⟩
theorem DS (hE:X.env.scope=fsc) (hXN:X.N=N) (cn:E5 N Nc x sc fsc) (hc:X.calm=Af) (hi:PI X (.Name x px) iter wi)
 (ht:∀cl s H ex,DO (X.inComp Nc sc cl s H ex) ifs tt) (he:∀cl s H ex,PE (X.inComp Nc sc cl s H ex) elt te)
 (hs:∀v,E4 iter X.env v=pure v:=by intro _;rfl):PE X (.ListComp elt [⟨.Name x px,iter,ifs,0⟩] sc pos) (JF wi tt te) :=
 NG hE hXN cn.ns.g hc hi (fun e h=>Nf (n:=N.length) e.symm h) (fun cl s H ex=>FU (j:=0) cn.ns rfl rfl) ht he hs
theorem Abd {j:Ae} {y:Ak} {py spos:Pos} (hE:X.env.scope=fsc) (hXN:X.N=N) (cn:E5 N Nc x sc fsc) (hc:X.calm=Af) (hnd:X.N.Nodup) (hj:X.N[j]?=Aa y) (hy:X.env.scope.names.lookup y=Aa .local) (hi:PI X (.Name x px) iter wi)
 (ht:∀cl s H ex,DO (X.inComp Nc sc cl s H ex) ifs tt) (he:∀cl s H ex,PE (X.inComp Nc sc cl s H ex) elt te)
 (hsw:swapsWith (.ListComp elt [⟨.Name x px,iter,ifs,0⟩] sc pos) (Aa (.Name y py)) spos.line X.env=pure Af)
 (hs:∀v,E4 iter X.env v=pure v:=by intro _;rfl):PS X (.Assign [.Name y py] (.ListComp elt [⟨.Name x px,iter,ifs,0⟩] sc pos) spos) (Il (JF wi tt te) (BS j)) :=
 RT hE hXN cn.ns.g hc hnd hj hy hi (fun e h=>Nf (n:=N.length) e.symm h) (fun cl s H ex=>FU (j:=0) cn.ns rfl rfl) ht he hsw hs
end
section
variable {X:Cx} {elt iter:A4} {xs:Ac Ak} {tg:A4} {g:TG} {pos:Pos} {ifs:Ac A4} {sc fsc:Bu} {N Nc:Ac Ak} {wi:TI} {tt:TT} {te:TE}
end
theorem Qa {K:A8} {a:Ad} {zs:Ac V} {tt:TT} {te:TE} {σ:St} {H1:Hp} {Q:Ad->Hp->Prop} {n m:Ae} (hn:n=σ.length) (hm:m=σ.length+1) (hz:zs.length<=AB) (Pv:Ad->Ae->Ac V->Hp->Prop)
 (h0:∀D,H1 D=Ai->Pv D 0 [] (upd H1 D (.lst []))) (hD:∀D i ys H,Pv D i ys H->H D=Aa (.lst ys)/\ys.length<=i) (hl:∀D i ys H,H1 D=Ai->Pv D i ys H->SqL K H a zs)
 (hs:∀D i x ys H (K1:VK) (K2:Hp->Prop),H1 D=Ai->zs[i]?=Aa x->Pv D i ys H->(∀y H5,H5 D=Aa (.lst ys)->Pv D (i+1) (ys++[y]) (upd H5 D (.lst (ys++[y])))->K1 y H5)->(∀H4,Pv D (i+1) ys H4->K2 H4) ->
  ∃t v w,x=.ref t/\SqT K H t [v,w]/\tt (σ++[Aa v,Aa w]) H fun b H4=>if b=Af then te (σ++[Aa v,Aa w]) H4 K1 else K2 H4)
 (hd:∀D ys H,H1 D=Ai->Pv D zs.length ys H->Q D H) :
 ∀D,H1 D=Ai->∃W:Ae->Ae->Ac V->Hp->Prop,(∃m,W 0 m [] (upd H1 D (.lst [])))/\∀i k ys H2,W i k ys H2 ->
  H2 D=Aa (.lst ys)/\(((Itl K a).stop i H2/\Q D H2)\/((Itl K a).go i H2/\ys.length < AB/\∀x H3,(Itl K a).yld i H2 x H3->∀os:St,os.length=2->EQ K 2 (C7 (BS n) (C7 (BS m) Fn)) x (σ++os) H3 fun σ4 H4=>(∃os':St,σ4=σ++os'/\os'.length=2)/\tt σ4 H4 fun b H5=>if b=Af then te σ4 H5 fun y H6=>H6 D=Aa (.lst ys)/\∃m',m' < k/\W (i+1) m' (ys++[y]) (upd H6 D (.lst (ys++[y])))
   else ∃m',m' < k/\W (i+1) m' ys H5)):=by
 intro D hDn;subst hn hm;refine ⟨fun i m ys H=>m=zs.length - i/\i<=zs.length/\Pv D i ys H,⟨zs.length,rfl,Br _,h0 D hDn⟩,?_⟩;rintro i m ys H2 ⟨rfl,hi,p⟩;obtain ⟨e,l⟩:=hD D i ys H2 p;have q:=hl D i ys H2 hDn p;refine ⟨e,?_⟩;by_cases hlt:i < zs.length
 ·refine .inr ⟨⟨zs,zs[i],q,by simp [hlt]⟩,Dn l (B' hlt hz),fun x H3 y os ho=>?_⟩;obtain ⟨e1,y⟩:=y;subst e1;obtain ⟨t,v,w,rfl,ht,q5⟩:=hs D i x ys _ (fun y H6=>H6 D=Aa (.lst ys)/\∃m',m' < zs.length - i/\m'=zs.length - (i+1)/\i+1<=zs.length/\Pv D (i+1) (ys++[y]) (upd H6 D (.lst (ys++[y])))) (fun H5=>∃m',m' < zs.length - i/\m'=zs.length - (i+1)/\i+1<=zs.length/\Pv D (i+1) ys H5) hDn (y zs q) p (fun y H5 h5 p5=>⟨h5,zs.length - (i+1),by omega,rfl,hlt,p5⟩) fun H4 p4=>⟨zs.length - (i+1),by omega,rfl,hlt,p4⟩
  match os,ho with
  | [o1,o2],_ =>
    have e2:((σ++[o1,o2]).set σ.length (Aa v)).set (σ.length+1) (Aa w)=σ++[Aa v,Aa w]:=by
     rw [Eg _ _ (A1 _),EI,Eg _ _ (Dl _)];rw [show (BM σ+1) - BM σ=1 by omega];rfl
    refine ⟨t,[v,w],rfl,ht,rfl,v,[w],rfl,w,[],rfl,rfl,?_⟩;refine ⟨⟨[Aa v,Aa w],e2,rfl⟩,?_⟩;rw [e2];exact q5
 ·have ei:i=zs.length:=by omega
  subst ei;exact .inl ⟨⟨zs,q,A1 _⟩,hd D ys H2 hDn p⟩
section
variable {X:Cx} {elt iter:A4} {x1 x2 x3:Ak} {p1 p2 p3 pt pos:Pos} {k:Ae} {ifs:Ac A4} {sc fsc:Bu} {N Nc:Ac Ak} {wi:TI} {tt:TT} {te:TE}
theorem Ih (hE:X.env.scope=fsc) (hXN:X.N=N) (cn:EL N Nc [x1,x2] sc fsc) (hc:X.calm=Af) (hi:PI X (.Tuple [.Name x1 p1,.Name x2 p2] k pt) iter wi)
 (ht:∀cl s H ex,DO (X.inComp Nc sc cl s H ex) ifs tt) (he:∀cl s H ex,PE (X.inComp Nc sc cl s H ex) elt te) (hs:∀v,E4 iter X.env v=pure v:=by intro _;rfl) :
 PE X (.ListComp elt [⟨.Tuple [.Name x1 p1,.Name x2 p2] k pt,iter,ifs,0⟩] sc pos) (JG 2 wi (EQ X.K 2 (C7 (BS N.length) (C7 (BS (N.length+1)) Fn))) tt te) :=
 RH hE hXN cn hc hi (fun cl s H ex=>EC (X:=X.inComp Nc sc cl s H ex) hc (BY (FU (j:=0) cn rfl rfl) (BY (FU (j:=1) cn rfl rfl) ED))) ht he hs
theorem RG (hE:X.env.scope=fsc) (hXN:X.N=N) (cn:EL N Nc [x1,x2,x3] sc fsc) (hc:X.calm=Af) (hi:PI X (.Tuple [.Name x1 p1,.Name x2 p2,.Name x3 p3] k pt) iter wi)
 (ht:∀cl s H ex,DO (X.inComp Nc sc cl s H ex) ifs tt) (he:∀cl s H ex,PE (X.inComp Nc sc cl s H ex) elt te) (hs:∀v,E4 iter X.env v=pure v:=by intro _;rfl) :
 PE X (.ListComp elt [⟨.Tuple [.Name x1 p1,.Name x2 p2,.Name x3 p3] k pt,iter,ifs,0⟩] sc pos) (JG 3 wi (EQ X.K 3 (C7 (BS N.length) (C7 (BS (N.length+1)) (C7 (BS (N.length+2)) Fn)))) tt te) :=
 RH hE hXN cn hc hi (fun cl s H ex=>EC (X:=X.inComp Nc sc cl s H ex) hc (BY (FU (j:=0) cn rfl rfl) (BY (FU (j:=1) cn rfl rfl) (BY (FU (j:=2) cn rfl rfl) ED)))) ht he hs
theorem Abe {j:Ae} {y:Ak} {py spos:Pos} (hE:X.env.scope=fsc) (hXN:X.N=N) (cn:EL N Nc [x1,x2] sc fsc) (hc:X.calm=Af) (hnd:X.N.Nodup) (hj:X.N[j]?=Aa y) (hy:X.env.scope.names.lookup y=Aa .local) (hi:PI X (.Tuple [.Name x1 p1,.Name x2 p2] k pt) iter wi)
 (ht:∀cl s H ex,DO (X.inComp Nc sc cl s H ex) ifs tt) (he:∀cl s H ex,PE (X.inComp Nc sc cl s H ex) elt te)
 (hsw:swapsWith (.ListComp elt [⟨.Tuple [.Name x1 p1,.Name x2 p2] k pt,iter,ifs,0⟩] sc pos) (Aa (.Name y py)) spos.line X.env=pure Af)
 (hs:∀v,E4 iter X.env v=pure v:=by intro _;rfl) :
 PS X (.Assign [.Name y py] (.ListComp elt [⟨.Tuple [.Name x1 p1,.Name x2 p2] k pt,iter,ifs,0⟩] sc pos) spos) (Il (JG 2 wi (EQ X.K 2 (C7 (BS N.length) (C7 (BS (N.length+1)) Fn))) tt te) (BS j)) :=
 Abf hE hXN cn hc hnd hj hy hi (fun cl s H ex=>EC (X:=X.inComp Nc sc cl s H ex) hc (BY (FU (j:=0) cn rfl rfl) (BY (FU (j:=1) cn rfl rfl) ED))) ht he hsw hs
end
end L2
namespace L2
open PySem PySem.Spec PyProof.Rows
noncomputable def Itz (K:A8) (a b:Ad):It :=
 ⟨fun i H=>∃xs ys x y,SqL K H a xs/\SqL K H b ys/\xs[i]?=Aa x/\ys[i]?=Aa y,fun i H x H'=>∃T y z,x=.ref T/\H T=Ai/\H'=upd H T (.tup [y,z])/\(∀xs,SqL K H a xs->xs[i]?=Aa y)/\∀xs,SqL K H b xs->xs[i]?=Aa z,
  fun i H=>∃xs ys,SqL K H a xs/\SqL K H b ys/\(xs.length<=i\/ys.length<=i)⟩
theorem Adw {n a b:Ae} (ha:a < n) (hb:b < n):ZipApart (n+4) (n+2) (n+3) n (n+1) a b:=by
 constructor <;> (show @Ne Ae _ _) <;> omega
theorem V0 {z TO i1 i2 TI c:Ad} (h:c ∉ [z,TI,TO,i1,i2]):c≠z/\c≠TO/\c≠i1/\c≠i2 :=
 ⟨fun e=>h (by simp [e]),fun e=>h (by simp [e]),fun e=>h (by simp [e]),fun e=>h (by simp [e])⟩
theorem AcV {P:A9} {w:A3} {K:A8} {es:Ac A4} {k:Ae} {pos:Pos} (a b z TI TO i1 i2:Ad) (D:ZipApart z TI TO i1 i2 a b) :
 FJ P w K (.Tuple es k pos) (Itz K a b) [z,TI,TO,i1,i2] z (fun i h=>IsZip h z TI TO .none/\IsPair h TI (.ref i1) (.ref i2)/\(∃u v,IsPair h TO u v)/\h.IsListIter i1 a i/\h.IsListIter i2 b i) where
 mem:=by simp
 obj:=fun i h st c hc=>by
  obtain ⟨hz,hTI,⟨u,v,hTO⟩,⟨o1,e1,c1,d1⟩,o2,e2,c2,d2⟩:=st;simp only [Ef,Bm,Gm] at hc;rcases hc with q | q | q | q | q <;> subst q
  ·exact ⟨_,hz,fun v z=>by cases (show L6 _=I0 v from z)⟩
  ·exact ⟨_,hTI,fun v z=>by cases (show Data.seq _ _=I0 v from z)⟩
  ·exact ⟨_,hTO,fun v z=>by cases (show Data.seq _ _=I0 v from z)⟩
  ·exact ⟨o1,e1,fun v z=>by rw [d1] at z;cases z⟩
  ·exact ⟨o2,e2,fun v z=>by rw [d2] at z;cases z⟩
 keep:=fun i h h' st kk=>by
  obtain ⟨hz,hTI,⟨u,v,hTO⟩,h1,h2⟩:=st;exact ⟨kk z (by simp) _ hz,kk TI (by simp) _ hTI,⟨u,v,kk TO (by simp) _ hTO⟩,h1.at fun o q=>kk i1 (by simp) o q,h2.at fun o q=>kk i2 (by simp) o q⟩
 item:=by
  intro X hP hw hK hc i pins s σ H E I hf st hg;subst hP hw hK;obtain ⟨xs,ys,x,y,hx,hy,ex,ey⟩:=hg;obtain ⟨its,rv,p,_⟩:=I.list hx;obtain ⟨jts,rw',p',_⟩:=I.list hy;obtain ⟨u,hu,ru⟩:=rv.get ex;obtain ⟨v,hv,rv'⟩:=rw'.get ey;obtain ⟨hz,hTI,⟨c,d,hTO⟩,h1,h2⟩:=st;refine wpAny_pyNext_zip_item D hz hTI hTO h1 h2 p.isList p'.isList (x:=u) (y:=v) (by simpa using hu) (by simpa using hv) fun g1 z1 t1 a1 a2 nT hsz hk=>⟨_,rfl,?_⟩;refine wpAny_letOwnedTupleGo_zip z1 fun g2 z2 sb=>?_;have fr:H s.heap.objs.size=Ai:=I.hok.fresh (A1 _)
  have lt:∀b∈[z,TI,TO,i1,i2],b < s.heap.objs.size:=fun b hb=>by
   obtain ⟨o1,e1,_⟩:=id h1;obtain ⟨o2,e2,_⟩:=id h2;simp only [Ef,Bm,Gm] at hb;rcases hb with q | q | q | q | q <;> subst q
   ·exact A_ hz
   ·exact A_ hTI
   ·exact A_ hTO
   ·exact A_ e1
   ·exact A_ e2
  refine ⟨.ref s.heap.objs.size,upd H s.heap.objs.size (.tup [x,y]),?_,rfl,⟨_,x,y,rfl,fr,rfl,fun l hl=>by rw [I.list_inj hl hx];exact ex,fun l hl=>by rw [I.list_inj hl hy];exact ey⟩,
   ⟨z2,(sb.2 TI D.TIz).trans (hk TI _ D.TIz D.TITO D.TIi1 D.TIi2 hTI),⟨u,v,(sb.2 TO D.TOz).trans t1⟩,a1.at fun o q=>(sb.2 i1 D.i1z).trans q,a2.at fun o q=>(sb.2 i2 D.i2z).trans q⟩,fun b hb=>?_⟩
  ·refine I.laidTurned (fp:=[z,TI,TO,i1,i2]) (t':=s.toks) (fun c o hc q=>?_) hf (A1 _) ?_
   ·obtain ⟨n1,n2,n3,n4⟩:=V0 hc;exact (sb.2 c n1).trans (hk c o n1 n2 n3 n4 q)
   ·exact ⟨by show 2<=AB;decide,[u,v],.cons ru (.cons rv' .nil),⟨_,(sb.2 _ (IJ (lt z (by simp)))).trans nT,rfl,_,rfl⟩⟩
  ·rw [AF (B1 (lt b hb))];exact (hf b hb).1
 done:=by
  intro X hP hw hK hc i pins s σ H E I hf st hg;subst hP hw hK;obtain ⟨xs,ys,hx,hy,en⟩:=hg;obtain ⟨its,rv,p,_⟩:=I.list hx;obtain ⟨jts,rw',p',_⟩:=I.list hy;obtain ⟨hz,hTI,⟨c,d,hTO⟩,h1,h2⟩:=st;have l1:=rv.length;have l2:=rw'.length;refine wpAny_pyNext_zip_end (I.ok.hd hc) D hz hTI hTO h1 h2 p.isList p'.isList ?_ fun h' hk=>⟨rfl,I.turnedAll (fp:=[z,TI,TO,i1,i2]) (t':=s.toks) (fun c o hc q=>?_) hf⟩
  ·rcases en with q | q
   ·exact .inl (by simp;omega)
   ·exact .inr (by simp;omega)
  ·obtain ⟨n1,n2,n3,n4⟩:=V0 hc;exact hk c o n1 n2 n3 n4 q
 self:=fun _ _ _ _ _ st h=>XB st.1 h
section
variable {X:Cx}
noncomputable def Zg (K:A8) (ta:TA):TI:=fun σ H R=>ta σ H fun vs H1=>∃a b,vs=[.ref a,.ref b]/\(∃xs,SqL K H1 a xs)/\(∃ys,SqL K H1 b ys)/\R (Itz K a b) H1
theorem Le {l m:A4} {ta:TA} {p pos pt:Pos} {es:Ac A4} {k:Ae} (hg:Gl X "zip") (hm:X.mg "zip"=Ai) (ha:PA X [l,m] ta) (hs:Bh [l,m] X.env=[(Aq,eval l X.env),(Aq,eval m X.env)]:=by rfl) (hs2:Bh [m] X.env=[(Aq,eval m X.env)]:=by rfl) :
 PI X (.Tuple es k pt) (.Call (.Name "zip" p) [l,m] [] pos) (Zg X.K ta):=by
 intro pins s σ H R I h;refine Call_ (Fo I hg hm boot_zip (Mt (thn (ha pos pins s σ H _ I h) fun us s1 ⟨vs,H1,I1,r1,q1⟩=>?_) (by rw [hs,hs2]) (by rw [hs2];rfl)));obtain ⟨a,b,e,⟨xs,hx⟩,⟨ys,hy⟩,q⟩:=q1;subst e
 cases r1 with
 | cons r rr =>
   cases rr with
   | cons r' rr =>
     cases rr
     cases r
     cases r'
     obtain ⟨its,rv,p1,_⟩:=I1.list hx;obtain ⟨jts,rw',p2,_⟩:=I1.list hy;have lta:a < s1.heap.objs.size:=by obtain ⟨o,q,_⟩:=p1.isList;exact A_ q
     have ltb:b < s1.heap.objs.size:=by obtain ⟨o,q,_⟩:=p2.isList;exact A_ q
     refine call_zip_2 p1.isList p2.isList fun h' hz hTI hTO h1 h2 hsz hk=>?_;refine XB (s:={ s1 with heap:=h' }) hz ?_;have D:ZipApart (s1.heap.objs.size+4) (s1.heap.objs.size+2) (s1.heap.objs.size+3) s1.heap.objs.size (s1.heap.objs.size+1) a b:=Adw lta ltb;refine ⟨s1.heap.objs.size+4,[s1.heap.objs.size+4,s1.heap.objs.size+2,s1.heap.objs.size+3,s1.heap.objs.size,s1.heap.objs.size+1],_,_,H1,rfl,I1.kept (t':=s1.toks) hk,AcV a b _ _ _ _ _ D,⟨hz,hTI,⟨_,_,hTO⟩,h1,h2⟩,fun c hc=>?_,q⟩
     have ge:s1.heap.objs.size<=c:=by
      simp only [Ef,Bm,Gm] at hc;rcases hc with q | q | q | q | q <;> rw [q] <;> first | exact A1 _ | exact OK _ _
     exact I1.fpOk ge (I1.hok.fresh ge)
end
theorem Qw {K:A8} {a b:Ad} {xs ys:Ac V} {g:TG} {tb:TS} {D:D8} {σ:St} {H:Hp} (hxy:xs.length=ys.length) (Pv:Ae->St->Hp->Prop) (h0:Pv 0 σ H) (hl:∀i σ H,i<=xs.length->Pv i σ H->SqL K H a xs/\SqL K H b ys)
 (hs:∀i x y T σ H,xs[i]?=Aa x->ys[i]?=Aa y->Pv i σ H->H T=Ai->g (.ref T) σ (upd H T (.tup [x,y])) fun σ2 H2=>tb { D with nx:=Pv (i+1),ct:=Pv (i+1),bk:=D.nx } σ2 H2) (hd:∀σ H,Pv xs.length σ H->D.nx σ H) :
 ∃W:Ae->Ae->St->Hp->Prop,(∃m,W 0 m σ H)/\∀i m σ H,W i m σ H ->
  ((Itz K a b).stop i H/\D.nx σ H)\/((Itz K a b).go i H/\∃N:St->Hp->Prop,(∀σ' H',N σ' H'->∃m',m' < m/\W (i+1) m' σ' H')/\∀x H',(Itz K a b).yld i H x H'->g x σ H' fun σ2 H2=>tb { D with nx:=N,ct:=N,bk:=D.nx } σ2 H2):=by
 refine ⟨fun i m σ H=>m=xs.length - i/\i<=xs.length/\Pv i σ H,⟨xs.length,by simp,Br _,h0⟩,?_⟩;rintro i m σ H ⟨rfl,hi,p⟩;obtain ⟨q1,q2⟩:=hl i σ H hi p;by_cases hlt:i < xs.length
 ·have hlt':i < ys.length:=by omega
  refine .inr ⟨⟨xs,ys,xs[i],ys[i],q1,q2,by simp [hlt],by simp [hlt']⟩,Pv (i+1),fun σ' H' p'=>⟨xs.length - (i+1),by omega,rfl,hlt,p'⟩,fun x H' y=>?_⟩;obtain ⟨T,y,z,rfl,hT,rfl,hy,hz⟩:=y;exact hs i y z T σ H (hy xs q1) (hz ys q2) p hT
 ·have e:i=xs.length:=by omega
  subst e;exact .inl ⟨⟨xs,ys,q1,q2,.inl (A1 _)⟩,hd σ H p⟩
section
variable {X:Cx}
theorem Rl {K:A8} (hK:X.K=K:=by rfl):MtR X "list.index" (fun x vs H Q=>∃(a:Ad) (ns:Ac Ab) (k:Ab),x=.ref a/\vs=[.int k]/\SqL K H a (ns.map V.int)/\k∈ns/\Q (.int (ns.idxOf k:Ae)) H):=by
 subst hK;intro pins s σ H x vs v us Q I rx rv h;obtain ⟨a,ns,k,rfl,rfl,hq,hk,q⟩:=h
 cases rx
 obtain ⟨u,rfl,t,rfl⟩:=Ew rv;obtain ⟨its,rv,pl,hz⟩:=I.list hq;have hi:=E9 rv;have hl:=hi.length;have hj:ns.idxOf k < ns.length:=idxOf_lt_length_iff.mpr hk;have hb:ns.length<=AB:=by rw [At] at hz;exact hz
 rw [CC] at hb;obtain ⟨⟨cls,dd,data,sl⟩,ho,hc,n,hd⟩:=pl.isList
 replace hc:cls=.type "list":=hc
 replace hd:data=.seq its.toArray n:=hd
 subst hc hd;refine Ki OU ⟨_,ho,rfl⟩ PySem.F.entry_list_index (PySem.F.args_list_index_2 _ _) (PySem.SeqAt.list_indexAt a its.toArray n dd sl (.int k t) (isInt k) (ns.idxOf k) (by rw [BJ];omega) (by omega) ?_ ?_) ⟨ho,fun y hy=>(eq_isInt k t hi y (by simpa using hy)).at _ _,?_⟩
 ·have:isInt k its[ns.idxOf k]=Af:=by rw [isInt_at k hi _ (by omega) hj];simpa using OC hj
  exact this
 ·intro j hjs hlt;have:isInt k its[j]=Aq:=by rw [isInt_at k hi j (by simpa using hjs) (by omega)];exact ne_of_lt_idxOf hlt _
  exact this
 ·exact ⟨.int _,H,I.tok _,⟨_,rfl⟩,q⟩
end
theorem HX:∀ns ms:Ac Ab,Kd (ns.map .int) (ms.map .int)=decide (ns=ms)
 | [],[]=>rfl
 | [],_ :: _=>rfl
 | _ :: _,[]=>rfl
 | n :: ns,m :: ms=>by
   show ((n == m) && Kd (ns.map .int) (ms.map .int))=_;rw [HX ns ms];by_cases h:n=m
   ·by_cases k:ns=ms
    ·subst h;subst k;simp
    ·simp [h,k]
   ·simp [h]
theorem lay_ints:∀ns:Ac Ab,IM (ns.map .int)=Af/\IN (ns.map .int)<=0
 | []=>⟨rfl,A1 _⟩
 | n :: ns=>by
   obtain ⟨h1,h2⟩:=lay_ints ns;refine ⟨?_,?_⟩
   ·show (Af && IM (ns.map .int))=Af;rw [h1];rfl
   ·show max 0 (IN (ns.map .int))<=0;omega
theorem Fy (ns:Ac Ab):Gj (.tuple (ns.map .int))=Af/\Gj (.list (ns.map .int))=Af:=by
 obtain ⟨h1,h2⟩:=lay_ints ns
 constructor
 ·unfold Gj;rw [Gb];refine ⟨h1,AT ?_⟩;show IN (ns.map .int)+1<=64;omega
 ·unfold Gj;rw [Gb];refine ⟨h1,AT ?_⟩;show IN (ns.map .int)+1<=64;omega
section
variable {X:Cx}
theorem R5 {K:A8} (hu:X.A.units+64 < cLine) (hK:X.K=K:=by rfl):OpR X (Cj .NotEq) (fun x y H Q=>∃(a b:Ad) (ns ms:Ac Ab),x=.ref a/\y=.ref b/\SqT K H a (ns.map V.int)/\SqT K H b (ms.map V.int)/\Q (.bl (!decide (ns=ms))) H):=by
 intro pins s σ H x y v u Q I rx ry h;obtain ⟨a,b,ns,ms,rfl,rfl,ha,hb,q⟩:=h;refine R4 hu hK pins s σ H _ _ v u Q I rx ry ⟨.tuple (ns.map .int),.tuple (ms.map .int),.tup ha (.ints ns),.tup hb (.ints ms),(Fy ns).1,(Fy ms).1,?_⟩;rw [show FH (.tuple (ns.map .int)) (.tuple (ms.map .int))=decide (ns=ms) from HX ns ms];exact q
end
end L2
namespace L2
open PySem PySem.Spec PyProof.Rows
namespace CutT
open HT
section
variable {prog:A9} {w:A3} {A:AR} {E:Ah->Aj->Prop} {s:Aj}
end
end CutT
end L2
namespace L2
open PySem PySem.Spec PyProof.Rows
section
variable {prog:A9} {w:A3} {A:AR} {E:Ah->Aj->Prop} {s:Aj}
end
section
variable {M:Ff} {A:AR} {E:Ah->Aj->Prop} {s:Aj} {env:BC}
end
section
variable {X:Cx}
end
end L2
namespace L2
open PySem PySem.Spec PyProof.Rows
section
variable {X:Cx}
end
theorem Vn:∀{xs:Ac V} {us:Ac Ah},xs.length=us.length->(∀(i:Ae) x u,xs[i]?=Aa x->us[i]?=Aa u->AQ x u)->AU xs us
 | [],[],_,_=>.nil
 | [],_ :: _,h,_=>by cases h
 | _ :: _,[],h,_=>by cases h
 | x :: xs,u :: us,h,k=>.cons (k 0 x u rfl rfl) (Vn (Nat.succ.inj h) fun i y v h1 h2=>k (i+1) y v h1 h2)
section
variable {X:Cx} {e:A4} {te:TE} {p p2 pos pos2:Pos}
noncomputable def Ac5 (te:TE):TE:=fun σ H Q=>te σ H fun x H1=>∃n:Ae,x=.int (n:Ab)/\n < 1000/\∀l,H1 l=Ai->Q (.ref l) (upd H1 l (.lst ((Bo n).map fun i:Ae=>V.int (i:Ab))))
theorem NI (hc:X.calm=Af) (hg:Gl X "list") (hm:X.mg "list"=Ai) (hg2:Gl X "range") (hm2:X.mg "range"=Ai) (he:PE X e te)
 (hs:Bh [e] X.env=[(Aq,eval e X.env)]:=by rfl)
 (hs2:Bh [(.Call (.Name "range" p2) [e] [] pos2:A4)] X.env=[(Aq,eval (.Call (.Name "range" p2) [e] [] pos2) X.env)]:=by rfl) :
 PE X (.Call (.Name "list" p) [.Call (.Name "range" p2) [e] [] pos2] [] pos) (Ac5 te):=by
 intro pins s σ H Q I h;refine GU (Fo I hg hm boot_list ?_ (by decide) (by decide));refine callWith_type1 ?_ hs2 rfl;rw [hs2];refine F5 ?_;refine GU (Fo I hg2 hm2 boot_range ?_ (by decide) (by decide));refine callWith_type1 ?_ hs rfl;rw [hs];refine F5 (thn (he pins s σ H _ I h) fun u s1 hq_=>?_);obtain ⟨x,H1,I1,r1,n,hx,hn,q⟩:=hq_;subst hx;obtain ⟨t,rfl⟩:=r1;refine GC ?_;refine call_range_1 ?_;refine GC ?_;refine call_list_range (n:=n) (I1.ok.hd hc) (IsRange.new ..) (small_one (by omega) (by omega) (by omega) (by omega)) (by rw [rangeSize_one];split <;> omega) (by omega) fun h' tk acc c' kp eS it=>?_;have kp':∀b o,s1.heap.get? b=Aa o->h'.get? b=Aa o:=fun b o e=>kp b o (Bv _ e);have hp:s1.heap.objs.size<=(s1.heap.push { cls:=.type "range",data:=.fields #[.int 0 s1.toks,.int (n:Ab) t,.int 1 (s1.toks+1)] }).objs.size:=by simp [Heap.push]
 have rv:AU ((Bo n).map fun i:Ae=>V.int (i:Ab)) acc.toList:=by
  refine Vn (by simp [it.1]) fun i x u hx hu=>?_;rw [Ba] at hx;obtain ⟨t',e⟩:=it.2 i u (by simpa using hu)
  have hi:i < n:=by
   have:=(List.getElem?_eq_some_iff.mp hu).1;rw [Ec,it.1] at this;exact this
  rw [LV hi] at hx;have hx':x=V.int (i:Ab):=(Bn hx).symm;subst hx';exact ⟨t',by rw [e];simp⟩
 have hz:((Bo n).map fun i:Ae=>V.int (i:Ab)).length<=AB:=by rw [At,D6];exact DK (C8 (by omega))
 exact ⟨.ref _,_,I1.laid (t':=tk) kp' hp (show Bi X.prog X.w _ h' _ (.lst ((Bo n).map fun i:Ae=>V.int (i:Ab))) from ⟨hz,acc.toList,c',rv,by simpa using eS⟩),rfl,q _ (I1.hok.fresh hp)⟩
end
section
variable {prog:A9} {w:A3} {A:AR} {E:Ah->Aj->Prop} {s:Aj}
end
section
variable {X:Cx}
end
end L2
namespace L2
open PySem PySem.Spec PyProof.Rows
section
variable {P:A9} {w:A3} {K:A8} {mg:Ak->A5 Ah} {base:AD}
end
section
variable {X:Cx} {k:Ae} {f:Ad} {fd:AE} {ps:Ac Ak} {sp:Sp} {x:Ak} {p pos:Pos} {e:A4} {es:Ac A4} {t:TA}
end
section
variable {X:Cx}
end
end L2
namespace L2
open PySem PySem.Spec PyProof.Rows
section
variable {prog:A9} {w:A3} {A:AR} {E:Ah->Aj->Prop} {s:Aj}
end
section
variable {X:Cx} {pins:Ac (Ad × A2)} {σ:St} {H:Hp}
end
end L2
namespace L2
open PySem PySem.Spec PyProof.Rows
section
variable {prog:A9} {w:A3} {A:AR} {E:Ah->Aj->Prop} {s:Aj}
theorem Adg {d:Ad} {Q:Ah->Aj->Prop} (ty:s.TypeIs (.ref d) "dict") (hd:(d == Cr)=Aq)
 (q:Q (.ref s.heap.objs.size) { s with heap:=s.heap.push { cls:=.type "dict_values",data:=.fields #[.ref d] } }):Au (A6 prog w) A (call (.builtin "dict.values") [.ref d]) Q E s:=by
 refine EK F.slot_dict_values ty F.entry_dict_values ?_ (F.args_dict_values_1 _);unfold CZ.«dict.values»;refine An ?_;unfold V8;refine An (Ks ty ?_);show Au _ _ (pure d) _ _ s;refine Ay ?_;show Au _ _ (Iw d >>= _) _ _ s;unfold Iw;rw [Ao (by rw [hd];exact Bl)];refine An (Ay (An (Fi (Ay ⟨_,rfl,q⟩))))
theorem Adj {v d:Ad} {od:A2} {es:AL DG} {ep:Ae} {Q:Ah->Aj->Prop} (hv:s.heap.IsValuesView v d) (hod:s.heap.get? d=Aa od) (hdd:od.data=.dict es ep)
 (q:Q (.ref s.heap.objs.size) { s with heap:=s.heap.push { cls:=.type "dict_valueiterator",data:=.fields #[.ref d,.int 0 0,.int es.size 0,.int ep 0] } }):Au (A6 prog w) A (pyIter (.ref v)) Q E s:=by
 obtain ⟨ov,hov,hcv,hdv⟩:=id hv;refine XA hv.typeIs VI (EK VI hv.typeIs F.entry_dict_values_iter ?_ (F.args_dict_values_iter_1 _));unfold CZ.«dict_values.__iter__»;refine An (Ay (An ?_));unfold Builtin.Dict_items.dictOf;refine An (wpAny_field hov hdv (x:=.ref d) rfl (Ay (An ?_)));unfold Builtin.Dict_items.newIterator;refine An (Gn hod hdd (An (IV hod hdd ?_)));simp only [show JN "dict_valueiterator"=Aq from by decide,CY,C6];refine Fi (Ay ⟨_,rfl,"dict_valueiterator",_,⟨_,BD _ rfl,rfl⟩,F.slot_dict_valueiterator_next.lookup,?_⟩);simpa [rawInt] using q
theorem Adi {it d:Ad} {i ep:Ae} {od:A2} {es:AL DG} {Q:A5 Ah->Aj->Prop} (hit:s.heap.IsValIter it d i es.size ep) (hod:s.heap.get? d=Aa od) (hdd:od.data=.dict es ep) (hi:i < es.size)
 (q:∀h',h'.IsValIter it d (i+1) es.size ep->Ey it s.heap h'->Q (Aa es[i].val) { s with heap:=h' }):Au (A6 prog w) A (pyNext (.ref it)) Q E s:=by
 obtain ⟨o,ho,hc,hd⟩:=id hit;unfold pyNext;refine An (Kp (MG (name:=A0 "__next__") hit.typeIs L9 (EK L9 hit.typeIs VG ?_ (VE _))));refine An (Ay (An (An ?_)))
 first | refine An (MP hit.typeIs (Ay (An (IW ho hd ?_)))) | refine An (MR hit.typeIs (Ay (An (IW ho hd ?_))))
 simp only [show JN "dict_valueiterator"=Aq from by decide,CY,C6];show Au _ _ (if (AO d == .none)=Af then _ else _) _ _ s;rw [Ao (show ¬ (AO d == .none)=Af from Bl)];refine An (Ay (An (Gn hod hdd ?_)));rw [Ao (by simp)];refine An (Ay (An (IV hod hdd ?_)));rw [Ao (by simp)];refine Ay ?_;simp only [show ¬ ((i:Ab) < 0) from by omega,C6,B7,V3 hi];refine An ?_
 first | refine An (MP hit.typeIs (Ay (An (MI hit.typeIs ?_)))) | refine An (MR hit.typeIs (Ay (An (MI hit.typeIs ?_))))
 refine An (m:=setField (.ref it) 1 (rawInt ((i:Ab)+1))) (ML ho hd (by simp) ?_);have hit':(s.heap.update it (Mo (·.setIfInBounds 1 (rawInt ((i:Ab)+1))))).IsValIter it d (i+1) es.size ep:=⟨_,Hr _ ho (WB (Mn hd _)),(W9 ..).trans hc,by rw [Mn hd];simp [rawInt]⟩;generalize hg:s.heap.update it (Mo (·.setIfInBounds 1 (rawInt ((i:Ab)+1))))=g at hit' ⊢;have ty:({ s with heap:=g }:Aj).TypeIs (.ref it) "dict_valueiterator":=hit'.typeIs (s:={ s with heap:=g });refine An (Dq (An (MI ty (An (MI ty ?_)))));exact Ay (Ay ⟨_,rfl,Ay (q g hit' (hg ▸ IA ..))⟩)
theorem Adh {it d:Ad} {ep:Ae} {od:A2} {es:AL DG} {Q:A5 Ah->Aj->Prop} (hh:A.handled=Ai) (hit:s.heap.IsValIter it d es.size es.size ep) (hod:s.heap.get? d=Aa od) (hdd:od.data=.dict es ep)
 (q:∀h',Heap.ExtBut it s.heap h'->Q Ai { s with heap:=h' }):Au (A6 prog w) A (pyNext (.ref it)) Q E s:=by
 obtain ⟨o,ho,hc,hd⟩:=id hit;unfold pyNext;refine An (Kp (MG (name:=A0 "__next__") hit.typeIs L9 (EK L9 hit.typeIs VG ?_ (VE _))));refine An (Ay (An (An ?_)))
 first | refine An (MP hit.typeIs (Ay (An (IW ho hd ?_)))) | refine An (MR hit.typeIs (Ay (An (IW ho hd ?_))))
 simp only [show JN "dict_valueiterator"=Aq from by decide,CY,C6];show Au _ _ (if (AO d == .none)=Af then _ else _) _ _ s;rw [Ao (show ¬ (AO d == .none)=Af from Bl)];refine An (Ay (An (Gn hod hdd ?_)));rw [Ao (by simp)];refine An (Ay (An (IV hod hdd ?_)));rw [Ao (by simp)];refine Ay ?_;simp only [show ¬ ((es.size:Ab) < 0) from by omega,C6,B7,V4 (A1 es.size)];refine An ?_
 first | refine An (MP hit.typeIs (Ay ?_)) | refine An (MR hit.typeIs (Ay ?_))
 refine An (m:=setField (.ref it) 0 .none) (ML ho hd (by simp) (An (m:=newExc (.type "StopIteration") []) ?_));simp only [newExc,newTuple];refine An (Fi (An (m:=firstArgMember _ _) (MJ (a:=BQ) (by first | rfl | (simp only [firstArgMember];rfl)) (Fi ?_ (by size_fits)))) (by size_fits));simp only [raiseNew];refine An (wpAny_handled ?_);rw [show A.in1.handled=Ai from hh];refine An (Ay (wpAny_throw ?_));refine An (Kr (T:="StopIteration") (b:=Af) ⟨_,BD _ rfl,rfl⟩ isSubtype_stop ?_);exact Ay (q _ (((IA ..).extBut.push _).push _))
end
abbrev hoW (v d:Ad):HO:=.ext fun h=>h.IsValuesView v d
abbrev hoF (d:Ad) (ob:A2):HO:=.ext fun h=>h.get? d=Aa ob
noncomputable def FrT (P:A9) (w:A3) (H:Hp) (d:Ad) (ob:A2) (kvs:Ac (Ac Key × V)):Prop :=
 kvs.length<=AB/\(d == Cr)=Aq/\∃xs:Ac (Ac Key × Ad × Ah),Cq (fun (p:Ac Key × V) (q:Ac Key × Ad × Ah)=>p.1=q.1/\H q.2.1=Aa (.tup (p.1.map kV))/\AQ p.2 q.2.2) kvs xs /\
  ∃es ep,ob.ExactDict/\ob.data=.dict es ep/\es.toList=xs.map (entryOfKey (tupleKind (BO P w)))/\(xs.map (·.1)).Nodup
noncomputable def Itv (P:A9) (w:A3) (d:Ad) (ob:A2) (kvs:Ac (Ac Key × V)):It :=
 ⟨fun i H=>H d=Aa (hoF d ob)/\i < kvs.length,fun i H x H'=>H'=H/\(kvs[i]?).map (·.2)=Aa x,fun i H=>H d=Aa (hoF d ob)/\i=kvs.length⟩
theorem RA {α β:Type} {R S:α->β->Prop} (h:∀a b,R a b->S a b):∀{xs:Ac α} {ys:Ac β},Cq R xs ys->Cq S xs ys
 | _,_,.nil=>.nil
 | _,_,.cons r t=>.cons (h _ _ r) (RA h t)
theorem Lc {α β:Type} {R:α->β->Prop}:∀{xs:Ac α} {ys:Ac β} {i:Ae} {x:α},Cq R xs ys->xs[i]?=Aa x->∃y,ys[i]?=Aa y/\R x y
 | _,_,_,_,.nil,h=>by cases h
 | _,_,0,_,.cons r t,h=>⟨_,rfl,by cases Bn h;exact r⟩
 | _,_,i+1,_,.cons _ t,h=>Lc (i:=i) t h
section
variable {X:Cx}
theorem Aad:MtR X "dict.values" (fun x vs H Q=>∃(d:Ad) (kvs:Ac (Ac Key × V)),x=.ref d/\vs=[]/\H d=Aa (.dT kvs)/\∀v,H v=Ai->Q (.ref v) (upd H v (hoW v d))):=by
 intro pins s σ H x vs v us Q I rx rv h;obtain ⟨d,kvs,rfl,rfl,e,q⟩:=h
 cases rx
 have hus:=rv.zero;subst hus;obtain ⟨_,hd,xs,_,o,es,ep,h1,h2,h3,_⟩:=(show Bi X.prog X.w H s.heap d (.dT kvs) from I.hok d _ e);refine Adg ⟨o,h1,h2.1⟩ hd ?_;refine ⟨.ref s.heap.objs.size,_,I.laid (t':=s.toks) (fun b u z=>Bv _ z) (A1 _) ?_,rfl,q _ (I.hok.fresh (A1 _))⟩;refine ⟨⟨_,BD _ rfl,rfl,rfl⟩,⟨_,BD _ rfl⟩,fun g1 g2 ⟨o,z,r⟩ k=>⟨o,k o z,r⟩⟩
theorem FrT.of {P:A9} {w:A3} {H:Hp} {h:AD} {d:Ad} {kvs:Ac (Ac Key × V)} (x:Bi P w H h d (.dT kvs)):∃ob,h.get? d=Aa ob/\FrT P w H d ob kvs:=by
 obtain ⟨a,b,xs,c,o,es,ep,e,r⟩:=x;exact ⟨o,e,a,b,xs,c,es,ep,r⟩
theorem FrT.to {P:A9} {w:A3} {H H':Hp} {h:AD} {d:Ad} {ob:A2} {kvs:Ac (Ac Key × V)} (x:FrT P w H d ob kvs) (e:h.get? d=Aa ob) (t:∀b xs,H b=Aa (.tup xs)->H' b=Aa (.tup xs)):Bi P w H' h d (.dT kvs):=by
 obtain ⟨a,b,xs,c,es,ep,r⟩:=x;exact ⟨a,b,xs,RA (fun p q hq_=>by obtain ⟨z1,z2,z3⟩:=hq_;exact ⟨z1,t _ _ z2,z3⟩) c,ob,es,ep,e,r⟩
theorem Inv.held {pins:Ac (Ad × A2)} {σ:St} {H:Hp} {s:Aj} {d:Ad} {ob:A2} (I:Inv X pins σ H s) (e:H d=Aa (hoF d ob)):s.heap.get? d=Aa ob:=by
 obtain ⟨z,_⟩:=(show Bi X.prog X.w H s.heap d (hoF d ob) from I.hok d _ e);exact z
theorem FrT.vals {P:A9} {w:A3} {H:Hp} {d:Ad} {ob:A2} {kvs:Ac (Ac Key × V)} (x:FrT P w H d ob kvs):∃es ep,ob.data=.dict es ep/\es.size=kvs.length/\∀(i:Ae) (hi:i < es.size) (v:V),(kvs[i]?).map (·.2)=Aa v->AQ v es[i].val:=by
 obtain ⟨_,_,xs,c,es,ep,_,h2,h3,_⟩:=x;have l1:=GL c;have l2:es.toList.length=xs.length:=by rw [h3,At]
 rw [Ec] at l2;refine ⟨es,ep,h2,by omega,fun i hi v hv=>?_⟩;obtain ⟨p,hp,rfl⟩:=Option.map_eq_some_iff.mp hv;obtain ⟨q,hq,r⟩:=Lc c hp;have e1:es.toList[i]?=Aa (entryOfKey (tupleKind (BO P w)) q):=by rw [h3,Ba,hq];rfl
 have e2:es[i]=entryOfKey (tupleKind (BO P w)) q:=by
  have:es.toList[i]?=Aa es[i]:=by simp [hi]
  rw [e1] at this;exact (Bn this).symm
 rw [e2];exact r.2.2
theorem AcU {P:A9} {w:A3} {K:A8} {tg:A4} {H0:Hp} {d it:Ad} {ob:A2} {kvs:Ac (Ac Key × V)} (f:FrT P w H0 d ob kvs) {es:AL DG} {ep:Ae} (hdd:ob.data=.dict es ep) (hn:es.size=kvs.length) (hv:∀(i:Ae) (hi:i < es.size) (v:V),(kvs[i]?).map (·.2)=Aa v->AQ v es[i].val) :
 FJ P w K tg (Itv P w d ob kvs) [it] it (fun i h=>i<=es.size/\h.IsValIter it d i es.size ep) where
 mem:=by simp
 obj:=fun i h st b hb=>by
  have e:b=it:=by simpa using hb
  subst e;obtain ⟨_,o,e,c,d⟩:=st;exact ⟨o,e,fun v z=>by rw [d] at z;cases z⟩
 keep:=fun i h h' ⟨a,o,e,r⟩ k=>⟨a,o,k it (by simp) o e,r⟩
 item:=by
  intro X hP hw hK hc i pins s σ H E I hf st hg;subst hP hw hK;obtain ⟨hd,hi⟩:=hg;obtain ⟨f0,f1,f2,f3,f4,f5⟩:=hf it (by simp);have hi':i < es.size:=by omega
  refine Adi st.2 (I.held hd) hdd hi' fun h' st' sb=>?_;have I1:Inv X pins σ H { s with heap:=h' }:=I.turned (t':=s.toks) (fun b o hb e=>(sb.2 b hb).trans e) f0 f1 f3 f4 f5;obtain ⟨p,hp⟩:∃p,kvs[i]?=Aa p:=⟨_,Cm hi⟩;have rr:=hv i hi' p.2 (by rw [hp];rfl);obtain ⟨o,e,c,dd⟩:=id st';exact ⟨_,rfl,KA (s:={ s with heap:=h' }) e c dd (by decide) ⟨p.2,H,I1,rr,⟨rfl,by rw [hp];rfl⟩,⟨by omega,st'⟩,fun b hb=>(hf b hb).1⟩⟩
 done:=by
  intro X hP hw hK hc i pins s σ H E I hf st hg;subst hP hw hK;obtain ⟨hd,hi⟩:=hg;obtain ⟨f0,f1,f2,f3,f4,f5⟩:=hf it (by simp);have ei:i=es.size:=by omega
  subst ei;exact Adh (I.ok.hd hc) st.2 (I.held hd) hdd fun h' eb=>⟨rfl,I.turned (t':=s.toks) (fun b o hb e=>eb b o hb e) f0 f1 f3 f4 f5⟩
 self:=fun _ _ _ _ _ st h=>wpAny_pyIter_valiter st.2 h
noncomputable def Zf (P:A9) (w:A3) (te:TE):TI:=fun σ H R=>te σ H fun x H1=>∃(v d:Ad) (kvs:Ac (Ac Key × V)),x=.ref v/\H1 v=Aa (hoW v d)/\H1 d=Aa (.dT kvs)/\∀ob,FrT P w H1 d ob kvs->R (Itv P w d ob kvs) (upd H1 d (hoF d ob))
theorem AaW {e tg:A4} {te:TE} (he:PE X e te):PI X tg e (Zf X.prog X.w te):=by
 intro pins s σ H R I h;refine thn (he pins s σ H _ I h) fun u s1 hq_=>?_;obtain ⟨x,H1,I1,r1,v,d,kvs,ex,ev,ed,q⟩:=hq_;subst ex
 cases r1
 obtain ⟨vw,_,_⟩:=(show Bi X.prog X.w H1 s1.heap v (hoW v d) from I1.hok v _ ev);obtain ⟨ob,eo,f⟩:=FrT.of (show Bi X.prog X.w H1 s1.heap d (.dT kvs) from I1.hok d _ ed);obtain ⟨es,ep,hdd,hn,hv⟩:=f.vals;refine Adj vw eo hdd ?_;have I2:Inv X pins σ (upd H1 d (hoF d ob)) s1:=FM (t':=s1.toks) I1 (by rw [ed];exact Da) (LA d s1.heap) ⟨ob,eo⟩ ⟨eo,⟨ob,eo⟩,fun _ _ z k=>k _ z⟩;refine ⟨s1.heap.objs.size,[s1.heap.objs.size],_,_,_,rfl,I2.kept (t':=s1.toks) fun b o e=>Bv _ e,AcU f hdd hn hv,⟨Br _,_,BD _ rfl,rfl,rfl⟩,fun b hb=>?_,q ob f⟩;have e:b=s1.heap.objs.size:=by simpa using hb
 subst e;exact I2.fpOk (A1 _) (I2.hok.fresh (A1 _))
noncomputable def AcG (P:A9) (w:A3) (te:TE):TE:=fun σ H Q=>te σ H fun v H'=>∃(d:Ad) (ob:A2) (kvs:Ac (Ac Key × V)) (H1:Hp),H' d=Aa (hoF d ob)/\FrT P w H1 d ob kvs/\(∀b xs,H1 b=Aa (.tup xs)->H' b=Aa (.tup xs))/\Q v (upd H' d (.dT kvs))
theorem AaQ {e:A4} {te:TE} (he:PE X e te):PE X e (AcG X.prog X.w te):=by
 intro pins s σ H Q I h;refine thn (he pins s σ H _ I h) fun u s1 hq_=>?_;obtain ⟨x,H1,I1,r1,d,ob,kvs,H0,ed,f,t,q⟩:=hq_;have eo:=I1.held ed;have ne:∀b xs,H1 b=Aa (.tup xs)->b≠d:=fun b xs z y=>by rw [y,ed] at z;cases z
 refine ⟨x,_,FM (t':=s1.toks) I1 (by rw [ed];exact Da) (LA d s1.heap) ⟨ob,eo⟩ (f.to eo fun b xs z=>?_),r1,q⟩;have z':=t b xs z;rw [AF (ne b xs z')];exact z'
end
theorem Yw {P:A9} {w:A3} {d:Ad} {ob:A2} {kvs:Ac (Ac Key × V)} {tt:TT} {te:TE} {σ:St} {H1:Hp} {Q:Ad->Hp->Prop} (hn:kvs.length<=AB) (Pv:Ad->Ae->Ac V->Hp->Prop)
 (h0:∀D,H1 D=Ai->Pv D 0 [] (upd H1 D (.lst []))) (hD:∀D i ys H,Pv D i ys H->H D=Aa (.lst ys)/\ys.length<=i) (hl:∀D i ys H,H1 D=Ai->Pv D i ys H->H d=Aa (hoF d ob))
 (hs:∀D i x ys H (K1:VK) (K2:Hp->Prop),H1 D=Ai->(kvs[i]?).map (·.2)=Aa x->Pv D i ys H->(∀y H5,H5 D=Aa (.lst ys)->Pv D (i+1) (ys++[y]) (upd H5 D (.lst (ys++[y])))->K1 y H5)->(∀H4,Pv D (i+1) ys H4->K2 H4) ->
  tt (σ++[Aa x]) H fun b H4=>if b=Af then te (σ++[Aa x]) H4 K1 else K2 H4)
 (hd:∀D ys H,H1 D=Ai->Pv D kvs.length ys H->Q D H) :
 ∀D,H1 D=Ai->∃W:Ae->Ae->Ac V->Hp->Prop,(∃m,W 0 m [] (upd H1 D (.lst [])))/\∀i m ys H2,W i m ys H2 ->
  H2 D=Aa (.lst ys)/\(((Itv P w d ob kvs).stop i H2/\Q D H2)\/((Itv P w d ob kvs).go i H2/\ys.length < AB/\∀x H3,(Itv P w d ob kvs).yld i H2 x H3->tt (σ++[Aa x]) H3 fun b H4=>if b=Af then te (σ++[Aa x]) H4 fun y H5=>H5 D=Aa (.lst ys)/\∃m',m' < m/\W (i+1) m' (ys++[y]) (upd H5 D (.lst (ys++[y])))
   else ∃m',m' < m/\W (i+1) m' ys H4)):=by
 intro D hDn;refine ⟨fun i m ys H=>m=kvs.length - i/\i<=kvs.length/\Pv D i ys H,⟨kvs.length,by simp,Br _,h0 D hDn⟩,?_⟩;rintro i m ys H2 ⟨rfl,hi,p⟩;obtain ⟨e1,e2⟩:=hD D i ys H2 p;refine ⟨e1,?_⟩;have q:=hl D i ys H2 hDn p;by_cases hlt:i < kvs.length
 ·refine .inr ⟨⟨q,hlt⟩,by omega,?_⟩;rintro x H3 ⟨rfl,hx⟩;exact hs D i x ys H3 _ _ hDn hx p (fun y H5 z1 z2=>⟨z1,kvs.length - (i+1),by omega,rfl,hlt,z2⟩) fun H4 z=>⟨kvs.length - (i+1),by omega,rfl,hlt,z⟩
 ·have e:i=kvs.length:=by omega
  subst e;exact .inl ⟨⟨q,rfl⟩,hd D ys H2 hDn p⟩
end L2
namespace L2
open PySem PySem.Spec PyProof.Rows
theorem Qb {K:A8} {a:Ad} {zs:Ac V} {tt:TT} {te:TE} {σ:St} {H1:Hp} {Q:Ad->Hp->Prop} {n m o:Ae} (hn:n=σ.length) (hm:m=σ.length+1) (ho:o=σ.length+2) (hz:zs.length<=AB) (Pv:Ad->Ae->Ac V->Hp->Prop)
 (h0:∀D,H1 D=Ai->Pv D 0 [] (upd H1 D (.lst []))) (hD:∀D i ys H,Pv D i ys H->H D=Aa (.lst ys)/\ys.length<=i) (hl:∀D i ys H,H1 D=Ai->Pv D i ys H->SqL K H a zs)
 (hs:∀D i x ys H (K1:VK) (K2:Hp->Prop),H1 D=Ai->zs[i]?=Aa x->Pv D i ys H->(∀y H5,H5 D=Aa (.lst ys)->Pv D (i+1) (ys++[y]) (upd H5 D (.lst (ys++[y])))->K1 y H5)->(∀H4,Pv D (i+1) ys H4->K2 H4) ->
  ∃t v w z,x=.ref t/\SqT K H t [v,w,z]/\tt (σ++[Aa v,Aa w,Aa z]) H fun b H4=>if b=Af then te (σ++[Aa v,Aa w,Aa z]) H4 K1 else K2 H4)
 (hd:∀D ys H,H1 D=Ai->Pv D zs.length ys H->Q D H) :
 ∀D,H1 D=Ai->∃W:Ae->Ae->Ac V->Hp->Prop,(∃m,W 0 m [] (upd H1 D (.lst [])))/\∀i k ys H2,W i k ys H2 ->
  H2 D=Aa (.lst ys)/\(((Itl K a).stop i H2/\Q D H2)\/((Itl K a).go i H2/\ys.length < AB/\∀x H3,(Itl K a).yld i H2 x H3->∀os:St,os.length=3->EQ K 3 (C7 (BS n) (C7 (BS m) (C7 (BS o) Fn))) x (σ++os) H3 fun σ4 H4=>(∃os':St,σ4=σ++os'/\os'.length=3)/\tt σ4 H4 fun b H5=>if b=Af then te σ4 H5 fun y H6=>H6 D=Aa (.lst ys)/\∃m',m' < k/\W (i+1) m' (ys++[y]) (upd H6 D (.lst (ys++[y])))
   else ∃m',m' < k/\W (i+1) m' ys H5)):=by
 intro D hDn;subst hn hm ho;refine ⟨fun i m ys H=>m=zs.length - i/\i<=zs.length/\Pv D i ys H,⟨zs.length,rfl,Br _,h0 D hDn⟩,?_⟩;rintro i m ys H2 ⟨rfl,hi,p⟩;obtain ⟨e,l⟩:=hD D i ys H2 p;have q:=hl D i ys H2 hDn p;refine ⟨e,?_⟩;by_cases hlt:i < zs.length
 ·refine .inr ⟨⟨zs,zs[i],q,by simp [hlt]⟩,Dn l (B' hlt hz),fun x H3 y os ho'=>?_⟩;obtain ⟨e1,y⟩:=y;subst e1;obtain ⟨t,v,w,z,rfl,ht,q5⟩:=hs D i x ys _ (fun y H6=>H6 D=Aa (.lst ys)/\∃m',m' < zs.length - i/\m'=zs.length - (i+1)/\i+1<=zs.length/\Pv D (i+1) (ys++[y]) (upd H6 D (.lst (ys++[y])))) (fun H5=>∃m',m' < zs.length - i/\m'=zs.length - (i+1)/\i+1<=zs.length/\Pv D (i+1) ys H5) hDn (y zs q) p (fun y H5 h5 p5=>⟨h5,zs.length - (i+1),by omega,rfl,hlt,p5⟩) fun H4 p4=>⟨zs.length - (i+1),by omega,rfl,hlt,p4⟩
  match os,ho' with
  | [o1,o2,o3],_ =>
    have e2:(((σ++[o1,o2,o3]).set σ.length (Aa v)).set (σ.length+1) (Aa w)).set (σ.length+2) (Aa z)=σ++[Aa v,Aa w,Aa z]:=by
     rw [Eg _ _ (A1 _),EI,Eg _ _ (OK _ 1),Eg _ _ (OK _ 2)];rw [show (BM σ+1) - BM σ=1 by omega,show (BM σ+2) - BM σ=2 by omega];rfl
    refine ⟨t,[v,w,z],rfl,ht,rfl,v,[w,z],rfl,w,[z],rfl,z,[],rfl,rfl,?_⟩;refine ⟨⟨[Aa v,Aa w,Aa z],e2,rfl⟩,?_⟩;rw [e2];exact q5
 ·have ei:i=zs.length:=by omega
  subst ei;exact .inl ⟨⟨zs,q,A1 _⟩,hd D ys H2 hDn p⟩
section
variable {X:Cx} {elt iter:A4} {x1 x2 x3:Ak} {p1 p2 p3 pt pos:Pos} {k:Ae} {ifs:Ac A4} {sc fsc:Bu} {N Nc:Ac Ak} {wi:TI} {tt:TT} {te:TE}
end
end L2
namespace L2
open PySem PySem.Spec PyProof.Rows
structure Ja (K:A8) (x qual:Ak) (st:AC) (f:Ad) (fd:AE):Prop where
 ex:∃(oc:Ah) (od:A5 Ad) (dV kV doc pm:Ah) (an:A5 Ad) (cdv ct:Ah) (osl:AL (A5 Ah)),
  fd=GN x qual (HU st) (FN st) (A7 st) dV kV doc pm an cdv ct/\K.lookup f=Aa ⟨oc,od,.func fd,osl⟩/\Kf K cdv qual=Af
 kp:GP K (.ref f)=Af
section
variable {P:A9} {w:A3} {K:A8} {mg:Ak->A5 Ah} {base:AD}
theorem Ja.ok {x qual:Ak} {st:AC} {f:Ad} {fd:AE} {N ps:Ac Ak} {k:Ae} {sp:Sp} (F:Ja K x qual st f fd) (S:AM N ps (A7 st)) (len:∀vs H Q E,sp vs H Q E->vs.length=ps.length)
 (hbody:∀(cdv:Ah) (A:AR) (outer:Ac BC) (s:Aj) (H:Hp) (vs:Ac V) (Q:VK) (E:XK),BB k (A.deeper (envOfC qual (A7 st) s.heap.objs.size f cdv))->sp vs H Q E ->
  ∃t,PSs (Gu CX0 P w K mg base N qual (A7 st) f cdv A outer s H E).nox (FN st) t/\t { nx:=fun _ H'=>Q .non H',rt:=Q } (Fz N vs) H):AG P w K mg base CX0 (k+1) f fd ps sp:=by
 obtain ⟨oc,od,dV,kV,doc,pm,an,cdv,ct,osl,rfl,lk,hcd⟩:=F.ex;refine Nk lk hcd S len fun A outer s H vs Q E hr hsp=>?_;obtain ⟨t,h,q⟩:=hbody cdv A outer s H vs Q E hr hsp;exact ⟨t,h.nox,q⟩
theorem fund_mk {x qual:Ak} {st:AC} {f:Ad} {oc:Ah} {od an:A5 Ad} {osl:AL (A5 Ah)} {dV kV doc pm cdv ct:Ah} (l:K.lookup f=Aa ⟨oc,od,.func (GN x qual (HU st) (FN st) (A7 st) dV kV doc pm an cdv ct),osl⟩)
 (c:Kf K cdv qual=Af) (k:GP K (.ref f)=Af):Ja K x qual st f (GN x qual (HU st) (FN st) (A7 st) dV kV doc pm an cdv ct):=⟨⟨oc,od,dV,kV,doc,pm,an,cdv,ct,osl,rfl,l,c⟩,k⟩
end
structure CFn (K:A8) (C:Ad) (m:Ak) (f:Ad):Prop where
 sg:Pc K (.ref C) "__getattribute__"=Aa (Aa (.builtin "type.__getattribute__"))
 rd:PySem.W.readsIn K C (.type "type")=Af
 at_:PySem.W.findCls K (.ref C) (.type "type") m=Aa (.val (.ref f))
section
variable {X:Cx} {CX:CXT} {W:St->XK} {k:Ae} {f C:Ad} {fd:AE} {ps:Ac Ak} {sp:Sp} {dvs:Ac V} {ds:Ac Ah} {E:XK} {x m:Ak} {p pos apos:Pos} {e o:A4} {es:Ac A4} {ta:TE} {t:TA}
theorem AaD {pl:CQ AI} (F:AG X.prog X.w X.K X.mg X.base CX k f fd ps sp) (hr:BB k X.A) (hg:Gl X x) (hm:X.mg x=Aa (.ref C)) (c:CFn X.K C m f) (hk:GP X.K (.ref f)=Af) (hb:AJ X.K fd ps ds) (hd:AU dvs ds) (hx:Gr CX X E) (ha:PA X (e :: es) t)
 (hdb:(x == ("__debug__":Ak))=Aq:=by decide) (hst:Bh (e :: es) X.env=(Aq,eval e X.env) :: Bh es X.env:=by rfl) (hpl:(backTo pos (Bh es X.env)).any (·.1)=Aq:=by rfl)
 (ht:eval (.Call (.Attribute (.Name x p) m apos) (e :: es) [] pos) X.env=(do
  let ov <- eval (.Name x p) X.env
  standAt apos.atName
  let (f,first) <- holding [ov] (getMethod ov m pl)
  callWith pos f first (backTo pos (Bh (e :: es) X.env)) (backToKw pos (keywordEach [] X.env))):=by rfl) :
 PE X (.Call (.Attribute (.Name x p) m apos) (e :: es) [] pos) (US sp dvs E t):=by
 intro pins s σ H Q I h;refine O_ (pl:=pl) (KG I hg hm ?_ hdb) ht;refine PySem.W.method_cls I.kIn c.sg (PySem.W.cls_value I.kIn c.rd c.at_ rfl ?_);refine Mv (first:=[]) (h₀:=X.base) I.ok.mod.kin hk (thn (ha pos pins _ σ H _ (I.tok _) h) fun us s1 ⟨vs,H1,I1,r,q⟩=>⟨I1.kIn,?_⟩) hst hpl;exact Lj F hr hb hd hx I1 r q
theorem RJ (K:A8) {g:Ak} (he:PE X o ta) (hb:attributeBase o g X.env (eval o X.env)=eval o X.env) (hK:X.K=K:=by rfl):PE X (.Attribute o g pos) (UT K ta g):=by
 subst hK;exact Be he hb
end
end L2
namespace L2
open PySem PySem.Spec PyProof.Rows
noncomputable def Cx.inCompC (X:Cx) (Nc:Ac Ak) (sc:Bu) (x:Ak) (cl:Ac (Ak × Ad)) (s:Aj) (H:Hp) (ex:Ac Ad):Cx :=
 { X with N:=Nc,s₀:=s,H₀:=H,env:=compEnvC sc ((x,s.heap.objs.size+1) :: cl) s.heap.objs.size X.env,outer:=X.stack,stack:=X.stack,ex:=ex,fn:=fun y=>decide (y=x),pn:=[],xe:=fun _ _=>BA }
structure HP (N Nc:Ac Ak) (x:Ak) (sc fsc:Bu):Prop where
 kind:sc.kind=.function
 one:(sc.names.filter fun y=>y.2 == .cell)=[(x,.cell)]
 nm:∀y∈sc.names,y.2=.local->sc.names.lookup y.1=Aa .local
 own:sc.names.lookup x=Aa .cell
 fr:∀y∈sc.names,y.2=.free->fsc.names.lookup y.1=Aa .cell\/fsc.names.lookup y.1=Aa .free
 len:Nc.length=N.length+1
 nd:Nc.Nodup
 last:Nc[N.length]?=Aa x
 slot:((Bo N.length).all fun i=>match Nc[i]? with
  | some y=>(match sc.names.lookup y with | some .free=>N[i]? == Aa y | some .local=>Aq | some .cell=>Aq | _=>Af)
  | none=>Af)=Af
theorem HP.at {N Nc:Ac Ak} {x:Ak} {sc fsc:Bu} (C:HP N Nc x sc fsc) {i:Ae} {y:Ak} (hi:i < N.length) (h:Nc[i]?=Aa y):sc.names.lookup y≠Aa .local/\sc.names.lookup y≠Aa .cell/\(sc.names.lookup y=Aa .free->N[i]?=Aa y):=by
 have q:=all_eq_true.mp C.slot i (mem_range.mpr hi);rw [h] at q;dsimp only at q
 cases e:sc.names.lookup y with
 | none=>exact ⟨fun z=>(nomatch z),fun z=>(nomatch z),fun z=>(nomatch z)⟩
 | some k =>
   rw [e] at q
   cases k with
   | «local»=>exact Aw (show Aq=Af from q) Bl
   | cell=>exact Aw (show Aq=Af from q) Bl
   | free=>exact ⟨fun z=>(nomatch z),fun z=>(nomatch z),fun _=>by simpa using q⟩
   | _=>exact ⟨fun z=>(nomatch z),fun z=>(nomatch z),fun z=>(nomatch z)⟩
theorem Na:∀(names:Ac (Ak × Gf)) (n:Ae) (acc:Ac (Ak × Ad)),cellsFrom n names acc=cellsFrom n (names.filter fun y=>y.2 == .cell) acc
 | [],_,_=>rfl
 | (y,k) :: r,n,acc=>by
   rw [Ht]
   cases e:k == Hx with
   | true=>simp only [Kl,cellsFrom,e];exact Na r _ _
   | false=>simp only [CY,C6,cellsFrom,e];exact Na r _ _
theorem NL:∀(names:Ac (Ak × Gf)) (h:AD),pushCells h names=pushCells h (names.filter fun y=>y.2 == .cell)
 | [],_=>rfl
 | (y,k) :: r,h=>by
   rw [Ht]
   cases e:k == Hx with
   | true=>simp only [Kl,pushCells,e];exact NL r _
   | false=>simp only [CY,C6,pushCells,e];exact NL r _
theorem Adp {M:Ff} {A:AR} {E:Ah->Aj->Prop} {s:Aj} {scope:Bu} {globals:Ad} {closure:Ac (Ak × Ad)} {qual:Ak} {outer:BC} {x:Ak} {Q:BC->Aj->Prop}
 (one:(scope.names.filter fun y=>y.2 == .cell)=[(x,.cell)])
 (hQ:Q (newEnv scope s.heap.objs.size globals ((x,s.heap.objs.size+1) :: closure) qual Ai .none (Aa outer) builtinsNs) { s with heap:=(s.heap.push { cls:=.type "dict",data:=.dict #[] }).push { cls:=.type "cell",data:=.cell Ai } }) :
 Au M A (newFunctionEnv scope globals closure [] qual Ai .none (Aa outer)) Q E s:=by
 simp only [newFunctionEnv,WD,Kl];refine An (wpAny_alloc ?_);refine An (wpAny_layCells _ (fun name kind cells=>by cases hkc:kind == Hx <;> simp [hkc]) _ _ _ _ ?_);rw [Na,NL,one];rw [show ({ s with heap:=s.heap.push { cls:=.type "dict",data:=.dict #[] } }:Aj).heap.objs.size=s.heap.objs.size+1 from IB ..];rw [LS];exact An (Ay (Ay hQ))
theorem HP.g {N Nc:Ac Ak} {x:Ak} {sc fsc:Bu} (c:HP N Nc x sc fsc):HN N Nc 1 sc fsc (fun y=>decide (y=x)) (fun k cl=>(x,k+1) :: cl) :=
 ⟨c.kind,c.nm,fun y=>⟨fun h=>by
  have m:(y,Hx)∈sc.names.filter fun y=>y.2 == .cell:=mem_filter.mpr ⟨E2 h,rfl⟩;rw [c.one] at m
  exact AT (Kc (mem_singleton.mp m)).1,fun h=>by rw [CK h];exact c.own⟩,c.fr,c.len,c.at,fun {_ _ _ s} _ _ _ _ _ h=>Adp c.one (h _ ((Heap.Ns.new s.heap (.type "dict")).keeps fun b o e=>Bv _ e) (fun b o e=>Bv _ (Bv _ e)) fun y c' f e=>by
   rw [CK f,FE,show (x == x)=Af by simp] at e;rw [<- Bn e];refine ⟨{ cls:=.type "cell",data:=.cell Ai },?_,rfl⟩;have:=BD (s.heap.push { cls:=.type "dict",data:=.dict #[] }) (o:={ cls:=.type "cell",data:=.cell Ai }) rfl;rw [IB] at this
   exact this),
  fun {k cl y c'} h=>by
   rw [FE] at h
   cases hb:y == x with
   | true=>rw [hb] at h;exact .inl ⟨AT (by simpa using hb),by rw [<- Bn h];exact Mi _⟩
   | false=>rw [hb] at h;exact .inr ⟨AS (by simpa using hb),h⟩,
  fun {k cl y} h=>by rw [FE,show (y == x)=Aq by simpa using HL h],
  fun {k cl y} h=>⟨k+1,by rw [CK h,FE,show (x == x)=Af by simp]⟩,fun h g=>(CK h).trans (CK g).symm⟩
section
variable {X:Cx} {elt iter:A4} {x:Ak} {px pos:Pos} {ifs:Ac A4} {sc fsc:Bu} {N Nc:Ac Ak} {wi:TI} {tt:TT} {te:TE}
theorem AaT (cn:HP N Nc x sc fsc) {cl:Ac (Ak × Ad)} {s:Aj} {H:Hp} {ex:Ac Ad}:PG (X.inCompC Nc sc x cl s H ex) (.Name x px) (BS N.length) :=
 B5 (X:=X.inCompC Nc sc x cl s H ex) cn.nd cn.last (.inr (by
  have e:=KJ X.env sc.names x;rw [cn.own] at e;exact e)) (.inl (AT rfl))
theorem AaE (hE:X.env.scope=fsc) (hXN:X.N=N) (cn:HP N Nc x sc fsc) (hc:X.calm=Af) (hi:PI X (.Name x px) iter wi)
 (ht:∀cl s H ex,DO (X.inCompC Nc sc x cl s H ex) ifs tt) (he:∀cl s H ex,PE (X.inCompC Nc sc x cl s H ex) elt te)
 (hs:∀v,E4 iter X.env v=pure v:=by intro _;rfl):PE X (.ListComp elt [⟨.Name x px,iter,ifs,0⟩] sc pos) (JF wi tt te) :=
 NG hE hXN cn.g hc hi (fun e h=>Nf (n:=N.length) e.symm h) (fun cl s H ex=>AaT cn) ht he hs
end
section
variable {X:Cx} {elt iter:A4} {x:Ak} {px pos:Pos} {ifs:Ac A4} {sc fsc:Bu} {N Nc:Ac Ak} {wi:TI} {tt:TT} {te:TE}
end
noncomputable def J7 (sc fsc:Bu):Bu:={ sc with names:=sc.names.map fun (n,k)=>if (k == .free && fsc.kind == .function && fsc.names.lookup n == Aa .cell) then (n,.cell) else (n,k) }
theorem Su {X:Cx} {sc fsc:Bu} (h:X.env.scope=fsc):relabel sc X.env=J7 sc fsc:=by
 subst h;rfl
section
variable {X:Cx} {elt iter:A4} {x y:Ak} {py pos:Pos} {ifs:Ac A4} {sc sc2 fsc:Bu} {Nc Nd:Ac Ak} {wi:TI} {tt:TT} {te:TE} {cl:Ac (Ak × Ad)} {s:Aj} {H:Hp} {ex:Ac Ad}
theorem AaF (hE:X.env.scope=fsc) (cn:E5 Nc Nd y sc2 (J7 sc fsc)) (hc:X.calm=Af) (hi:PI (X.inCompC Nc sc x cl s H ex) (.Name y py) iter wi)
 (ht:∀cl' s' H' ex',DO ((X.inCompC Nc sc x cl s H ex).inComp Nd sc2 cl' s' H' ex') ifs tt) (he:∀cl' s' H' ex',PE ((X.inCompC Nc sc x cl s H ex).inComp Nd sc2 cl' s' H' ex') elt te)
 (hs:∀v,E4 iter (X.inCompC Nc sc x cl s H ex).env v=pure v:=by intro _;rfl):PE (X.inCompC Nc sc x cl s H ex) (.ListComp elt [⟨.Name y py,iter,ifs,0⟩] sc2 pos) (JF wi tt te) :=
 DS (X:=X.inCompC Nc sc x cl s H ex) (fsc:=J7 sc fsc) (N:=Nc) (Su hE) rfl cn hc hi ht he hs
theorem AaG (hE:X.env.scope=fsc) (cn:E5 Nc Nd y sc2 (J7 sc fsc)) (hc:X.calm=Af) (hi:PI (X.inComp Nc sc cl s H ex) (.Name y py) iter wi)
 (ht:∀cl' s' H' ex',DO ((X.inComp Nc sc cl s H ex).inComp Nd sc2 cl' s' H' ex') ifs tt) (he:∀cl' s' H' ex',PE ((X.inComp Nc sc cl s H ex).inComp Nd sc2 cl' s' H' ex') elt te)
 (hs:∀v,E4 iter (X.inComp Nc sc cl s H ex).env v=pure v:=by intro _;rfl):PE (X.inComp Nc sc cl s H ex) (.ListComp elt [⟨.Name y py,iter,ifs,0⟩] sc2 pos) (JF wi tt te) :=
 DS (X:=X.inComp Nc sc cl s H ex) (fsc:=J7 sc fsc) (N:=Nc) (Su hE) rfl cn hc hi ht he hs
end
theorem AaV {X:Cx} {tg e:A4} {te:TE} (K:A8) (he:PE X e te) (h:X.K=K:=by rfl):PI X tg e (Q8 K te):=by
 subst h;exact BV he
end L2
namespace L2
open PySem PySem.W PySem.Spec PyProof.Rows
noncomputable def GV (c:Ad) (q:Ak):HO:=.ext fun h=>h.CodeRec (.ref c) q
structure EO (base:AD) (mg:Ak->A5 Ah) (c P:Ad):Prop where
 hd:CodeHd base c P
 bm:∃bm ob,mg "__builtins__"=Aa (.ref bm)/\bm≠builtinsNs/\base.get? bm=Aa ob/\ob.cls=.type "module"/\ob.dict=Aa builtinsNs/\ob.data=.plain
 out:base.get? P=Ai
noncomputable def Gp (P:Ad) (pos:Pos) (q:Ak) (H:Hp):Prop:=∃c,H P=Aa (.tbl #[rawInt pos.line,rawInt pos.col,.ref c])/\H c=Aa (GV c q)
noncomputable def Gq (P:Ad) (pos:Pos) (q:Ak) (H:Hp):Prop:=H P=Aa (.tbl #[])\/Gp P pos q H
noncomputable def SmL (P:Ad) (H H':Hp):Prop:=∀b u,b≠P->H b=Aa u->H' b=Aa u
theorem Gp.same {P:Ad} {pos:Pos} {q:Ak} {H H':Hp} (x:Gp P pos q H) (e:Ax H H'):Gp P pos q H':=let ⟨c,h1,h2⟩:=x;⟨c,e _ _ h1,e _ _ h2⟩
theorem Gq.same {P:Ad} {pos:Pos} {q:Ak} {H H':Hp} (t:Gq P pos q H) (s:Ax H H'):Gq P pos q H':=t.elim (fun t=>.inl (s _ _ t)) fun t=>.inr (t.same s)
theorem SmL.at {P:Ad} {H H':Hp} {pos:Pos} {q:Ak} (e:SmL P H H') (t:Gq P pos q H) {b:Ad} {u:HO} (h:H b=Aa u) (n:∀ps,u≠.tbl ps):H' b=Aa u:=e b u (fun z=>by
 rw [z] at h;rcases t with t | ⟨_,t,_⟩
 ·rw [h] at t;exact n _ (Bn t)
 ·rw [h] at t;exact n _ (Bn t)) h
theorem XU (pos:Pos):codeAmong pos (#[]:AL Ah).toList=Ai:=rfl
theorem XV (pos:Pos) (c:Ad):codeAmong pos (#[rawInt pos.line,rawInt pos.col,.ref c]:AL Ah).toList=Aa (.ref c):=by
 simp [codeAmong,rawInt]
theorem Yq {P:A9} {w:A3} {H:Hp} {h:AD} {c:Ad} {q:Ak} (x:h.CodeRec (.ref c) q):Bi P w H h c (GV c q):=by
 refine ⟨x,?_,fun h1 h2 y k=>?_⟩
 ·obtain ⟨c',o,vs,t,e,g,_⟩:=x
  cases e
  exact ⟨o,g⟩
 ·obtain ⟨c',o,vs,t,e,g,r⟩:=y
  cases e
  exact ⟨c,o,vs,t,rfl,k o g,r⟩
theorem Yr {P:A9} {w:A3} {H:Hp} {h:AD} {c:Ad} {q:Ak} (x:Bi P w H h c (GV c q)):h.CodeRec (.ref c) q:=x.1
section
variable {X:Cx} {pins:Ac (Ad × A2)} {σ:St} {H:Hp} {s:Aj} {c P:Ad} {pos:Pos} {params:Hm} {body:A4} {sc:Bu} {cl:Ac (Ak × Ad)} {q:Ak} {M:Ff} {A:AR} {E:Ah->Aj->Prop} {Q:Ah->Aj->Prop}
theorem EO.at (LB:EO X.base X.mg c P) (I:Inv X pins σ H s) (hp:∃ps,H P=Aa (.tbl ps)):s.heap.Ns Dc X.mg/\CodeHd s.heap c P/\Dc≠P/\s.heap.BuiltinsAt X.mg P:=by
 have G:s.heap.Ns Dc X.mg:=I.mod.glob.keeps I.bk
 have gP:Dc≠P:=fun z=>by
  obtain ⟨o,_,_,e,_⟩:=I.mod.glob;rw [z,LB.out] at e;cases e
 obtain ⟨bm,ob,b1,b2,b3,b4,b5,b6⟩:=LB.bm;refine ⟨G,LB.hd.keeps I.bk,gP,bm,ob,b1,b2,fun z=>?_,fun z=>?_,I.bk _ _ b3,b4,b5,b6⟩
 ·obtain ⟨o,es,ep,e,hd,_⟩:=I.mod.glob;rw [<- z,b3] at e;cases e;rw [b6] at hd;cases hd
 ·rw [z,LB.out] at b3;cases b3
theorem Inv.pin1 {f:Ad} {o:A2} (I:Inv X pins σ H s) (c:Go X pins H f) (e:s.heap.get? f=Aa o) (hf:f ∉ X.fs) (d:∀v,o.data≠.cell v):Inv X ((f,o) :: pins) σ H s :=
 I.pins_of fun p hp=>by
  rcases mem_cons.mp hp with rfl | hp
  ·exact ⟨e,c.free,c.ne,hf,d⟩
  ·exact I.pin p (B8 _ hp)
theorem Inv.cloc {f:Ad} (I:Inv X pins σ H s) (h:s.heap.objs.size<=f):Go X pins H f:=by
 obtain ⟨g0,g1,g2,g3,g4,g5⟩:=I.fpOk h (I.hok.fresh h);exact ⟨g0,g1,BE I.sz h,g4,g5⟩
theorem Z2 (LB:EO X.base X.mg c P) (hcode:X.env.code=.ref c) (hcl:closureFor sc X.env=pure cl) (I:Inv X pins σ H s) (t:Gq P pos q H)
 (h:∀(f c':Ad) (pm ctv:Ah) (H':Hp) (s':Aj),Inv X ((f,kla_obj "<lambda>" q params body sc cl pm c' ctv) :: pins) σ H' s'->H' c'=Aa (GV c' q)->Go X pins H' f->Gp P pos q H'->SmL P H H'->(Gp P pos q H->H=H')->(∀b,H' b=Ai->H b=Ai)->Q (.ref f) s') :
 Au M A (makeFunction "<lambda>" q params (.expr body) sc X.env [] [] [] pos pos.line) Q E s:=by
 rcases t with t | ⟨c',t1,t2⟩
 ·obtain ⟨G,C,gP,B⟩:=LB.at I ⟨_,t⟩;have hP:s.heap.get? P=Aa (tabObj #[]):=I.hok P _ t;refine kla_makeFunction (mg:=X.mg) hcl I.ok.glob G hcode C hP trivial (XU pos) gP B fun c' ctv h' tk hx hge hlt hrec htb=>?_;have hc':H c'=Ai:=I.hok.fresh hge;have cP:c'≠P:=fun z=>by rw [z,t] at hc';cases hc'
  have nP:∀{b:Ad},H b=Ai->b≠P:=fun e z=>by rw [z,t] at e;cases e
  have htb':h'.get? P=Aa (tabObj (#[]++#[rawInt pos.line,rawInt pos.col,.ref c'])):=htb;have ht0:((#[]:AL Ah)++#[rawInt pos.line,rawInt pos.col,.ref c'])=#[rawInt pos.line,rawInt pos.col,.ref c']:=rfl;generalize eH:upd (upd H P (.tbl #[rawInt pos.line,rawInt pos.col,.ref c'])) c' (GV c' q)=H';have hb:∀{b:Ad},b≠P->b≠c'->H' b=H b:=fun n1 n2=>by rw [<- eH,AF n2,AF n1]
  have hPH:H' P=Aa (.tbl #[rawInt pos.line,rawInt pos.col,.ref c']):=by rw [<- eH,AF (BF cP),Az]
  have hcH:H' c'=Aa (GV c' q):=by rw [<- eH,Az]
  have ne':∀{b:Ad} {o:A2},s.heap.get? b=Aa o->b≠c':=fun e=>B1 (B' (A_ e) hge);have neH:∀{b:Ad} {u:HO},H b=Aa u->b≠c':=fun e z=>by rw [z,hc'] at e;cases e
  have U:Un X.fs [] H H' s.heap h':=⟨fun b o e n _ _=>hx b o (nP n) e,fun b o e n _ _=>⟨o.slots,hx b o (nP n) e⟩,fun b o e n _=>by rw [hb (nP n) (ne' e)];exact n,fun b o e _=>by
   by_cases z:b=P
   ·rw [z];exact ⟨_,htb⟩
   ·exact ⟨o,hx b o z e⟩,fun b xs e=>by
   rw [hb (fun z=>by rw [z,t] at e;cases e) (neH e)];exact e,fun b o u e=>by
   rw [hb (fun z=>by rw [z,t] at e;cases e) (neH e)];exact e,fun b ps e=>by
   by_cases z:b=P
   ·rw [z,t] at e
    cases e
    exact ⟨#[rawInt pos.line,rawInt pos.col,.ref c'],by rw [z,hPH];rfl⟩
   ·exact ⟨#[],by rw [hb z (neH e),e];simp⟩⟩
  have hok:HOk X.prog X.w H' h':=fun a o e=>by
   by_cases z:a=P
   ·subst z;rw [hPH] at e
    cases e
    exact htb
   ·by_cases z2:a=c'
    ·subst z2;rw [hcH] at e
     cases e
     exact Yq hrec
    ·rw [hb z z2] at e;refine (I.hok a o e).stay (fun b u hbu g=>?_) (fun b g=>?_) fun b xs g=>?_
     ·refine hx b u (fun y=>?_) g;rcases hbu with rfl | hbu
      ·exact z y
      ·rw [y,t] at hbu;cases hbu
     ·rw [hb (fun y=>by rw [y,t] at g;cases g) (neH g)];exact g
     ·rw [hb (fun y=>by rw [y,t] at g;cases g) (neH g)];exact g
  have I1:Inv X pins σ H' { s with heap:=h',toks:=tk }:=I.un U hok;have I2:=I1.kept (t':=tk) (h':=h'.push (kla_obj "<lambda>" q params body sc cl ((X.mg "__name__").getD .none) c' ctv)) fun b u e=>Bv _ e;have cf:Go X pins H' h'.objs.size:=I1.cloc (A1 _);refine h _ c' _ ctv H' _ (I2.pin1 cf (BD _ rfl) (I1.nofs (A1 _)) (fun v z=>by cases z)) hcH cf ⟨c',hPH,hcH⟩ (fun b u n e=>by rw [hb n (neH e)];exact e) (fun hq_=>by obtain ⟨_,y,_⟩:=hq_;rw [t] at y;cases y) fun b e=>?_;rw [hb (fun z=>by rw [z,hPH] at e;cases e) (fun z=>by rw [z,hcH] at e;cases e)] at e;exact e
 ·obtain ⟨G,C,gP,B⟩:=LB.at I ⟨_,t1⟩;have hP:s.heap.get? P=Aa (tabObj #[rawInt pos.line,rawInt pos.col,.ref c']):=I.hok P _ t1;refine kla_makeFunctionHit (mg:=X.mg) hcl I.ok.glob G hcode C hP trivial (XV pos c') B fun ctv h' tk hk hsz=>?_;have I1:Inv X pins σ H { s with heap:=h',toks:=tk }:=I.kept hk;have I2:=I1.kept (t':=tk) (h':=h'.push (kla_obj "<lambda>" q params body sc cl ((X.mg "__name__").getD .none) c' ctv)) fun b u e=>Bv _ e;have cf:Go X pins H h'.objs.size:=I1.cloc (A1 _);exact h _ c' _ ctv H _ (I2.pin1 cf (BD _ rfl) (I1.nofs (A1 _)) (fun v z=>by cases z)) t2 cf ⟨c',t1,t2⟩ (fun _ _ _ e=>e) (fun _=>rfl) fun _ e=>e
end
noncomputable def Cx.inLam (X:Cx) (A:AR) (Nc:Ac Ak) (q:Ak) (sc:Bu) (cl:Ac (Ak × Ad)) (f c':Ad) (s:Aj) (H:Hp):Cx :=
 { X with A:=A.deeper (envX q sc s.heap.objs.size f (.ref c') cl),N:=Nc,s₀:=s,H₀:=H,env:=envX q sc s.heap.objs.size f (.ref c') cl,outer:=X.stack,stack:=envX q sc s.heap.objs.size f (.ref c') cl :: X.stack,ex:=[],fn:=fun _=>Aq,calm:=Af,pn:=[],xe:=fun _ _=>BA }
section
variable {X:Cx} {pins:Ac (Ad × A2)} {σ:St} {H:Hp} {s:Aj} {params:Hm} {body:A4} {sc fsc:Bu} {cl:Ac (Ak × Ad)} {q x:Ak} {A:AR} {N Nc:Ac Ak} {f c':Ad} {te:TE} {E:Ah->Aj->Prop}
theorem Zm (hE:X.env.scope=fsc) (hXN:X.N=N) (cn:E5 N Nc x sc fsc)
 (clS:∀y c,cl.lookup y=Aa c->X.env.cells.lookup y=Aa c) (clH:∀y∈sc.names,y.2=.free->∃c,cl.lookup y.1=Aa c) (hA:A.frames=X.A.frames) (hh:A.handled=Ai)
 (I:Inv X pins σ H s) {v:V} {u:Ah} (rv:AQ v u) {h₁:AD} {tk:Ae} (hns:h₁.Ns s.heap.objs.size fun y=>[(x,u)].reverse.lookup y) (old:∀b o,s.heap.get? b=Aa o->h₁.get? b=Aa o) :
 Inv (X.inLam A Nc q sc cl f c' s H) [] (σ++[Aa v]) H { s with heap:=h₁,toks:=tk }:=by
 have hlen:σ.length=N.length:=by rw [I.len,hXN]
 have noE:∀b:Ad,b ∉ (X.inLam A Nc q sc cl f c' s H).ex:=fun b z=>Aw (show b∈([]:Ac Ad) from z) (by simp);have freeOf:∀y,sc.names.lookup y=Aa .free->∃c,cl.lookup y=Aa c:=fun y e=>clH (y,.free) (E2 e) rfl;have noCell:∀y,sc.names.lookup y≠Aa .cell:=fun y e=>cn.cell (y,.cell) (E2 e) rfl
 refine ⟨⟨I.ok.mod,cn.kind,rfl,rfl,A1 _,fun y z c e1 e2=>I.ok.inj y z c (clS _ _ e1) (clS _ _ e2),fun y hy=>?_,fun y c z=>Aw (show Aq=Af from z) Bl,fun _=>hh,V1 (hA.trans I.ok.frames),.inr ⟨rfl,rfl⟩,fun b z=>Aw z (noE b),I.bs,BE I.ok.bsz I.sz,fun b _ _=>noE b,fun b z=>Aw z (noE b),I.stack,I.stkFree⟩,
  rfl,I.bare,Un.kept old,⟨_,hns,fun i y v' h1 h2 h3=>?_⟩,fun y c e=>?_,I.hok.fresh (A1 _),fun y c e=>I.freeC y c (clS y c e),fun p hp=>Aw (show p∈([]:Ac (Ad × A2)) from hp) (by simp),I.hok.kept old,?_⟩
 ·have hy:sc.names.lookup y=Aa .cell\/sc.names.lookup y=Aa .free:=hy;rcases hy with hy | hy
  ·exact Aw hy (noCell y)
  ·exact freeOf y hy
 ·have h1:Nc[i]?=Aa y:=h1;have h3:sc.names.lookup y=Aa .local\/sc.names.lookup y=Aa .cell\/sc.names.lookup y=Aa .free:=h3;by_cases hi:i < N.length
  ·obtain ⟨n1,n2,n3⟩:=cn.at hi h1
   have hf:sc.names.lookup y=Aa .free:=by
    rcases h3 with z | z | z
    ·exact Aw z n1
    ·exact Aw z n2
    ·exact z
   rw [LU (by omega)] at h2;have hN:X.N[i]?=Aa y:=by rw [hXN];exact n3 hf
   obtain ⟨m,hn,hl⟩:=I.loc;have hv:fsc.names.lookup y=Aa .cell\/fsc.names.lookup y=Aa .free:=cn.fr (y,.free) (E2 hf) rfl;have hv':X.env.scope.names.lookup y=Aa .cell\/X.env.scope.names.lookup y=Aa .free:=by rw [hE];exact hv
   obtain ⟨u',ru,lk⟩:=hl i y v' hN h2 (.inr hv');refine ⟨u',ru,.inr ⟨.inr hf,?_⟩⟩;rcases lk with ⟨kl,_⟩ | ⟨_,c,hc,hcell⟩
   ·exfalso;have kl':X.env.scope.names.lookup y=Aa .local:=kl;rw [kl'] at hv';rcases hv' with z | z <;> cases z
   ·obtain ⟨d,hd⟩:=freeOf y hf;have ed:=clS y d hd;rw [hc] at ed
    cases ed
    exact ⟨c,hd,hcell.keeps old⟩
  ·have hi':i < (σ++[Aa v]).length:=(List.getElem?_eq_some_iff.mp h2).1;rw [Bj,L_] at hi';have ei:i=N.length:=by omega
   subst ei;rw [cn.last] at h1
   cases h1
   rw [JX (by omega),hlen,EI] at h2
   cases h2
   exact ⟨u,rv,.inl ⟨cn.own,by simp⟩⟩
 ·obtain ⟨w,z⟩:=I.cell y c (clS y c e);exact ⟨w,z.keeps old⟩
 ·show (σ++[Aa v]).length=Nc.length;rw [Bj,hlen,cn.len];rfl
theorem Z1 (hE:X.env.scope=fsc) (hXN:X.N=N) (cn:E5 N Nc x sc fsc) (hco:sc.isCoroutine=Aq) (hgen:sc.isGenerator=Aq)
 (clS:∀y c,cl.lookup y=Aa c->X.env.cells.lookup y=Aa c) (clH:∀y∈sc.names,y.2=.free->∃c,cl.lookup y.1=Aa c) (hA:A.frames=X.A.frames) (hh:A.handled=Ai) (hroom:A.depth < recursionLimit)
 (he:∀s H,PE (X.inLam A Nc q sc cl f c' s H) body te)
 (hbind:∀pm ctv u,bindArgs (kla_fn "<lambda>" q params body sc cl pm (.ref c') ctv) ⟨[u],[]⟩=pure [(x,u)])
 (I:Inv X pins σ H s) {pm ctv:Ah} (hf:(f,kla_obj "<lambda>" q params body sc cl pm c' ctv)∈pins) (hc:H c'=Aa (GV c' q)) {v:V} {u:Ah} (rv:AQ v u) {R:VK} (h:te (σ++[Aa v]) H R) :
 Au (A6 X.prog X.w) A (call (.ref f) [u]) (fun u' s'=>∃y H',Inv X pins σ H' s'/\AQ y u'/\R y H') E s:=by
 have lim:s.heap.NoLimit:=I.nolimit;refine P1 (kla_callFunE hroom (I.pin _ (B8 _ hf)).1 rfl hco hgen rfl (Yr (I.hok _ _ hc)) ?_);rw [hbind];refine Ay (X7 cn.cell (fun y hy=>?_) (fun h₁ hns hsb=>⟨lim.fresh _ hsb,?_⟩) cn.kind)
 ·rw [mem_singleton.mp hy];exact cn.own
 ·show codeAny _ _ (.expr body (envX q sc s.heap.objs.size f (.ref c') cl)) _ _;have old:∀b o,s.heap.get? b=Aa o->h₁.get? b=Aa o:=fun b o e=>hsb.extBut b o (B1 (A_ e)) (Bv _ e);have Ic:=Zm (q:=q) (f:=f) (c':=c') (tk:=s.toks+[(x,u)].length) hE hXN cn clS clH hA hh I rv hns old;refine kla_codeExpr (DM (he s H [] _ (σ++[Aa v]) H R Ic h) (fun u' s' ⟨y,H',I',r',q'⟩=>?_) fun _ _ z=>z.elim);exact ⟨y,H',I.call' (ch:=[]) I'.os I'.base I'.hok I'.bare (fun b hb=>Aw hb (by simp)),r',q'⟩
end
section
variable {X:Cx} {pins:Ac (Ad × A2)} {σ:St} {H:Hp}
theorem Inv.sub {ps:Ac (Ad × A2)} {s:Aj} (I:Inv X pins σ H s) (h:∀p∈ps,p∈pins):Inv X ps σ H s:=I.pins_of fun p hp=>I.pin p (B8 _ (h p hp))
variable {xs:Ac V} {l f I S:Ad}
end
theorem Fun.okC {P:A9} {w:A3} {K:A8} {mg:Ak->A5 Ah} {base:AD} {x qual:Ak} {st:AC} {f:Ad} {fd:AE} {N ps:Ac Ak} {k:Ae} {sp:Sp} (F:Fun K x qual st f fd) (S:AM N ps (A7 st)) (len:∀vs H Q E,sp vs H Q E->vs.length=ps.length)
 (hbody:∀(cdv:Ah),fd.code=cdv->∀(A:AR) (outer:Ac BC) (s:Aj) (H:Hp) (vs:Ac V) (Q:VK) (E:XK),BB k (A.deeper (envOfC qual (A7 st) s.heap.objs.size f cdv))->sp vs H Q E ->
  ∃t,PSs (Gu CX0 P w K mg base N qual (A7 st) f cdv A outer s H E).nox (FN st) t/\t { nx:=fun _ H'=>Q .non H',rt:=Q } (Fz N vs) H):AG P w K mg base CX0 (k+1) f fd ps sp:=by
 obtain ⟨oc,od,kV,doc,pm,an,cdv,ct,osl,rfl,lk,hcd⟩:=F.ex;refine Nk lk hcd S len fun A outer s H vs Q E hr hsp=>?_;obtain ⟨t,h,q⟩:=hbody cdv rfl A outer s H vs Q E hr hsp;exact ⟨t,h.nox,q⟩
section
variable {M:Ff} {A:AR} {E:Ah->Aj->Prop} {s:Aj} {env:BC}
theorem Vt {pos:Pos} {T:DX} {e:A4} {kws:Ac GH} {Q:Ah->Aj->Prop}
 (h:Au M A (spliced (backTo pos (Bh [e] env))) (fun vs z=>Au M A (evalAll ((backToKw pos (keywordEach kws env)).map (·.2))) (fun us y=>Au M A (call (.builtin T) vs (((backToKw pos (keywordEach kws env)).filterMap (·.1)).zip us)) Q E y) E z) E s)
 (he:backTo pos (Bh [e] env)=(Aq,eval e env) :: backTo pos (Bh [] env)) (hp:(backTo pos (Bh [e] env)).any (·.1)=Aq)
 (ha:(backToKw pos (keywordEach kws env)).all (·.1.isSome)=Af) (hk:(backToKw pos (keywordEach kws env)).any (·.1.isNone)=Aq) :
 Au M A (callWith pos (.builtin T) [] (backTo pos (Bh [e] env)) (backToKw pos (keywordEach kws env))) Q E s:=by
 unfold callWith
 have y:Au M A (evalArgs (.builtin T) Af (backTo pos (Bh [e] env)) (backToKw pos (keywordEach kws env))) (fun a z=>Au M A (call (.builtin T) ([]++a.pos) a.kw) Q E z) E s:=by
  rw [he] at h ⊢;exact evalArgs_kwB ha h
 refine An (Dq (DM y (fun a z q=>An (MM ?_)) fun _ _ x=>x));simp only [hp,hk,Ov];refine An (Ay (An ?_));exact DM q (fun r z hr=>An (Dq (wpAny_point (Ay hr)))) fun _ _ x=>x
end
section
variable {X:Cx} {c P:Ad} {e body:A4} {tl tb:TE} {sc fsc:Bu} {N Nc:Ac Ak} {x:Ak} {params:Hm} {lpos kp p pos:Pos}
end
noncomputable def KZ (K:A8):AI:=K.all fun p=>match p.2.data with
 | .fields v=>!(v.isEmpty && p.2.cls == BQ)
 | _=>Af
theorem Rf {α:Type} {a:Ad} {v:α}:∀{l:Ac (Ad × α)},l.lookup a=Aa v->(a,v)∈l
 | (k,u) :: r,h=>by
   rw [FE] at h
   cases hx:(a == k) with
   | true =>
     rw [hx] at h;have e:a=k:=by simpa using hx
     cases h
     rw [e];exact AV ..
   | false =>
     rw [hx] at h;exact Bc _ (Rf h)
theorem Aao {K:A8} (h:KZ K=Af) {P:Ad}:K.lookup P≠Aa (tabObj #[]):=fun e=>by
 have:=all_eq_true.mp h _ (Rf e);exact Aw (show (!((#[]:AL Ah).isEmpty && (BQ == BQ)))=Af from this) (by decide)
theorem Z3 {P:A9} {w:A3} {K:A8} {mg mb:Ak->A5 Ah} {CX:CXT} {k:Ae} {fa a c Pt:Ad} {fd:AE} {x:Ak} {sp:Sp} {s₁:Aj} {vs:Ac Ah} {ns:Ac Ab}
 (KX:K.In s₁.heap) (hnt:KZ K=Af) (hns:s₁.heap.Ns Dc mg) (hb:s₁.heap.Ns builtinsNs mb) (hbb:∀x:Ak,x≠"__name__"->mb x=bootBuiltins x) (hlim:s₁.heap.NoLimit) (hg:s₁.gens=#[])
 (ha:s₁.heap.get? a=Aa { cls:=.type "list",data:=.seq vs.toArray }) (hi:C_ vs ns) (hl:ns.length<=AB) (hr:BB k callerA)
 (hco:s₁.heap.IsCode c Pt #[]) (hta:s₁.heap.TableAt c Pt #[]) (hbm:∃bm ob,mg "__builtins__"=Aa (.ref bm)/\bm≠builtinsNs/\s₁.heap.get? bm=Aa ob/\ob.cls=.type "module"/\ob.dict=Aa builtinsNs/\ob.data=.plain)
 (F:∀base:AD,K.In base->base.Ns Dc mg->EO base mg c Pt->AG P w K mg base CX k fa fd [x] sp) (hbind:∀(s:Aj) (u:Ah),GB s fd ⟨[u],[]⟩ [(x,u)])
 (hsp:∀H:Hp,H Pt=Aa (.tbl #[])->SqL K H a (ns.map V.int)->sp [.ref a] H (fun v _=>v=.bl Af) fun _ _ _=>BA)
 (hCX:∀H e s',CX [] H s₁ (fun _ _ _=>BA) e s'->BA) :
 codeAny (A6 P w) callerA (.call (.ref fa) ⟨[.ref a],[]⟩) (fun r s'=>r=.ok (.ret (.bool Af))/\OldK s₁.heap s'.heap/\s'.os=s₁.os/\Ga s'.gens) s₁:=by
 have rv:=Lw hi;have lenV:=hi.length;have hPt:s₁.heap.get? Pt=Aa (tabObj #[]):=hta.2;have aP:a≠Pt:=fun z=>by rw [z,hPt] at ha;cases ha
 have kP:K.lookup Pt=Ai:=by
  cases e:K.lookup Pt with
  | none=>rfl
  | some o =>
    have:=KX _ _ e;rw [hPt] at this;rw [<- Bn this] at e;exact Aw e (Aao hnt)
 have core:∀H:Hp,(∀b,H b=Ai\/(b=Pt/\H b=Aa (.tbl #[]))\/(b=a/\∃o xs,H b=Aa (.frz o (.lst xs))))->H Pt=Aa (.tbl #[])->SqL K H a (ns.map V.int)->HOk P w H s₁.heap->(H a≠Ai->K.lookup a=Ai) ->
  codeAny (A6 P w) callerA (.call (.ref fa) ⟨[.ref a],[]⟩) (fun r s'=>r=.ok (.ret (.bool Af))/\OldK s₁.heap s'.heap/\s'.os=s₁.os/\Ga s'.gens) s₁:=by
  intro H hO hP hS hok hK;have base_of:∀{b:Ad} {o:A2},s₁.heap.get? b=Aa o->H b=Ai->(ER s₁.heap H).get? b=Aa o:=fun e n=>Y_ e n
  have other:∀{b:Ad} {o:A2},s₁.heap.get? b=Aa o->o.cls≠.type "list"->(o.cls≠.none\/∀v,o.data≠.fields v)->H b=Ai:=fun {b o} e n1 n2=>by
   rcases hO b with z | ⟨z,_⟩ | ⟨z,_⟩
   ·exact z
   ·subst z;rw [hPt] at e;cases e;rcases n2 with n2 | n2
    ·exact Aw rfl n2
    ·exact Aw rfl (n2 _)
   ·subst z;rw [ha] at e;cases e;exact Aw rfl n1
  have noA:∀{b:Ad} {o:A2} {es:AL DG} {ep:Ae},s₁.heap.get? b=Aa o->o.data=.dict es ep->H b=Ai:=fun {b o es ep} e d=>by
   rcases hO b with z | ⟨z,_⟩ | ⟨z,_⟩
   ·exact z
   ·subst z;rw [hPt] at e;cases e;cases d
   ·subst z;rw [ha] at e;cases e;cases d
  have nsK:∀{b:Ad} {m:Ak->A5 Ah},s₁.heap.Ns b m->(ER s₁.heap H).Ns b m:=fun {b m} ⟨o,es,ep,e,d,r⟩=>⟨o,es,ep,base_of e (noA e d),d,r⟩
  have hKb:K.In (ER s₁.heap H):=fun b o e=>base_of (KX b o e) (by
   rcases hO b with z | ⟨z,_⟩ | ⟨z,y⟩
   ·exact z
   ·subst z;rw [kP] at e;cases e
   ·subst z
    cases q:H b with
    | none=>rfl
    | some u=>rw [hK (by rw [q];simp)] at e;cases e)
  have hM:Mod K mg (ER s₁.heap H):=⟨hKb,nsK hns,⟨mb,nsK hb,hbb⟩,let ⟨mc,h1,h2⟩:=hlim;⟨mc,nsK h1,h2⟩⟩
  have LB:EO (ER s₁.heap H) mg c Pt:=by
   refine ⟨?_,?_,?_⟩
   ·obtain ⟨o,vs',file,tf,flags,tg,inF,text,tt,e,ec,r⟩:=CodeHd.of hco hta;exact ⟨o,vs',file,tf,flags,tg,inF,text,tt,base_of e (other e (by rw [ec];decide) (.inl (by rw [ec];decide))),ec,r⟩
   ·obtain ⟨bm,ob,b1,b2,b3,b4,r⟩:=hbm;exact ⟨bm,ob,b1,b2,base_of b3 (other b3 (by rw [b4];decide) (.inl (by rw [b4];decide))),b4,r⟩
   ·cases e:(ER s₁.heap H).get? Pt with
    | none=>rfl
    | some o=>rw [(Rt e).2] at hP;cases hP
  have e0:GW P w K mg (ER s₁.heap H) callerA [] s₁ H:=⟨rfl,hM,fun b o e=>Rt e,OM (Y' _ _),trivial,fun b hb=>Aw (show b∈([]:Ac Ad) from hb) (by simp),hok,.of_eq hg⟩;refine HJ ((F _ hKb (nsK hns) LB).run callerA [] s₁ H ⟨[.ref a],[]⟩ [.ref a] [.ref a] _ _ hr e0 (hbind s₁ (.ref a)) (.cons rfl .nil) (hsp H hP hS)) fun r s' h=>?_
  cases r with
  | error e=>exact (hCX H e s' h).elim
  | ok fl =>
    cases fl with
    | next=>exact Ex h
    | brk=>exact Ex h
    | cont=>exact Ex h
    | ret u =>
      obtain ⟨v,H',os,bare,un,hok',r',q⟩:=h;have q':v=.bl Af:=q;subst q';obtain rfl:u=C0 Af:=r';refine ⟨rfl,⟨fun b o e=>?_,fun b o e=>un.there b o e (by simp)⟩,os,bare⟩;rcases hO b with z | ⟨z,y⟩ | ⟨z,ob,xs,y⟩
      ·exact .inl (un.keep b o e z (by intro z;exact Aw (show b∈([]:Ac Ad) from z) (by simp)) (by simp))
      ·subst z;rw [hPt] at e;cases e;obtain ⟨more,z2⟩:=un.tbls b _ y;exact .inr (.inl ⟨hta.isCodeTable,rfl,#[],more,rfl,hok' b _ z2⟩)
      ·have z2:=un.frzs b ob _ y;obtain ⟨e1,_⟩:=hok b _ y;obtain ⟨e2,_⟩:=hok' b _ z2;rw [e] at e1;cases e1;exact .inl e2
 cases hk:K.lookup a with
 | some o =>
   have e:=KX a o hk;rw [ha] at e
   cases e
   refine core (fun b=>if b=Pt then Aa (.tbl #[]) else Ai) (fun b=>?_) (Ar rfl) (.inr ⟨_,vs.toArray,_,hk,rfl,rfl,rfl,by rw [BJ,lenV];exact hl,by simpa using rv⟩) (fun b u z=>?_) fun z=>Aw (Ao aP) z
   ·by_cases hb:b=Pt
    ·exact .inr (.inl ⟨hb,Ar hb⟩)
    ·exact .inl (Ao hb)
   ·by_cases hb:b=Pt
    ·have z':=(Ar hb).symm.trans z
     cases z'
     subst hb;exact hPt
    ·have z':=(Ao hb).symm.trans z
     cases z'
 | none =>
   refine core (fun b=>if b=Pt then Aa (.tbl #[]) else if b=a then Aa (.frz { cls:=.type "list",data:=.seq vs.toArray } (.lst (ns.map V.int))) else Ai) (fun b=>?_) (Ar rfl) (.inl (.inr ⟨{ cls:=.type "list",data:=.seq vs.toArray },(Ao aP).trans (Ar rfl)⟩)) (fun b u z=>?_) fun _=>hk
   ·by_cases hb:b=Pt
    ·exact .inr (.inl ⟨hb,Ar hb⟩)
    ·by_cases hb2:b=a
     ·exact .inr (.inr ⟨hb2,_,_,(Ao hb).trans (Ar hb2)⟩)
     ·exact .inl ((Ao hb).trans (Ao hb2))
   ·by_cases hb:b=Pt
    ·have z':=(Ar hb).symm.trans z
     cases z'
     subst hb;exact hPt
    ·have z:=(Ao hb).symm.trans z;by_cases hb2:b=a
     ·have z':=(Ar hb2).symm.trans z
      cases z'
      subst hb2;exact ⟨ha,by rw [At];exact hl,vs,_,rv,ha⟩
     ·have z':=(Ao hb2).symm.trans z
      cases z'
theorem walk_of1 {l:OX} {n k:Ae} {q:A9} {loose:Ac Ak} {XP:(Ak->A5 Ah)->AD->Prop} {YP:A3->AD->Prop} {d dn:DefRec} {K:Ka->A8} {CX:A3->CXT} {sp:A3->Ad->Sp} {x:Ak}
 (hn:l.most=Aa n) (hn2:n<=AB) (hdf:d.params.defaults=[]) (hr:BB k callerA)
 (hY:∀(w:A3) (h:AD),YP w h->(K w.params).In h) (hnt:∀p,KZ (K p)=Af) (hdn:dn∈recsOf q)
 (F:∀(w:A3) (mg:Ak->A5 Ah) (fa f c Pt:Ad) (h:AD),(K w.params).In h->h.Ns Dc mg->mg d.name=Aa (.ref fa)->mg dn.name=Aa (.ref f)->(∃o fd,h.get? f=Aa o/\o.data=.func fd/\fd.code=.ref c) ->
  ∃fd:AE,(∀(s:Aj) (u:Ah),GB s fd ⟨[u],[]⟩ [(x,u)]) /\
   ∀base:AD,(K w.params).In base->base.Ns Dc mg->EO base mg c Pt->AG l.prog w (K w.params) mg base (CX w) k fa fd [x] (sp w Pt))
 (hsp:∀(w:A3) (Pt:Ad) (H:Hp) (a:Ad) (ns:Ac Ab),ns.length<=n->H Pt=Aa (.tbl #[])->SqL (K w.params) H a (ns.map V.int)->sp w Pt [.ref a] H (fun v _=>v=.bl Af) fun _ _ _=>BA)
 (hCX:∀(w:A3) (H:Hp) (s:Aj) (e:Ah) (s':Aj),CX w [] H s (fun _ _ _=>BA) e s'->BA) :
 WU q loose XP YP l.row.toRowW d [] (fun f vs=>Pf f vs):=by
 refine Att.attach_call hn hdf fun w s₀ s₁ mg mb fa o pm cd doc a vs ns G Y ho hd hcd hmg hobj hints hlen hg=>?_;have KX:=hY w _ Y;obtain ⟨f,o',fd',c,Pt,t1,t2,t3,t4,t5,t6⟩:=G.T.tab dn hdn;obtain ⟨fd,hb,hF⟩:=F w mg fa f c Pt _ KX G.T.g hmg t1 ⟨o',fd',t2,t3,t4⟩;exact Z3 KX (hnt _) G.T.g G.T.b G.T.builtins G.T.nolimit hg hobj hints (BE hlen hn2) hr t5 t6 G.T.bmain hF hb (fun H hP hS=>hsp w Pt H a ns hlen hP hS) fun H e s'=>hCX w H s₁ e s'
end L2
namespace L2
open PySem PySem.W PySem.Spec PyProof.Rows
section
variable {prog:A9} {w:A3} {A:AR} {E:Ah->Aj->Prop} {s:Aj}
end
section
variable {prog:A9} {w:A3} {A:AR} {E:Ah->Aj->Prop} {s:Aj}
end
section
variable {X:Cx} {e e2:A4} {te te2:TE} {p p2 p3 pos pos2 pos3 pos4:Pos}
end
end L2
namespace L2
open PySem PySem.Spec PyProof.Rows
section
variable {X:Cx} {W:St->XK} {k:Ae} {f C:Ad} {fd:AE} {ps:Ac Ak} {sp:Sp} {dvs:Ac V} {ds:Ac Ah} {x m:Ak} {p pos apos:Pos} {e o:A4} {es:Ac A4} {ta:TE} {t:TA}
structure P7 (K:A8) (C B:Ad):Prop where
 ha:Fg K (.ref C) "__class__"=Aa (Aa (.builtin "object.__class__"))
 hn:Pc K (.builtin "object.__class__") "__get__"=Aa (Aa (.builtin "getset_descriptor.__get__"))
 htk:Xb K (.builtin "object.__class__")=Aa Af
 hm:W_ K C (.type "object")=Aa Af
 kt:Hz K (.ref C) (.ref B)=Aa Af
theorem Yk {K:A8} (hK:X.K=K:=by rfl):De X (.builtin "isinstance") (fun xs H Q=>∃a C dx fs B,xs=[.ref a,.ref B]/\H a=Aa (.ins C dx fs)/\Cls K C/\P7 K C B/\Q (.bl Af) H):=by
 subst hK;intro pins s σ H xs us Q I rv h;obtain ⟨a,C,dx,fs,B,rfl,ha,cl,i,q⟩:=h;obtain ⟨u,u',rfl,r1,r2⟩:=Lv rv
 cases (show u'=AO B from r2)
 exact QD I r1 (.ins ha cl i.ha i.hn i.htk i.hm) i.kt fun tk=>⟨.bl Af,H,I.tok tk,rfl,q⟩
theorem Aax:OpR X (Cj .Is) (fun x y H Q=>∃b:AI,y=.bl b/\Q (.bl (decide (x=.bl b))) H):=by
 intro pins s σ H x y v u Q I rx ry h;obtain ⟨b,rfl,q⟩:=h
 cases ry
 cases x with
 | bl a =>
   cases rx
   have e:(C0 a == C0 b)=decide (V.bl a=V.bl b):=by cases a <;> cases b <;> rfl
   refine Ay ⟨.bl (decide (V.bl a=V.bl b)),H,I,?_,q⟩;show C0 (C0 a == C0 b)=C0 _;rw [e]
 | _ =>
   first
    | (cases rx;exact Ay ⟨.bl Aq,H,I,rfl,q⟩)
    | (obtain ⟨t,rfl⟩:=rx;exact Ay ⟨.bl Aq,H,I,rfl,q⟩)
end
end L2
namespace L2
open PySem PySem.W PySem.Spec PyProof.Rows
section
variable {prog:A9} {w:A3} {A:AR} {E:Ah->Aj->Prop} {s:Aj} {Q:AI->Aj->Prop}
end
section
variable {X:Cx}
theorem Aa2:OpR X (Cj .IsNot) (fun x y H Q=>∃b:AI,y=.bl b/\Q (.bl (!decide (x=.bl b))) H):=by
 intro pins s σ H x y v u Q I rx ry h;obtain ⟨b,rfl,q⟩:=h
 cases ry
 cases x with
 | bl a =>
   cases rx
   have e:(C0 a == C0 b)=decide (V.bl a=V.bl b):=by cases a <;> cases b <;> rfl
   refine Ay ⟨.bl (!decide (V.bl a=V.bl b)),H,I,?_,q⟩;show C0 (!(C0 a == C0 b))=C0 _;rw [e]
 | _ =>
   first
    | (cases rx;exact Ay ⟨.bl Af,H,I,rfl,q⟩)
    | (obtain ⟨t,rfl⟩:=rx;exact Ay ⟨.bl Af,H,I,rfl,q⟩)
end
end L2
namespace L2
open PySem PySem.Spec PyProof.Rows
theorem Qc {K:A8} {a b:Ad} {xs zs:Ac V} {tt:TT} {te:TE} {σ:St} {H1:Hp} {Q:Ad->Hp->Prop} {n m:Ae} (hn:n=σ.length) (hm:m=σ.length+1) (hxz:xs.length=zs.length) (hz:xs.length<=AB) (Pv:Ad->Ae->Ac V->Hp->Prop)
 (h0:∀D,H1 D=Ai->Pv D 0 [] (upd H1 D (.lst []))) (hD:∀D i ys H,Pv D i ys H->H D=Aa (.lst ys)/\ys.length<=i) (hl:∀D i ys H,H1 D=Ai->Pv D i ys H->SqL K H a xs/\SqL K H b zs)
 (hs:∀D i x z T ys H (K1:VK) (K2:Hp->Prop),H1 D=Ai->xs[i]?=Aa x->zs[i]?=Aa z->Pv D i ys H->H T=Ai->(∀y H5,H5 D=Aa (.lst ys)->Pv D (i+1) (ys++[y]) (upd H5 D (.lst (ys++[y])))->K1 y H5)->(∀H4,Pv D (i+1) ys H4->K2 H4) ->
  tt (σ++[Aa x,Aa z]) (upd H T (.tup [x,z])) fun b H4=>if b=Af then te (σ++[Aa x,Aa z]) H4 K1 else K2 H4)
 (hd:∀D ys H,H1 D=Ai->Pv D xs.length ys H->Q D H) :
 ∀D,H1 D=Ai->∃W:Ae->Ae->Ac V->Hp->Prop,(∃m,W 0 m [] (upd H1 D (.lst [])))/\∀i k ys H2,W i k ys H2 ->
  H2 D=Aa (.lst ys)/\(((Itz K a b).stop i H2/\Q D H2)\/((Itz K a b).go i H2/\ys.length < AB/\∀x H3,(Itz K a b).yld i H2 x H3->∀os:St,os.length=2->EQ K 2 (C7 (BS n) (C7 (BS m) Fn)) x (σ++os) H3 fun σ4 H4=>(∃os':St,σ4=σ++os'/\os'.length=2)/\tt σ4 H4 fun b H5=>if b=Af then te σ4 H5 fun y H6=>H6 D=Aa (.lst ys)/\∃m',m' < k/\W (i+1) m' (ys++[y]) (upd H6 D (.lst (ys++[y])))
   else ∃m',m' < k/\W (i+1) m' ys H5)):=by
 intro D hDn;subst hn hm;refine ⟨fun i m ys H=>m=xs.length - i/\i<=xs.length/\Pv D i ys H,⟨xs.length,rfl,Br _,h0 D hDn⟩,?_⟩;rintro i m ys H2 ⟨rfl,hi,p⟩;obtain ⟨e,l⟩:=hD D i ys H2 p;obtain ⟨q1,q2⟩:=hl D i ys H2 hDn p;refine ⟨e,?_⟩;by_cases hlt:i < xs.length
 ·have hlt':i < zs.length:=by omega
  refine .inr ⟨⟨xs,zs,xs[i],zs[i],q1,q2,by simp [hlt],by simp [hlt']⟩,Dn l (B' hlt hz),fun x H3 y os ho=>?_⟩;obtain ⟨T,v,w,rfl,hT,rfl,hy,hw⟩:=y;have q5:=hs D i v w T ys H2 (fun y H6=>H6 D=Aa (.lst ys)/\∃m',m' < xs.length - i/\m'=xs.length - (i+1)/\i+1<=xs.length/\Pv D (i+1) (ys++[y]) (upd H6 D (.lst (ys++[y])))) (fun H5=>∃m',m' < xs.length - i/\m'=xs.length - (i+1)/\i+1<=xs.length/\Pv D (i+1) ys H5) hDn (hy xs q1) (hw zs q2) p hT (fun y H5 h5 p5=>⟨h5,xs.length - (i+1),by omega,rfl,hlt,p5⟩) fun H4 p4=>⟨xs.length - (i+1),by omega,rfl,hlt,p4⟩
  match os,ho with
  | [o1,o2],_ =>
    have e2:((σ++[o1,o2]).set σ.length (Aa v)).set (σ.length+1) (Aa w)=σ++[Aa v,Aa w]:=by
     rw [Eg _ _ (A1 _),EI,Eg _ _ (Dl _)];rw [show (BM σ+1) - BM σ=1 by omega];rfl
    refine ⟨T,[v,w],rfl,SqT.of Az,rfl,v,[w],rfl,w,[],rfl,rfl,?_⟩;refine ⟨⟨[Aa v,Aa w],e2,rfl⟩,?_⟩;rw [e2];exact q5
 ·have ei:i=xs.length:=by omega
  subst ei;exact .inl ⟨⟨xs,zs,q1,q2,.inl (A1 _)⟩,hd D ys H2 hDn p⟩
section
variable {prog:A9} {w:A3} {A:AR} {E:Ah->Aj->Prop} {s:Aj} {d:Ad} {es:AL DG} {ep:Ae}
theorem AbZ {vs:Ac Ah} (lo:(d == Cr)=Aq) (hm:D9 s.heap d es ep) (hz:es.size < 64) (hh:A.handled=Ai) (hv:es.toList.map (·.key)=vs) {b:AI} {R:Ah->Aj->Prop}
 (h:∀(h':AD) (tk:Ae) (a:Ad),(∀b o,s.heap.get? b=Aa o->h'.get? b=Aa o/\b≠a)->s.heap.objs.size<=a->h'.get? a=Aa (seqObj "list" vs.toArray 0) ->
  Au (A6 prog w) A.in1.in1 (CZ.«list.sort» ⟨[.ref a],[(A0 "reverse",.bool b)]⟩) (fun fin s'=>∃v,fin=.done (.ret v)/\R (.ref a) s') E { s with heap:=h',toks:=tk }) :
 Au (A6 prog w) A (call (.builtin "sorted") [.ref d] [(A0 "reverse",.bool b)]) R E s:=by
 refine call_function_entry_kw M9 MC M8 (args_sorted_rev _ _) ?_;unfold CZ.«sorted»;refine An (m:=checkCount "sorted" 1 1 _) (Ay ?_);refine An (Sj (A:=A.in1) lo hm hh (by rw [CC];omega) fun h' tk hk ge=>?_);rw [hv];have hl:vs.length < 64:=by rw [<- hv,At,Ec];exact hz
 refine An (IY ?_ (by rw [CC];omega));have ho:(h'.push (seqObj "list" vs.toArray 0)).get? h'.objs.size=Aa (seqObj "list" vs.toArray 0):=BD _ rfl;refine An (Dq (wpAny_call_entry_kw MF ⟨_,ho,rfl⟩ M7 ?_ (args_list_sort_rev _ _)));refine DM (h _ tk h'.objs.size (fun b o e=>⟨Bv _ (hk b o e),B1 (A_ (hk b o e))⟩) (DK ge) ho) (fun fin s' x=>?_) fun _ _ x=>x;obtain ⟨v,rfl,q⟩:=x;exact ⟨_,rfl,Ay ⟨_,rfl,q⟩⟩
end
section
variable {X:Cx}
noncomputable def AcF (te:TE):TE:=fun σ H Q=>te σ H fun x H1=>∃(d:Ad) (kvs:Ac (Key × V)) (ns:Ac Ab),x=.ref d/\Rd H1 d (.dK kvs)/\kvs.map (·.1)=ns.map AH/\ns.length < 64 /\
 ∀(l:Ad) (ms:Ac Ab),ms.Perm ns->ms.Pairwise (·>=·)->H1 l=Ai->Q (.ref l) (upd H1 l (.lst (ms.map V.int)))
theorem AaO {e:A4} {te:TE} {p pos kp pc:Pos} {jj} (hc:X.calm=Af) (hg:Gl X "sorted") (hm:X.mg "sorted"=Ai) (he:PE X e te)
 (h1:backTo pos (Bh [e] X.env)=(Aq,eval e X.env) :: backTo pos (Bh [] X.env):=by rfl) (h2:(backTo pos (Bh [e] X.env)).any (·.1)=Aq:=by rfl)
 (h3:(backToKw pos (keywordEach [⟨Aa "reverse",.Constant (.bool Af) jj pc,kp⟩] X.env)).all (·.1.isSome)=Af:=by rfl) (h4:(backToKw pos (keywordEach [⟨Aa "reverse",.Constant (.bool Af) jj pc,kp⟩] X.env)).any (·.1.isNone)=Aq:=by rfl)
 (h5:(backToKw pos (keywordEach [⟨Aa "reverse",.Constant (.bool Af) jj pc,kp⟩] X.env)).filterMap (·.1)=[("reverse":Ak)]:=by rfl) :
 PE X (.Call (.Name "sorted" p) [e] [⟨Aa "reverse",.Constant (.bool Af) jj pc,kp⟩] pos) (AcF te):=by
 intro pins s σ H Q I h;refine GU (Fo I hg hm boot_sorted ?_ (by decide) (by decide));refine Vt ?_ h1 h2 h3 h4;rw [h1];refine F5 (thn (he pins s σ H _ I h) fun u s1 hq_=>?_);obtain ⟨x,H1,I1,r1,d,kvs,ns,hx,hd,hks,h64,q⟩:=hq_;subst hx
 cases r1
 refine GC ?_;refine kws_cons (wpAny_Constant_bool (kws_nil ?_));rw [h5];show Au (A6 X.prog X.w) X.A (call (.builtin "sorted") [.ref d] [(A0 "reverse",.bool Af)]) _ _ s1;obtain ⟨_,lo,vs,kv,o,es,ep,g1,g2,g3,g4,g5,_⟩:=HV I1.hok hd;have hi:=Zj kv g5 hks;have hl:=hi.length;have hes:es.size=ns.length:=by simpa using hl
 refine AbZ lo ⟨o,g1,g2,g3⟩ (by omega) (I1.ok.hd hc) rfl fun h' tk a kp ge ho=>?_;refine list_sort_tree_rev (s:={ s1 with heap:=h',toks:=tk }) ho hi (by rw [hl];exact h64) fun out ms i1 i2 i3=>⟨_,rfl,?_⟩;obtain ⟨e,he⟩:=sortedHeap_at (out:=out) ho;have hfr:H1 a=Ai:=I1.hok.fresh ge;refine ⟨.ref _,_,I1.laid (t':=tk) (fun b o hb=>?_) ge (show Bi X.prog X.w _ _ _ (.lst (ms.map V.int)) from ⟨?_,out.toList,e,Lw i1,he⟩),rfl,q _ ms i2 i3 hfr⟩
 ·obtain ⟨k1,k2⟩:=kp b o hb;rw [sortedHeap_old k2 (A_ k1)];exact k1
 ·rw [At,i2.length_eq,CC];omega
end
abbrev hoI (v d:Ad):HO:=.ext fun h=>h.IsItemsView v d
noncomputable def FrK (P:A9) (w:A3) (d:Ad) (ob:A2) (kvs:Ac (Key × V)):Prop :=
 kvs.length<=AB/\(d == Cr)=Aq/\∃vs,KV kvs vs/\∃es ep,ob.ExactDict/\ob.data=.dict es ep/\KeysOf (BO P w) es/\Pairs (BO P w) es.toList vs/\(vs.map (·.1)).Nodup
noncomputable def Iti (d:Ad) (ob:A2) (kvs:Ac (Key × V)):It :=
 ⟨fun i H=>H d=Aa (hoF d ob)/\i < kvs.length,fun i H x H'=>∃T k v,x=.ref T/\H T=Ai/\kvs[i]?=Aa (k,v)/\H'=upd H T (.tup [kV k,v]),fun i H=>H d=Aa (hoF d ob)/\i=kvs.length⟩
theorem Ab8 {P:A9} {w:A3} {k:Key} {u:Ah} (h:(BO P w).is k u=Af):AQ (kV k) u:=by
 rcases ES (show Gz k u=Af from h) with ⟨i,t',a,b⟩ | ⟨x,t',a,b⟩
 ·subst a b;exact ⟨_,rfl⟩
 ·subst a b;exact ⟨_,rfl⟩
theorem FrK.of {P:A9} {w:A3} {H:Hp} {h:AD} {d:Ad} {kvs:Ac (Key × V)} (x:Bi P w H h d (.dK kvs)):∃ob,h.get? d=Aa ob/\FrK P w d ob kvs:=by
 obtain ⟨a,b,vs,c,o,es,ep,e,r⟩:=x;exact ⟨o,e,a,b,vs,c,es,ep,r⟩
theorem FrK.to {P:A9} {w:A3} {H:Hp} {h:AD} {d:Ad} {ob:A2} {kvs:Ac (Key × V)} (x:FrK P w d ob kvs) (e:h.get? d=Aa ob):Bi P w H h d (.dK kvs):=by
 obtain ⟨a,b,vs,c,es,ep,r⟩:=x;exact ⟨a,b,vs,c,ob,es,ep,e,r⟩
section
variable {prog:A9} {w:A3} {A:AR} {E:Ah->Aj->Prop} {s:Aj}
theorem Zo {d:Ad} {Q:Ah->Aj->Prop} (ty:s.TypeIs (.ref d) "dict") (hd:(d == Cr)=Aq)
 (q:Q (.ref s.heap.objs.size) { s with heap:=s.heap.push { cls:=.type "dict_items",data:=.fields #[.ref d] } }):Au (A6 prog w) A (call (.builtin "dict.items") [.ref d]) Q E s:=by
 refine EK F.slot_dict_items ty F.entry_dict_items ?_ (F.args_dict_items_1 _);unfold CZ.«dict.items»;refine An ?_;unfold V8;refine An (Ks ty ?_);show Au _ _ (pure d) _ _ s;refine Ay ?_;show Au _ _ (Iw d >>= _) _ _ s;unfold Iw;rw [Ao (by rw [hd];exact Bl)];refine An (Ay (An (Fi (Ay ⟨_,rfl,q⟩))))
end
section
variable {X:Cx}
theorem Aac:MtR X "dict.items" (fun x vs H Q=>∃(d:Ad) (kvs:Ac (Key × V)),x=.ref d/\vs=[]/\H d=Aa (.dK kvs)/\∀v,H v=Ai->Q (.ref v) (upd H v (hoI v d))):=by
 intro pins s σ H x vs v us Q I rx rv h;obtain ⟨d,kvs,rfl,rfl,e,q⟩:=h
 cases rx
 have hus:=rv.zero;subst hus;obtain ⟨_,hd,vs,_,o,es,ep,h1,h2,h3⟩:=(show Bi X.prog X.w H s.heap d (.dK kvs) from I.hok d _ e);refine Zo ⟨o,h1,h2.1⟩ hd ?_;refine ⟨.ref s.heap.objs.size,_,I.laid (t':=s.toks) (fun b u z=>Bv _ z) (A1 _) ?_,rfl,q _ (I.hok.fresh (A1 _))⟩;refine ⟨⟨_,BD _ rfl,rfl,rfl⟩,⟨_,BD _ rfl⟩,fun g1 g2 ⟨o,z,r⟩ k=>⟨o,k o z,r⟩⟩
theorem AcQ {P:A9} {w:A3} {K:A8} {xs:Ac A4} {k:Ae} {pos:Pos} {d it:Ad} {ob:A2} {kvs:Ac (Key × V)} {vs:Ac (Key × Ah)} (kv:KV kvs vs) {es:AL DG} {ep:Ae} (fr:ob.ExactDict/\ob.data=.dict es ep/\KeysOf (BO P w) es/\Pairs (BO P w) es.toList vs/\(vs.map (·.1)).Nodup) :
 FJ P w K (.Tuple xs k pos) (Iti d ob kvs) [it] it (fun i h=>i<=kvs.length/\∃ok ov,IsItemIter h it d i vs.length ep ok ov) where
 mem:=by simp
 obj:=fun i h st b hb=>by
  have e:b=it:=by simpa using hb
  subst e;obtain ⟨_,ok,ov,e⟩:=st;exact ⟨_,e,fun v z=>by cases (show L6 _=I0 v from z)⟩
 keep:=fun i h h' ⟨a,ok,ov,e⟩ k=>⟨a,ok,ov,k it (by simp) _ e⟩
 item:=by
  intro X hP hw hK hc i pins s σ H E I hf st hg;subst hP hw hK;obtain ⟨hd,hi⟩:=hg;obtain ⟨_,ok,ov,st⟩:=st;obtain ⟨p,hp⟩:∃p,kvs[i]?=Aa p:=⟨_,Cm hi⟩;obtain ⟨q,hq,r1,r2⟩:=Lc kv hp;have lt:it < s.heap.objs.size:=A_ st;refine wpAny_pyNext_items_item st ⟨ob,es,I.held hd,fr⟩ (k:=q.1) (v:=q.2) hq fun key h' hk out nT hsz keep=>⟨_,rfl,?_⟩;refine wpAny_letOwnedTupleGo_items out fun g2 z2 sb=>?_;have fr0:H s.heap.objs.size=Ai:=I.hok.fresh (A1 _);refine ⟨.ref s.heap.objs.size,upd H s.heap.objs.size (.tup [kV p.1,p.2]),?_,rfl,⟨_,p.1,p.2,rfl,fr0,hp,rfl⟩,⟨by omega,_,_,z2⟩,fun b hb=>?_⟩
  ·refine I.laidTurned (fp:=[it]) (t':=s.toks) (fun c o hc z=>?_) hf (A1 _) ?_
   ·have n1:c≠it:=fun e=>hc (by simp [e]);exact (sb.2 c n1).trans (keep c o n1 z)
   ·exact ⟨by show 2<=AB;decide,[key,q.2],.cons (by rw [r1];exact Ab8 hk) (.cons r2 .nil),⟨_,(sb.2 _ (IJ lt)).trans nT,rfl,_,rfl⟩⟩
  ·have e:b=it:=by simpa using hb
   subst e;rw [AF (B1 lt)];exact (hf b hb).1
 done:=by
  intro X hP hw hK hc i pins s σ H E I hf st hg;subst hP hw hK;obtain ⟨hd,hi⟩:=hg;obtain ⟨_,ok,ov,st⟩:=st;obtain ⟨f0,f1,f2,f3,f4,f5⟩:=hf it (by simp);have hx:vs[i]?=Ai:=FB (by have:=KV.length kv;omega);exact wpAny_pyNext_items_end (I.ok.hd hc) st ⟨ob,es,I.held hd,fr⟩ hx fun h' eb=>⟨rfl,I.turned (t':=s.toks) (fun b o hb e=>eb b o hb e) f0 f1 f3 f4 f5⟩
 self:=fun _ _ _ _ _ st h=>let ⟨_,_,_,e⟩:=st;PySem.W.kcp_self e h
noncomputable def Zc (P:A9) (w:A3) (te:TE):TI:=fun σ H R=>te σ H fun x H1=>∃(v d:Ad) (kvs:Ac (Key × V)),x=.ref v/\H1 v=Aa (hoI v d)/\H1 d=Aa (.dK kvs)/\∀ob,FrK P w d ob kvs->R (Iti d ob kvs) (upd H1 d (hoF d ob))
theorem AaU {e:A4} {es:Ac A4} {k:Ae} {pt:Pos} {te:TE} (he:PE X e te):PI X (.Tuple es k pt) e (Zc X.prog X.w te):=by
 intro pins s σ H R I h;refine thn (he pins s σ H _ I h) fun u s1 hq_=>?_;obtain ⟨x,H1,I1,r1,v,d,kvs,ex,ev,ed,q⟩:=hq_;subst ex
 cases r1
 obtain ⟨vw,_,_⟩:=(show Bi X.prog X.w H1 s1.heap v (hoI v d) from I1.hok v _ ev);obtain ⟨ob,eo,f⟩:=FrK.of (show Bi X.prog X.w H1 s1.heap d (.dK kvs) from I1.hok d _ ed);obtain ⟨_,_,vs,kv,es',ep,fr⟩:=id f;refine wpAny_pyIter_items (knd:=BO X.prog X.w) vw ⟨ob,es',eo,fr⟩ ?_;have I2:Inv X pins σ (upd H1 d (hoF d ob)) s1:=FM (t':=s1.toks) I1 (by rw [ed];exact Da) (LA d s1.heap) ⟨ob,eo⟩ ⟨eo,⟨ob,eo⟩,fun _ _ z k=>k _ z⟩;refine ⟨s1.heap.objs.size,[s1.heap.objs.size],_,_,_,rfl,I2.kept (t':=s1.toks) fun b o e=>Bv _ e,AcQ kv fr,⟨Br _,_,_,BD _ rfl⟩,fun b hb=>?_,q ob f⟩;have e:b=s1.heap.objs.size:=by simpa using hb
 subst e;exact I2.fpOk (A1 _) (I2.hok.fresh (A1 _))
noncomputable def AcH (P:A9) (w:A3) (te:TE):TE:=fun σ H Q=>te σ H fun v H'=>∃(d:Ad) (ob:A2) (kvs:Ac (Key × V)),H' d=Aa (hoF d ob)/\FrK P w d ob kvs/\Q v (upd H' d (.dK kvs))
theorem AaR {e:A4} {te:TE} (he:PE X e te):PE X e (AcH X.prog X.w te):=by
 intro pins s σ H Q I h;refine thn (he pins s σ H _ I h) fun u s1 hq_=>?_;obtain ⟨x,H1,I1,r1,d,ob,kvs,ed,f,q⟩:=hq_;have eo:=I1.held ed;exact ⟨x,_,FM (t':=s1.toks) I1 (by rw [ed];exact Da) (LA d s1.heap) ⟨ob,eo⟩ (f.to eo),r1,q⟩
end
theorem Yu {K:A8} {d:Ad} {ob:A2} {kvs:Ac (Key × V)} {tt:TT} {te:TE} {σ:St} {H1:Hp} {Q:Ad->Hp->Prop} {n m:Ae} (hn:n=σ.length) (hm:m=σ.length+1) (hz:kvs.length<=AB) (Pv:Ad->Ae->Ac V->Hp->Prop)
 (h0:∀D,H1 D=Ai->Pv D 0 [] (upd H1 D (.lst []))) (hD:∀D i ys H,Pv D i ys H->H D=Aa (.lst ys)/\ys.length<=i) (hl:∀D i ys H,H1 D=Ai->Pv D i ys H->H d=Aa (hoF d ob))
 (hs:∀D i k v T ys H (K1:VK) (K2:Hp->Prop),H1 D=Ai->kvs[i]?=Aa (k,v)->Pv D i ys H->H T=Ai->(∀y H5,H5 D=Aa (.lst ys)->Pv D (i+1) (ys++[y]) (upd H5 D (.lst (ys++[y])))->K1 y H5)->(∀H4,Pv D (i+1) ys H4->K2 H4) ->
  tt (σ++[Aa (kV k),Aa v]) (upd H T (.tup [kV k,v])) fun b H4=>if b=Af then te (σ++[Aa (kV k),Aa v]) H4 K1 else K2 H4)
 (hd:∀D ys H,H1 D=Ai->Pv D kvs.length ys H->Q D H) :
 ∀D,H1 D=Ai->∃W:Ae->Ae->Ac V->Hp->Prop,(∃m,W 0 m [] (upd H1 D (.lst [])))/\∀i k ys H2,W i k ys H2 ->
  H2 D=Aa (.lst ys)/\(((Iti d ob kvs).stop i H2/\Q D H2)\/((Iti d ob kvs).go i H2/\ys.length < AB/\∀x H3,(Iti d ob kvs).yld i H2 x H3->∀os:St,os.length=2->EQ K 2 (C7 (BS n) (C7 (BS m) Fn)) x (σ++os) H3 fun σ4 H4=>(∃os':St,σ4=σ++os'/\os'.length=2)/\tt σ4 H4 fun b H5=>if b=Af then te σ4 H5 fun y H6=>H6 D=Aa (.lst ys)/\∃m',m' < k/\W (i+1) m' (ys++[y]) (upd H6 D (.lst (ys++[y])))
   else ∃m',m' < k/\W (i+1) m' ys H5)):=by
 intro D hDn;subst hn hm;refine ⟨fun i m ys H=>m=kvs.length - i/\i<=kvs.length/\Pv D i ys H,⟨kvs.length,rfl,Br _,h0 D hDn⟩,?_⟩;rintro i m ys H2 ⟨rfl,hi,p⟩;obtain ⟨e,l⟩:=hD D i ys H2 p;have q1:=hl D i ys H2 hDn p;refine ⟨e,?_⟩;by_cases hlt:i < kvs.length
 ·refine .inr ⟨⟨q1,hlt⟩,Dn l (B' hlt hz),fun x H3 y os ho=>?_⟩;obtain ⟨T,k,v,rfl,hT,hy,rfl⟩:=y;have q5:=hs D i k v T ys H2 (fun y H6=>H6 D=Aa (.lst ys)/\∃m',m' < kvs.length - i/\m'=kvs.length - (i+1)/\i+1<=kvs.length/\Pv D (i+1) (ys++[y]) (upd H6 D (.lst (ys++[y])))) (fun H5=>∃m',m' < kvs.length - i/\m'=kvs.length - (i+1)/\i+1<=kvs.length/\Pv D (i+1) ys H5) hDn hy p hT (fun y H5 h5 p5=>⟨h5,kvs.length - (i+1),by omega,rfl,hlt,p5⟩) fun H4 p4=>⟨kvs.length - (i+1),by omega,rfl,hlt,p4⟩
  match os,ho with
  | [o1,o2],_ =>
    have e2:((σ++[o1,o2]).set σ.length (Aa (kV k))).set (σ.length+1) (Aa v)=σ++[Aa (kV k),Aa v]:=by
     rw [Eg _ _ (A1 _),EI,Eg _ _ (Dl _)];rw [show (BM σ+1) - BM σ=1 by omega];rfl
    refine ⟨T,[kV k,v],rfl,SqT.of Az,rfl,kV k,[v],rfl,v,[],rfl,rfl,?_⟩;refine ⟨⟨[Aa (kV k),Aa v],e2,rfl⟩,?_⟩;rw [e2];exact q5
 ·have ei:i=kvs.length:=by omega
  subst ei;exact .inl ⟨⟨q1,rfl⟩,hd D ys H2 hDn p⟩
end L2
namespace PySem
open Sem (wp)
section
variable {prog:A9} {w:A3} {K:Type} [F6 K] (knd:KeyKind prog w K)
inductive DP (h:AD):Ac (Ac K)->Ac Ah->Prop
 | nil:DP h [] []
 | cons {k:Ac K} {a:Ad} {ks:Ac (Ac K)} {vs:Ac Ah}:IsTupleKey knd h k a->DP h ks vs->DP h (k :: ks) (.ref a :: vs)
noncomputable def DN (h:AD) (ks:Ac (Ac K)) (a:Ad):Prop:=∃o items n,h.get? a=Aa o/\o.cls=.type "tuple"/\o.data=.seq items n/\DP knd h ks items.toList
variable {knd}
theorem DP.inj {h:AD} {x y:Ac (Ac K)} {vs:Ac Ah} (hx:DP knd h x vs) (hy:DP knd h y vs):x=y:=by
 induction hx generalizing y with
 | nil=>cases hy;rfl
 | cons h1 _ ih =>
   cases hy with
   | cons h2 t2=>rw [h1.inj h2,ih t2]
theorem DN.typeIs {s:Aj} {ks:Ac (Ac K)} {a:Ad} (x:DN knd s.heap ks a):s.TypeIs (.ref a) "tuple":=let ⟨o,_,_,ho,hc,_⟩:=x;⟨o,ho,hc⟩
theorem DN.inj {h:AD} {a:Ad} {x y:Ac (Ac K)} (hx:DN knd h x a) (hy:DN knd h y a):x=y:=by
 obtain ⟨o,items,n,ho,_,hd,hi⟩:=hx;obtain ⟨o',items',n',ho',_,hd',hi'⟩:=hy;obtain rfl:o=o':=Bn (ho.symm.trans ho');rw [hd] at hd';injection hd' with h1 _
 subst h1;exact hi.inj hi'
theorem DP.keeps {h h':AD} {ks:Ac (Ac K)} {vs:Ac Ah} {d:Ad} {o:A2} {es ep} (x:DP knd h ks vs) (ho:h.get? d=Aa o) (hd:o.data=.dict es ep) (hs:Ey d h h'):DP knd h' ks vs:=by
 induction x with
 | nil=>exact .nil
 | cons h1 _ ih=>exact .cons (h1.keeps ho hd hs) ih
theorem DN.keeps {h h':AD} {ks:Ac (Ac K)} {a d:Ad} {o:A2} {es ep} (x:DN knd h ks a) (ho:h.get? d=Aa o) (hd:o.data=.dict es ep) (hs:Ey d h h') :
 DN knd h' ks a:=by
 obtain ⟨o',items,n,ho',hc,hd',hi⟩:=x
 have hne:a≠d:=by
  rintro rfl;obtain rfl:o'=o:=Bn (ho'.symm.trans ho);rw [hd] at hd';exact nomatch hd'
 exact ⟨o',items,n,(hs.2 a hne).trans ho',hc,hd',hi.keeps ho hd hs⟩
noncomputable def N5 (knd:KeyKind prog w K) (ks:Ac (Ac K)):Ab:=reduceHash (Iy (ks.map (tupleKeyHash knd)))
noncomputable def N4 (ks:Ac (Ac K)):Ae:=(ks.map fun k=>k.length+1).sum+1
variable {A:AR} {E:Ah->Aj->Prop} {s:Aj}
theorem Adq {ks:Ac (Ac K)} {a:Ad} {Q:Ab->Aj->Prop} (hu:A.units+1 < cLine) (hk:DN knd s.heap ks a) (h:Q (N5 knd ks) { s with toks:=s.toks+N4 ks }) :
 Au (A6 prog w) A (pyHash (.ref a)) Q E s:=by
 have hT:=hk.typeIs;obtain ⟨o,items,n,ho,_,hd,hi⟩:=hk;unfold pyHash
 first | unfold pyHashByItsType | skip
 first | refine An (wpAny_cRoomFor_or (.inr (W5 hu)) ?_) | skip
 refine An (Ku hT F.slot_tuple_hash.lookup ?_);show Au _ _ (if (Aa (Value.builtin "tuple.__hash__") == Aa BQ)=Af then _ else _) Q E s;rw [Ao (by rw [beq_builtin_none];exact Bl)];refine An (Ku hT F.slot_tuple_hash.lookup ?_);show Au _ _ (callSpecialIfBoundUnlessNone? (.ref a) "__hash__" _ >>= _) Q E s;refine An (wpAny_callSpecialIfBoundUnlessNone?_slot hT VL (EK VL hT F.entry_tuple_hash ?_ (F.args_tuple_hash_1 _)));show Au _ _ (Builtin.Tuple.tupleItemsOf (.ref a) >>= _) _ _ s;refine An (P3 ho hd ?_);refine An ?_;rw [<- JM]
 refine Kq _
  (fun rest (b:AL Ab) s'=>∃done left,ks=done++left/\DP knd s.heap left rest/\b.toList=done.map (tupleKeyHash knd)/\s'={ s with toks:=s.toks+(done.map fun k=>k.length+1).sum })
  _ ?_ ?_ _ _ ⟨[],ks,rfl,hi,rfl,rfl⟩
 ·rintro x rest b s' ⟨done,left,rfl,hl,hb,rfl⟩
  cases hl with
  | @cons k _ ks' _ h1 hl' =>
    refine An (wpAny_pyHash_tuple (knd:=knd) hu h1 ?_)
    first
     | exact Ay ⟨done++[k],ks',by simp,hl',by simp [hb],by simp [Mg]⟩
     | exact An (Ay (Ay ⟨done++[k],ks',by simp,hl',by simp [hb],by simp [Mg]⟩))
 ·rintro b s' ⟨done,left,rfl,hl,hb,rfl⟩
  cases hl
  rw [Ch] at h;show Au _ _ (retInt (Iy b.toList)) _ _ _;rw [hb];refine wpAny_ret_mkInt ?_;show Au _ _ (if (decide (-(2:Ab) ^ 63<=Iy (done.map (tupleKeyHash knd))) && decide (Iy (done.map (tupleKeyHash knd)) < 2 ^ 63))=Af then _ else _) Q E _;unfold N5 reduceHash N4 at h;by_cases hr:(decide (-(2:Ab) ^ 63<=Iy (done.map (tupleKeyHash knd))) && decide (Iy (done.map (tupleKeyHash knd)) < 2 ^ 63))=Af
  ·rw [Ar hr];rw [Ar hr] at h;exact Ay (by simpa [Mg] using h)
  ·rw [Ao hr];rw [Ao hr] at h;exact An (IZ (Ay (by simpa [Mg] using h)))
theorem Aaj {x y:Ac (Ac K)} {a b:Ad} {P:Fin->Aj->Prop} (hu:A.units < cLine) (hx:DN knd s.heap x a) (hy:DN knd s.heap y b) (h:P (.done (.ret (.bool (decide (x=y))))) s) :
 Au (A6 prog w) A (CZ.«tuple.__eq__» ⟨[.ref a,.ref b],[]⟩) P E s:=by
 have hTb:=hy.typeIs;obtain ⟨oa,xs,na,hoa,_,hda,hia⟩:=hx;obtain ⟨ob,ys,nb,hob,_,hdb,hib⟩:=hy;show Au _ _ (isInstance (.ref b) (.type "tuple") >>= _) _ _ s;refine An (Kr hTb Pr ?_);simp only [Iv,CY,C6];refine An (P3 hoa hda ?_);refine An (P3 hob hdb ?_);refine An ?_
 refine Kq _
  (fun rest r s'=>r.1=Ai/\s'=s/\∃x' y' xs' ys',rest=List.zip xs' ys'/\DP knd s.heap x' xs'/\DP knd s.heap y' ys'/\decide (x'=y')=decide (x=y)/\(xs'.length == ys'.length)=(xs.size == ys.size))
  _ ?_ ?_ _ _ ⟨rfl,rfl,x,y,xs.toList,ys.toList,rfl,hia,hib,rfl,by simp⟩
 ·rintro ⟨u,v⟩ rest r s' ⟨hr,rfl,x',y',xs',ys',hz,hx',hy',hdec,hlen⟩
  cases hx' with
  | nil=>simp at hz
  | @cons k1 u' x'' xs'' h1 hx'' =>
    cases hy' with
    | nil=>simp at hz
    | @cons k2 v' y'' ys'' h2 hy'' =>
      simp only [JZ,List.cons.injEq,Prod.mk.injEq] at hz;obtain ⟨⟨rfl,rfl⟩,rfl⟩:=hz;refine An (wpAny_eqBool_tuple (x:=k1) (y:=k2) hu h1 h2 ?_);by_cases hk:k1=k2
      ·subst hk;rw [AT rfl];simp only [Iv,CY,C6];refine Ay ⟨rfl,rfl,x'',y'',xs'',ys'',rfl,hx'',hy'',?_,by simpa using hlen⟩;rw [<- hdec];by_cases hxy:x''=y''
       ·simp [hxy]
       ·simp [hxy]
      ·rw [AS hk];simp only [Bool.not_false,Kl];have hf:decide (x=y)=Aq:=by rw [<- hdec];simp [hk]
       rw [hf] at h;exact An (Ay (Ay (Ay h)))
 ·rintro ⟨r1,r2⟩ s' ⟨hr,rfl,x',y',xs',ys',hz,hx',hy',hdec,hlen⟩;simp only at hr;subst hr;refine Ay ?_
  have hfin:(xs.size == ys.size)=decide (x=y):=by
   rw [<- hdec,<- hlen]
   cases hx' with
   | nil =>
     cases hy' with
     | nil=>simp
     | cons _ _=>simp
   | cons _ _ =>
     cases hy' with
     | nil=>simp
     | cons _ _=>simp at hz
  show P (.done (.ret (.bool (xs.size == ys.size)))) s';rw [hfin];exact h
theorem Ado {x y:Ac (Ac K)} {a b:Ad} {Q:AI->Aj->Prop} (hu:A.units+1 < cLine) (hx:DN knd s.heap x a) (hy:DN knd s.heap y b) (h:Q (decide (x=y)) s) :
 Au (A6 prog w) A (eqBool (.ref a) (.ref b)) Q E s:=by
 unfold eqBool
 try with_reducible refine Dq ?_
 show Au _ _ (if (AO a == AO b)=Af then _ else _) Q E s;by_cases hab:(AO a == AO b)=Af
 ·rw [Ar hab];have e:a=b:=by have:=eq_of_beq hab;injection this
  subst e;obtain rfl:=hx.inj hy;exact An (IZ (Ay (by simpa using h)))
 ·rw [Ao hab]
  exact An (wpAny_richCompare_same_room (op:=.Eq) hx.typeIs hy.typeIs F.slot_tuple_eq
   (EK F.slot_tuple_eq hx.typeIs F.entry_tuple_eq (Aaj hu hx hy ⟨_,rfl,(fun e=>nomatch e),FI h⟩) (F.args_tuple_eq_2 _ _)) (W5 hu))
theorem Adr {ks:Ac K} {a:Ad} {Q:AI->Aj->Prop} (n:Ae) (hk:IsTupleKey knd s.heap ks a) (h:Q Af s):Au (A6 prog w) A (eqIsQuiet (n+1) (.ref a)) Q E s:=by
 have hT:=hk.typeIs;obtain ⟨o,items,m,ho,_,hd,hi⟩:=hk;unfold eqIsQuiet;refine An (Ku hT F.slot_tuple_eq.lookup ?_);show Au _ _ (isInstance (.ref a) (.type "tuple") >>= _) _ _ s;refine An (Kr hT Pr ?_);simp only [Iv,CY,C6];refine An (Kt ho hd ?_);refine An ?_;show Au _ _ (forIn items _ _) _ _ s;rw [<- JM];refine Kq _ (fun rest r s'=>r.1=Ai/\s'=s/\∀v∈rest,carriedByValue v=Af) _ ?_ ?_ _ _ ⟨rfl,rfl,hi.byValue⟩
 ·rintro v rest r s' ⟨hr,rfl,hall⟩;rw [eqIsQuiet_byValue _ (hall v AV)];refine An (Ay ?_);simp only [Iv,CY,C6];exact Ay ⟨rfl,rfl,fun u hu'=>hall u (Bc _ hu')⟩
 ·rintro ⟨r1,r2⟩ s' ⟨hr,rfl,_⟩;simp only at hr;subst hr;exact Ay h
theorem Adt {ks:Ac (Ac K)} {a:Ad} {Q:AI->Aj->Prop} (hk:DN knd s.heap ks a) (h:Q Af s):Au (A6 prog w) A (eqIsQuiet 8 (.ref a)) Q E s:=by
 have hT:=hk.typeIs;obtain ⟨o,items,m,ho,_,hd,hi⟩:=hk;unfold eqIsQuiet;refine An (Ku hT F.slot_tuple_eq.lookup ?_);show Au _ _ (isInstance (.ref a) (.type "tuple") >>= _) _ _ s;refine An (Kr hT Pr ?_);simp only [Iv,CY,C6];refine An (Kt ho hd ?_);refine An ?_;show Au _ _ (forIn items _ _) _ _ s;rw [<- JM];refine Kq _ (fun rest r s'=>r.1=Ai/\s'=s/\∃ks,DP knd s.heap ks rest) _ ?_ ?_ _ _ ⟨rfl,rfl,ks,hi⟩
 ·rintro v rest r s' ⟨hr,rfl,ks,hall⟩
  cases hall with
  | @cons k _ ks' _ h1 h2 =>
    refine An (Adr 6 h1 ?_);simp only [Iv,CY,C6];exact Ay ⟨rfl,rfl,ks',h2⟩
 ·rintro ⟨r1,r2⟩ s' ⟨hr,rfl,_⟩;simp only at hr;subst hr;exact Ay h
end
noncomputable def N6 {prog:A9} {w:A3} {K:Type} [F6 K] (knd:KeyKind prog w K):HeapKind prog w (Ac (Ac K)) where
 is:=DN knd
 hash:=N5 knd
 draws:=N4
 room:=fun A=>A.units+1 < cLine
 inj:=fun hx hy=>hx.inj hy
 keeps:=fun x ho hd hs=>x.keeps ho hd hs
 pyHash:=fun hu hk h=>Adq hu hk h
 eqBool:=fun hu hx hy h=>Ado hu hx hy h
 quiet:=fun hk h=>Adt hk h
end PySem
namespace L2
open PySem PySem.Spec PyProof.Rows
noncomputable def Ei (H:Hp) (b:Ad) (kss:Ac (Ac Key)):Prop:=∃as:Ac Ad,H b=Aa (.tup (as.map V.ref))/\Cq (fun (ks:Ac Key) (a:Ad)=>H a=Aa (.tup (ks.map kV))) kss as
abbrev KN (H:Hp):Ac (Ac (Ac Key) × V)->Ac (Ac (Ac Key) × Ad × Ah)->Prop:=Cq fun p q=>p.1=q.1/\Ei H q.2.1 p.1/\AQ p.2 q.2.2
noncomputable def NT (P:A9) (w:A3) (H:Hp) (a:Ad) (kvs:Ac (Ac (Ac Key) × V)):Prop:=∃ob:A2,H a=Aa (hoF a ob)/\kvs.length<=AB/\(a == Cr)=Aq /\
 ∃xs,KN H kvs xs/\∃es ep,ob.ExactDict/\ob.data=.dict es ep/\es.toList=xs.map (entryOfKey (N6 (BO P w)))/\(xs.map (·.1)).Nodup
theorem Ei.tups {H H':Hp} {b:Ad} {kss:Ac (Ac Key)} (t:∀c xs,H c=Aa (.tup xs)->H' c=Aa (.tup xs)) (k:Ei H b kss):Ei H' b kss:=by
 obtain ⟨as,h1,h2⟩:=k;exact ⟨as,t _ _ h1,Paired.mapP h2 fun _ _ z=>t _ _ z⟩
theorem Ei.same {H H':Hp} {b:Ad} {kss:Ac (Ac Key)} (t:Ax H H') (k:Ei H b kss):Ei H' b kss:=k.tups fun c xs e=>t c _ e
theorem KN.tups {H H':Hp} {kvs:Ac (Ac (Ac Key) × V)} {xs:Ac (Ac (Ac Key) × Ad × Ah)} (t:∀c xs,H c=Aa (.tup xs)->H' c=Aa (.tup xs)) (k:KN H kvs xs):KN H' kvs xs :=
 Paired.mapP k fun _ _ z=>⟨z.1,z.2.1.tups t,z.2.2⟩
theorem NT.same {P:A9} {w:A3} {H H':Hp} {a:Ad} {kvs:Ac (Ac (Ac Key) × V)} (t:Ax H H') (k:NT P w H a kvs):NT P w H' a kvs:=by
 obtain ⟨ob,h1,h2,h3,xs,h4,r⟩:=k;exact ⟨ob,t _ _ h1,h2,h3,xs,h4.tups fun c xs e=>t c _ e,r⟩
theorem KN.val {H:Hp} {kvs:Ac (Ac (Ac Key) × V)} {xs:Ac (Ac (Ac Key) × Ad × Ah)} (r:KN H kvs xs) (k:Ac (Ac Key)):CL (A' kvs k) ((atKey xs k).map (·.2)):=by
 induction r with
 | nil=>exact Da
 | @cons p q ps qs h t ih =>
   obtain ⟨h1,_,h2⟩:=h;by_cases e:p.1=k
   ·have e':q.1=k:=h1.symm.trans e;have b:atKey (q :: qs) k=Aa q.2:=by simp [atKey,Ez,e']
    rw [Ev e,b];exact h2
   ·have e':¬ q.1=k:=fun z=>e (h1.trans z);have b:atKey (q :: qs) k=atKey qs k:=by simp [atKey,Ez,e']
    rw [Eu e,b];exact ih
theorem KN.repl {H:Hp} {kvs:Ac (Ac (Ac Key) × V)} {xs:Ac (Ac (Ac Key) × Ad × Ah)} (r:KN H kvs xs) (k:Ac (Ac Key)) {y:V} {u:Ah} (ry:AQ y u) :
 KN H (kvs.map fun kv=>if kv.1=k then (kv.1,y) else kv) (xs.map (putAt k u)):=by
 induction r with
 | nil=>exact .nil
 | @cons p q ps qs h t ih =>
   rw [Bg,Bg];refine .cons ?_ ih;obtain ⟨h1,h2,h3⟩:=h;unfold putAt;by_cases e:p.1=k
   ·rw [Ar e,Ar (h1.symm.trans e)];exact ⟨h1,h2,ry⟩
   ·rw [Ao e,Ao (fun z=>e (h1.trans z))];exact ⟨h1,h2,h3⟩
theorem KN.put {H:Hp} {kvs:Ac (Ac (Ac Key) × V)} {xs:Ac (Ac (Ac Key) × Ad × Ah)} (r:KN H kvs xs) (k:Ac (Ac Key)) {b:Ad} {y:V} {u:Ah} (hb:Ei H b k) (ry:AQ y u) :
 KN H (B6 kvs k y) (storedH xs k b u):=by
 have e:(kvs.any fun kv=>decide (kv.1=k))=(atKey xs k).isSome:=by
  rw [F',(r.val k).isSome_eq,OP]
 unfold B6 storedH;rw [e];by_cases q:(atKey xs k).isSome=Af
 ·rw [Ar q,Ar q];exact r.repl k ry
 ·rw [Ao q,Ao q];exact OQ r ⟨rfl,hb,ry⟩
section
variable {P:A9} {w:A3} {H:Hp} {h:AD} {a:Ad}
theorem Sq (ok:HOk P w H h):∀{kss:Ac (Ac Key)} {as:Ac Ad} {its:Ac Ah},Cq (fun (ks:Ac Key) (a:Ad)=>H a=Aa (.tup (ks.map kV))) kss as->AU (as.map V.ref) its->DP (BO P w) h kss its
 | _,_,_,.nil,r=>by cases r;exact .nil
 | _,_,_,.cons (b:=b) hb t,r=>by
   rw [Bg] at r
   cases r with
   | cons x y =>
     cases (show _=AO b from x)
     exact .cons (Hc ok hb) (Sq ok t y)
theorem KY {kss:Ac (Ac Key)} (ok:HOk P w H h) (e:Ei H a kss):(N6 (BO P w)).is h kss a:=by
 obtain ⟨as,e1,e2⟩:=e;obtain ⟨sz,its,r,o,h1,h2,n,h3⟩:=(show Bi P w H h a (.tup (as.map V.ref)) from ok a _ e1);refine ⟨o,its.toArray,n,h1,h2,h3,?_⟩;rw [show its.toArray.toList=its from by simp];exact Sq ok e2 r
theorem N8 {kvs:Ac (Ac (Ac Key) × V)} (ok:HOk P w H h) (e:NT P w H a kvs):∃ob,H a=Aa (hoF a ob)/\kvs.length<=AB/\(a == Cr)=Aq/\∃xs,KN H kvs xs/\h.DictOfH (N6 (BO P w)) a xs:=by
 obtain ⟨ob,h0,h1,h2,xs,r,es,ep,h3,h4,h5,h6⟩:=e
 have hg:h.get? a=Aa ob:=by
  obtain ⟨z,_⟩:=(show Bi P w H h a (hoF a ob) from ok a _ h0);exact z
 refine ⟨ob,h0,h1,h2,xs,r,ob,es,ep,hg,h3,h4,h5,fun x hx=>?_,h6⟩;clear h5 h6 h1
 induction r with
 | nil=>exact nomatch hx
 | @cons p q ps qs hq t ih =>
   rcases mem_cons.mp hx with e | hx
   ·subst e;exact KY ok (by rw [<- hq.1];exact hq.2.1)
   ·exact ih hx
end
theorem u2 {n:Ae} (h:n+64 < cLine):n+2 < cLine:=by omega
noncomputable def Acx (P:A9) (w:A3):TE:=fun _ H Q=>∀p ob,H p=Ai->NT P w (upd H p (hoF p ob)) p []->Q (.ref p) (upd H p (hoF p ob))
noncomputable def Acv (P:A9) (w:A3) (td ty:TE):TE:=fun σ H Q=>td σ H fun x H1=>ty σ H1 fun y H2=>∃a b kvs kss v,x=.ref a/\y=.ref b/\NT P w H2 a kvs/\Ei H2 b kss/\A' kvs kss=Aa v/\Q v H2
noncomputable def Ab0 (P:A9) (w:A3):R2:=fun y x H Q=>∃a b kvs kss,x=.ref a/\y=.ref b/\NT P w H a kvs/\Ei H b kss/\Q (.bl (!(A' kvs kss).isSome)) H
noncomputable def AbK (P:A9) (w:A3) (td ty tv:TE):TS:=fun D σ H=>tv σ H fun v H1=>td σ H1 fun x H2=>ty σ H2 fun y H3=>∃a b kvs kss,x=.ref a/\y=.ref b/\NT P w H3 a kvs/\Ei H3 b kss/\kvs.length < AB/\∀ob,NT P w (upd H3 a (hoF a ob)) a (B6 kvs kss v)->D.nx σ (upd H3 a (hoF a ob))
section
variable {X:Cx} {o i e value:A4} {pos pos' tpos:Pos} {td ty tv:TE}
theorem AaI:PE X (.Dict [] [] pos) (Acx X.prog X.w):=fun pins s σ H Q I h=>by
 have hp:=I.hok.fresh (A1 s.heap.objs.size);have hg:(s.heap.push { cls:=.type "dict",data:=.dict #[] }).get? s.heap.objs.size=Aa { cls:=.type "dict",data:=.dict #[] }:=BD _ rfl
 exact Pz ⟨.ref s.heap.objs.size,_,I.laid (a:=s.heap.objs.size) (o:=hoF s.heap.objs.size { cls:=.type "dict",data:=.dict #[] }) (t':=s.toks) (fun _ _ q=>Bv _ q) (A1 _) ⟨hg,⟨_,hg⟩,fun _ _ z k=>k _ z⟩,rfl,
  h _ _ hp ⟨_,Az,Br _,beq_eq_false_iff_ne.mpr (BF (B1 I.big)),[],.nil,#[],0,⟨rfl,rfl,rfl⟩,rfl,rfl,Fc⟩⟩
theorem RI (hu:X.A.units+2 < cLine) (ho:PE X o td) (hi:PE X i ty) (hs:MT i):PE X (.Subscript o i pos) (Acv X.prog X.w td ty):=by
 intro pins s σ H Q I h;refine UO PySem.F.slot_dict_getitem.lookup hs (thn (ho pins s σ H _ I h) fun u s1 hq_=>?_);obtain ⟨x,H1,I1,rx,q1⟩:=hq_;refine thn (hi pins s1 σ H1 _ I1 q1) fun iv s2 hq_=>?_;obtain ⟨y,H2,I2,ry,a,b,kvs,kss,v,ex,ey,nt,nk,hv,q2⟩:=hq_;subst ex ey;obtain rfl:u=AO a:=rx;obtain rfl:iv=AO b:=ry;obtain ⟨ob,h0,z,hd,xs,rel,dd⟩:=N8 I2.hok nt;refine ⟨dd.typeIs,?_⟩;obtain ⟨w',hw,rw'⟩:=CL.some_of (v:=v) (o:=(atKey xs kss).map (·.2)) (by rw [<- hv];exact rel.val kss);obtain ⟨p,hp,hp2⟩:=Option.map_eq_some_iff.mp hw;refine X4 (show X.A.in1.units+1 < cLine from hu) (KY I2.hok nk) dd hp ?_;rw [hp2];exact ⟨v,H2,I2.tok _,rw',q2⟩
theorem Aay (hu:X.A.units+2 < cLine):OpR X (Cj .NotIn) (Ab0 X.prog X.w):=by
 intro pins s σ H x y v u Q I rx ry h;obtain ⟨a,b,kvs,kss,rfl,rfl,nt,nk,q2⟩:=h;obtain rfl:u=AO a:=ry;obtain rfl:v=AO b:=rx;obtain ⟨ob,h0,z,hd,xs,rel,dd⟩:=N8 I.hok nt;refine wpAny_notIn_heap (show X.A.in1.units+1 < cLine from hu) (KY I.hok nk) hd dd ?_;have q:=(rel.val kss).isSome_eq;rw [OP] at q;rw [<- q];exact ⟨.bl (!(A' kvs kss).isSome),H,I.tok _,rfl,q2⟩
theorem Aba (hu:X.A.units+2 < cLine) (ho:PE X o td) (hi:PE X i ty) (hv:PE X value tv) (hs:swapsWith value (Aa (.Subscript o i pos')) pos.line X.env=pure Aq) :
 PS X (.Assign [.Subscript o i pos'] value pos) (AbK X.prog X.w td ty tv):=by
 intro pins s σ H D I h;refine Xx (thn (hv pins s σ H _ I h) fun r s1 ⟨v,H1,I1,rv,q1⟩=>thn (ho pins s1 σ H1 _ I1 q1) fun u s2 ⟨x,H2,I2,rx,q2⟩=>thn (hi pins s2 σ H2 _ I2 q2) fun iv s3 ⟨y,H3,I3,ry,a,b,kvs,kss,ex,ey,nt,nk,l,q3⟩=>?_) hs;subst ex ey;obtain rfl:u=AO a:=rx;obtain rfl:iv=AO b:=ry;obtain ⟨ob,h0,z,hd,xs,rel,dd⟩:=N8 I3.hok nt;have hz:xs.length<=AB:=by rw [<- GL rel];exact z
 have hl:(B6 kvs kss v).length<=AB:=by have:=Jk kvs kss v;omega
 refine XC (hsz:=hz) (show X.A.in1.units+1 < cLine from hu) (KY I3.hok nk) dd fun h' dd' hs=>?_;obtain ⟨q,es,ep,hq,h2,h3,h4,_,h5⟩:=dd'
 have tt:∀c ys,H3 c=Aa (.tup ys)->(upd H3 a (hoF a q)) c=Aa (.tup ys):=fun c ys ec=>by
  rw [AF (Ce ec h0 (fun z=>by cases z))];exact ec
 refine ⟨σ,_,FM (ob:=hoF a q) I3 (by rw [h0];exact Da) hs ⟨q,hq⟩ ⟨hq,⟨q,hq⟩,fun _ _ z k=>k _ z⟩,q3 q ⟨q,Az,hl,hd,_,(rel.put kss nk rv).tups tt,es,ep,h2,h3,h4,h5⟩⟩
end
end L2
namespace L2
open PySem PySem.Spec PyProof.Rows
section
variable {X:Cx}
end
section
variable {prog:A9} {w:A3} {A:AR} {E:Ah->Aj->Prop} {s:Aj}
end
end L2
namespace L2
open PySem PySem.Spec PyProof.Rows
section
variable {prog:A9} {w:A3} {A:AR} {E:Ah->Aj->Prop} {s:Aj}
end
section
variable {prog:A9} {w:A3} {A:AR} {E:Ah->Aj->Prop} {s:Aj}
end
section
variable {X:Cx} {pins:Ac (Ad × A2)} {σ:St} {H:Hp}
end
section
variable {X:Cx} {e:A4} {te:TE} {p p2 pos pos2:Pos}
end
end L2
namespace L2
open PySem PySem.Spec PyProof.Rows
section
variable {X:Cx} {pins:Ac (Ad × A2)} {σ:St} {H:Hp}
end
end L2
namespace L2
open PySem PySem.Spec PyProof.Rows
end L2
namespace L2
open PySem PySem.W PySem.Spec PyProof.Rows
section
variable {O:KeyOrd} {ky:Ae->O.α} {n:Ae} {cmp:Ae->Ae->(AI->Aj->Prop)->Aj->Prop} {J:Aj->Prop}
end
end L2
namespace L2
open PySem PySem.W PySem.Spec PyProof.Rows
noncomputable def Gy:KeyOrd:=⟨Ab,fun a b=>decide (a < b),fun a=>AS (Int.lt_irrefl a),fun a b c h1 h2=>AT (O5 (CK h1) (CK h2)),fun a b c h=>by
 have h:=CK h;by_cases x:a < b
 ·exact .inl (AT x)
 ·exact .inr (AT (by omega)),fun a b h1 h2=>by
 have h1:=HL h1;have h2:=HL h2;omega⟩
noncomputable def Gx (a:Ad) (e:Ae):HO:=.ext fun h=>h.get? a=Aa (seqObj "list" #[] e)
theorem YZ {P:A9} {w:A3} {H:Hp} {h:AD} {a:Ad} {e:Ae} (x:h.get? a=Aa (seqObj "list" #[] e)):Bi P w H h a (Gx a e):=⟨x,⟨_,x⟩,fun _ _ y k=>k _ y⟩
theorem Q6 {P:A9} {w:A3} {H:Hp} {h:AD} {a:Ad} {e:Ae} (x:Bi P w H h a (Gx a e)):h.get? a=Aa (seqObj "list" #[] e):=x.1
theorem JA {H G:Hp} {a:Ad} {o:HO} (e:Ax H G) (h:H a=Ai):Ax H (upd G a o):=fun b u q=>by
 by_cases c:b=a
 ·rw [c,h] at q;cases q
 ·rw [AF c];exact e b u q
section
variable {X:Cx} {pins:Ac (Ad × A2)} {σ:St} {H:Hp} {xs:Ac V} {l f a kS:Ad} {E:Ah->Aj->Prop} {P:OW->Aj->Prop}
theorem T6 {st:SortSt} {s:Aj} {e1:Ae} {its:Ac Ah} {ys:Ac V} {p:AL Ae} (I:Inv X pins σ H s) (ha:H a=Aa (Gx a e1)) (hk:H kS=Aa (.lst ys)) (hka:kS≠a)
 (rv:AU xs its) (h64:xs.length < 64) (har:(arrOf st).map (·.2)=Fe (p.toList.map fun i=>its.getD i BQ)) (hp:Prm xs.length p) (hf:failedOf st=Ai)
 (h:∀s',Inv X pins σ (upd (upd H kS (.lst [])) a (.lst (p.toList.map fun i=>xs.getD i .non))) s'->P (.done (.ret .none)) s') :
 Au (A6 X.prog X.w) X.A.in1.in1 (ksk_tail a Aq e1 (.ref kS) st) P E s:=by
 obtain ⟨zk,kits,kn,kv,kl,gk⟩:=I.lstM hk;have ga:=Q6 (I.hok _ _ ha);have hlen:=rv.length;have I1:=I.lset (t':=s.toks) (its':=[]) (f:=fun _=>(#[]:AL Ah)) hk gk rfl (ys:=[]) .nil (Br _);have ha1:(upd H kS (.lst [])) a=Aa (Gx a e1):=by rw [AF (BF hka)];exact ha
 have ga1:=Q6 (I1.hok _ _ ha1);unfold ksk_tail
 try dsimp only
 refine An (HK gk rfl ?_ (by rw [BJ,<- kl];exact zk) (Br _));refine An (IX ?_);refine An (Kn ga1 rfl ?_);rw [har];have hpl:(p.toList.map fun i=>its.getD i BQ).length=xs.length:=by rw [At,Ec,hp.size]
 refine An (HK ga1 rfl ?_ (Br _) (by show (Fe _).size<=_;rw [BJ,hpl,CC];omega));rw [hf];simp only [Pp,CY,C6];refine Ay (h _ ?_);have q:=WT ga1 fun _=>Fe (p.toList.map fun i=>its.getD i BQ);refine I1.write (x:=a) (e:=a) (by rw [ha1];exact trivial) (.inl rfl) (fun b' u hb hu=>(Gc _ _ (BF hb)).trans hu) ⟨_,q⟩ ?_;refine ⟨by rw [At,Ec,hp.size,CC];omega,_,_,?_,q⟩;have hlt:∀i∈p.toList,i < xs.length:=fun i m=>mem_range.mp (hp.mem_iff.mp m);clear har hpl ga1 ha1 q hp;generalize p.toList=pl at hlt ⊢
 induction pl with
 | nil=>exact .nil
 | cons i r ih =>
   refine .cons ?_ (ih fun j m=>hlt j (Bc _ m));have hi:=hlt i (AV ..);obtain ⟨v,hv,rx⟩:=rv.get (Cm hi);show AQ (xs.getD i .non) (its.getD i BQ);rw [BI,BI,hv,Cm hi];exact rx
end
section
variable {X:Cx} {c P:Ad} {e body:A4} {tl tb:TE} {sc fsc:Bu} {N Nc:Ac Ak} {x:Ak} {params:Hm} {lpos kp p pos:Pos}
end
theorem BB.lam {k:Ae} {A:AR} (r:BB (k+1) A) (env:BC):BB k (A.in1.in1.deeper env) :=
 ⟨r.hd,by have:=r.dp;show A.depth+1+3*k+5 < _;omega,by have:=r.un;show A.units+1+1+3+16*k+200 < _;omega⟩
end L2
namespace L2
open PySem PySem.W PySem.Spec PyProof.Rows
section
variable {prog:A9} {w:A3} {A:AR} {E:Ah->Aj->Prop} {s:Aj} {κ:SortKind} {a₀:AL Keyed}
section
variable {a b:AL Keyed}
end
section
variable {a b:AL Keyed}
end
end
section
variable {X:Cx}
end
end L2
namespace L2
open PySem PySem.W PySem.Spec PyProof.Rows
theorem Nw {α β:Type} (f:α->β):∀(l:Ac α) (j:Ae),(l.map f).eraseIdx j=(l.eraseIdx j).map f
 | [],_=>rfl
 | _ :: _,0=>rfl
 | x :: l,j+1=>Bx (f x :: ·) (Nw f l j)
section
variable {prog:A9} {w:A3} {K:Type} [F6 K] {knd:HeapKind prog w K} {A:AR} {E:Ah->Aj->Prop} {s:Aj} {d a:Ad} {k:K} {xs:Ac (K × Ad × Ah)}
theorem Adu {v:Ah} {Q:Ah->Aj->Prop} (room:knd.room A) (key:knd.is s.heap k a) (m:s.heap.DictOfH knd d xs) (z:xs.length<=AB)
 (there:∀p,atKey xs k=Aa p->Q p.2 { s with toks:=s.toks+knd.draws k })
 (new:atKey xs k=Ai->∀h',h'.DictOfH knd d (storedH xs k a v)->Ey d s.heap h'->Q v { s with heap:=h',toks:=s.toks+knd.draws k }) :
 Au (A6 prog w) A (dictSetDefault d (.ref a) v) Q E s:=by
 obtain ⟨ob,ents,epo,e1,e2,e3,e4,e5,e6⟩:=m;unfold dictSetDefault;refine Dq (An (knd.pyHash room key ?_));refine An (X1 (s:={ s with toks:=s.toks+knd.draws k }) room key e1 e3 e4 e5 e6 (fun no=>?_) fun j p hj=>?_)
 ·have nk:atKey xs k=Ai:=atKey_none_of_get no;have nm:k ∉ xs.map (·.1):=not_mem_keys_of_get no;have sb:=IA (h:=s.heap) (a:=d) (f:=Obj.mapDictKeys fun es=>es.push ⟨knd.hash k,.ref a,v⟩);refine An (IZ (An (XD (hz:=by have:=ME e4;omega) (s:={ s with toks:=s.toks+knd.draws k }) e1 e3 (Ay (new nk _ ⟨_,_,epo+1,Hr _ e1 (WA (Ml e3 _)),e2.mapDictKeys _,Ml e3 _,?_,fun x hx=>?_,?_⟩ sb)))))
  ·rw [Px nk,AK,<- e4];simp [entryOfKey]
  ·rw [Px nk] at hx;rcases mem_append.mp hx with hx | hx
   ·exact knd.keeps (e5 x hx) e1 e3 sb
   ·rw [mem_singleton.mp hx];exact knd.keeps key e1 e3 sb
  ·rw [Px nk,AK];exact nodup_append.mpr ⟨e6,nodup_cons.mpr ⟨Bm,Fc⟩,fun x hx y hy z=>nm (by have e:y=k:=mem_singleton.mp hy;rw [<- e,<- z];exact hx)⟩
 ·refine An (Gn (s:={ s with toks:=s.toks+knd.draws k }) e1 e3 ?_);rw [entry_at e4 j,hj];exact An (IZ (Ay (there p (atKey_of_get e6 hj))))
theorem Adv {j:Ae} {p:Ad × Ah} {Q:A5 DG->Aj->Prop} (room:knd.room A) (key:knd.is s.heap k a) (m:s.heap.DictOfH knd d xs) (z:xs.length<=AB) (hp:xs[j]?=Aa (k,p))
 (h:∀h' e,e.val=p.2->h'.DictOfH knd d (xs.eraseIdx j)->Ey d s.heap h'->Q (Aa e) { s with heap:=h',toks:=s.toks+knd.draws k }) :
 Au (A6 prog w) A (V9 d (.ref a)) Q E s:=by
 obtain ⟨ob,ents,epo,e1,e2,e3,e4,e5,e6⟩:=m;unfold V9;refine Dq (An (knd.pyHash room key ?_));refine An (X1 (s:={ s with toks:=s.toks+knd.draws k }) room key e1 e3 e4 e5 e6 (fun no=>Aw hp (no j p)) fun i q hq=>?_);obtain rfl:i=j:=idxH_unique e6 hq hp;obtain rfl:q=p:=by rw [hp] at hq;exact (Kc (Bn hq)).2.symm
 have sb:=IA (h:=s.heap) (a:=d) (f:=Obj.mapDictKeys fun es=>es.eraseIdxIfInBounds i);refine An (Gn (s:={ s with toks:=s.toks+knd.draws k }) e1 e3 ?_);rw [entry_at e4 i,hq];refine An (XD (hz:=by have:=ME e4;omega) (s:={ s with toks:=s.toks+knd.draws k }) e1 e3 (Ay (h _ _ rfl ⟨_,_,epo+1,Hr _ e1 (WA (Ml e3 _)),e2.mapDictKeys _,Ml e3 _,?_,fun x hx=>?_,?_⟩ sb)))
 ·rw [<- Nw,<- e4];obtain ⟨l⟩:=ents;simp
 ·exact knd.keeps (e5 x (mem_of_mem_eraseIdx hx)) e1 e3 sb
 ·exact List.Nodup.sublist ((eraseIdx_sublist xs i).map _) e6
end
theorem R9 {α β:Type} {F:α->β->Prop}:∀{l:Ac α} {m:Ac β} (j:Ae),Cq F l m->Cq F (l.eraseIdx j) (m.eraseIdx j)
 | _,_,_,.nil=>.nil
 | _,_,0,.cons _ t=>t
 | _,_,j+1,.cons h t=>.cons h (R9 j t)
section
variable {prog:A9} {w:A3} {K:Type} [F6 K] (knd:HeapKind prog w K) (d a:Ad)
theorem ZO (ns:(d == Cr)=Aq) (u:Ah) :
 MeetsIn prog w (CZ.«dict.setdefault» ⟨[.ref d,.ref a,u],[]⟩) (fun A R s=>knd.room A.in1/\∃k xs,knd.is s.heap k a/\s.heap.DictOfH knd d xs/\xs.length<=AB /\
  (∀p,atKey xs k=Aa p->R (.ok (.ret p.2)) { s with toks:=s.toks+knd.draws k }) /\
  (atKey xs k=Ai->∀h',h'.DictOfH knd d (storedH xs k a u)->Ey d s.heap h'->R (.ok (.ret u)) { s with heap:=h',toks:=s.toks+knd.draws k })) :=
 .of_wp fun A R s ⟨room,k,xs,key,m,z,there,new⟩=>by
  unfold CZ.«dict.setdefault» V7;refine An (An (Ks m.typeIs ?_));show Au _ _ (pure (d,AO a,Aa u)) _ _ s;refine Ay ?_;show Au _ _ (if (d == Cr)=Af then _ else (dictSetDefault d (.ref a) u >>= _)) _ _ s;rw [ns,Ao Bl];exact An (Adu room key m z (fun p e=>Ay ⟨_,rfl,there p e⟩) fun e h' m' sb=>Ay ⟨_,rfl,new e h' m' sb⟩)
theorem ZN :
 MeetsIn prog w (CZ.«dict.pop» ⟨[.ref d,.ref a],[]⟩) (fun A R s=>knd.room A.in1/\∃k xs j p,knd.is s.heap k a/\s.heap.DictOfH knd d xs/\xs.length<=AB/\xs[j]?=Aa (k,p) /\
  ∀h',h'.DictOfH knd d (xs.eraseIdx j)->Ey d s.heap h'->R (.ok (.ret p.2)) { s with heap:=h',toks:=s.toks+knd.draws k }) :=
 .of_wp fun A R s ⟨room,k,xs,j,p,key,m,z,hp,h⟩=>by
  obtain ⟨ob,ents,epo,e1,e2,e3,e4,e5,e6⟩:=id m;unfold CZ.«dict.pop» V7;refine An (An (Ks m.typeIs ?_));show Au _ _ (pure (d,AO a,Ai)) _ _ s;refine Ay ?_
  have ne:ents.isEmpty=Aq:=by
   have sz:=ME e4;have:=(List.getElem?_eq_some_iff.mp hp).1;rw [Array.isEmpty_eq_false_iff];intro z;rw [z] at sz;simp at sz;omega
  simp only [show (keyPart (AO a)).isSome=Aq from rfl,CY,C6];refine An (Gn e1 e3 (An (Ay ?_)));rw [ne];simp only [CY,C6];refine An (Adv room key m z hp fun h' e ev m' sb=>?_);simp only [Option.isNone_some,CY,C6];refine An (IX (Ay ⟨_,rfl,?_⟩));rw [ev];exact h h' m' sb
end
section
variable {X:Cx} {pins:Ac (Ad × A2)} {σ:St} {H:Hp} {s:Aj} {a b:Ad} {kvs:Ac (Ac Key × V)} {k:Ac Key} {A:AR} {E:Ah->Aj->Prop}
theorem Y2 {z:V} {u:Ah} {Q:Ah->Aj->Prop} (hu:A.units+1 < cLine) (I:Inv X pins σ H s) (e:H a=Aa (.dT kvs)) (eb:H b=Aa (.tup (k.map kV))) (rz:AQ z u) (lt:kvs.length < AB)
 (there:∀v w' s',A' kvs k=Aa v->Inv X pins σ H s'->AQ v w'->Q w' s') (new:∀s',A' kvs k=Ai->Inv X pins σ (upd H a (.dT (B6 kvs k z))) s'->Q u s') :
 Au (A6 X.prog X.w) A (call (.builtin "dict.setdefault") [.ref a,.ref b,u]) Q E s:=by
 obtain ⟨sz,ns,xs,rel,dd⟩:=Ng I.hok e
 refine M6 WP dd.typeIs PySem.F.entry_dict_setdefault (PySem.F.args_dict_setdefault_3 _ _ _) (ZO (tupleKind (BO X.prog X.w)) a b ns u)
  ⟨Ko hu,k,xs,Hc I.hok eb,dd,by rw [<- GL rel];exact sz,fun p ep=>?_,fun en h' dd' hs=>?_⟩
 ·obtain ⟨v,ev,rv⟩:∃v,A' kvs k=Aa v/\AQ v p.2:=by
   have:=rel.val k;rw [ep] at this
   cases hv:A' kvs k with
   | none=>rw [hv] at this;exact this.elim
   | some v=>rw [hv] at this;exact ⟨v,rfl,this⟩
  exact there v p.2 _ ev (I.tok _) rv
 ·have hv:A' kvs k=Ai:=by
   have:=rel.val k;rw [en] at this
   cases hv:A' kvs k with
   | none=>rfl
   | some v=>rw [hv] at this;exact this.elim
  have hl:(B6 kvs k z).length<=AB:=by have:=Jk kvs k z;omega
  obtain ⟨q,es,ep,hq,h2,h3,h4,_,h5⟩:=dd';refine new _ hv (FM I (by rw [e];exact Da) hs ⟨q,hq⟩ ⟨hl,ns,_,(rel.put k eb rz).keeps fun c ys ec=>?_,q,es,ep,hq,h2,h3,h4,h5⟩);rw [AF (Ce ec e (fun z=>by cases z))];exact ec
theorem Y0 {v:V} {j:Ae} {Q:Ah->Aj->Prop} (hu:A.units+1 < cLine) (I:Inv X pins σ H s) (e:H a=Aa (.dT kvs)) (eb:H b=Aa (.tup (k.map kV))) (hj:kvs[j]?=Aa (k,v))
 (h:∀w' s',Inv X pins σ (upd H a (.dT (kvs.eraseIdx j))) s'->AQ v w'->Q w' s'):Au (A6 X.prog X.w) A (call (.builtin "dict.pop") [.ref a,.ref b]) Q E s:=by
 obtain ⟨sz,ns,xs,rel,dd⟩:=Ng I.hok e;obtain ⟨⟨k',p⟩,hp,ek,_,rv⟩:=Lc rel hj;obtain rfl:k=k':=ek
 refine M6 WO dd.typeIs PySem.F.entry_dict_pop (PySem.F.args_dict_pop_2 _ _) (ZN (tupleKind (BO X.prog X.w)) a b)
  ⟨Ko hu,k,xs,j,p,Hc I.hok eb,dd,by rw [<- GL rel];exact sz,hp,fun h' dd' hs=>h _ _ ?_ rv⟩
 obtain ⟨q,es,ep,hq,h2,h3,h4,_,h5⟩:=dd';refine FM I (by rw [e];exact Da) hs ⟨q,hq⟩ ⟨BE (length_eraseIdx_le ..) sz,ns,_,KT.keeps (R9 j rel) fun c ys ec=>?_,q,es,ep,hq,h2,h3,h4,h5⟩;rw [AF (Ce ec e (fun z=>by cases z))];exact ec
end
noncomputable def Ac0 (td ty tx:TE):TE:=fun σ H Q=>td σ H fun x H1=>∃a,x=.ref a/\IsD H1 a/\ty σ H1 fun y H2=>tx σ H2 fun z H3=>∃kvs k b,H3 a=Aa (.dT kvs)/\y=.ref b/\H3 b=Aa (.tup (FF kV k))/\kvs.length < AB /\
 (∀v,A' kvs k=Aa v->Q v H3)/\(A' kvs k=Ai->Q z (upd H3 a (.dT (B6 kvs k z))))
noncomputable def Acz (td ty:TE):TE:=fun σ H Q=>td σ H fun x H1=>∃a,x=.ref a/\IsD H1 a/\ty σ H1 fun y H2=>∃kvs k b j v,H2 a=Aa (.dT kvs)/\y=.ref b/\H2 b=Aa (.tup (FF kV k))/\kvs[j]?=Aa (k,v)/\Q v (upd H2 a (.dT (kvs.eraseIdx j)))
section
variable {X:Cx} {o e f:A4} {apos cpos:Pos} {td ty tx:TE}
theorem AaK (hu:X.A.units+1 < cLine) (ho:PE X o td) (he:PE X e ty) (hf:PE X f tx) (m:M2 X o "setdefault" apos e f cpos):PE X (.Call (.Attribute o "setdefault" apos) [e,f] [] cpos) (Ac0 td ty tx):=by
 intro pins s σ H Q I h;refine Py m.base m.few m.line Ke WP PySem.F.type_dict_setdefault (thn (ho pins s σ H _ I h) fun u s1 hq_=>?_);obtain ⟨x,H1,I1,rx,a,ex,d,q1⟩:=hq_;subst ex;obtain rfl:u=AO a:=rx;obtain ⟨t1,t2,_⟩:=No I1 d;refine ⟨t1,t2,?_⟩;rw [m.trees]
 refine JO rfl (L5 (F5 (thn (he pins s1 σ H1 _ I1 q1) fun iv s2 ⟨y,H2,I2,ry,q2⟩ =>
  F5 (thn (hf pins s2 σ H2 _ I2 q2) fun fv s3 ⟨z,H3,I3,rz,kvs,k,b,e1,ey,e2,lt,q3,q4⟩=>GC ?_))))
 subst ey;obtain rfl:iv=AO b:=ry;exact Y2 hu I3 e1 e2 rz lt (fun v w' s4 l I4 rw'=>⟨v,_,I4,rw',q3 v l⟩) fun s4 l I4=>⟨z,_,I4,rz,q4 l⟩
theorem AaJ (hu:X.A.units+1 < cLine) (ho:PE X o td) (he:PE X e ty) (m:M1 X o "pop" apos e cpos):PE X (.Call (.Attribute o "pop" apos) [e] [] cpos) (Acz td ty):=by
 intro pins s σ H Q I h;refine Py m.base m.few m.line Ke WO PySem.F.type_dict_pop (thn (ho pins s σ H _ I h) fun u s1 hq_=>?_);obtain ⟨x,H1,I1,rx,a,ex,d,q1⟩:=hq_;subst ex;obtain rfl:u=AO a:=rx;obtain ⟨t1,t2,_⟩:=No I1 d;refine ⟨t1,t2,?_⟩;rw [m.trees];refine JO rfl (L5 (F5 (thn (he pins s1 σ H1 _ I1 q1) fun iv s2 hq_=>?_)));obtain ⟨y,H2,I2,ry,kvs,k,b,j,v,e1,ey,e2,hj,q2⟩:=hq_;refine GC ?_;subst ey;obtain rfl:iv=AO b:=ry;exact Y0 hu I2 e1 e2 hj fun w' s3 I3 rw'=>⟨v,_,I3,rw',q2⟩
end
noncomputable def Aby (K:A8):R2:=fun x y H Q=>∃(a b:Ad) (xs:Ac V),x=.ref a/\y=.ref b/\SqL K H a xs/\SqL K H b []/\Q (.bl (decide (xs=[]))) H
theorem Aav {X:Cx} (hu:X.A.units+64 < cLine):OpR X (Cj .Eq) (Aby X.K):=by
 intro pins s σ H x y v u Q I rx ry h;obtain ⟨a,b,xs,rfl,rfl,ha,hb,q⟩:=h
 cases (show v=AO a from rx)
 cases (show u=AO b from ry)
 obtain ⟨its,rv,p,_⟩:=I.list ha;obtain ⟨jts,rw',p',_⟩:=I.list hb;have l1:=rv.length;have l2:0=jts.length:=rw'.length;by_cases c:xs=[]
 ·rw [AT c] at q;have z:its.length=0:=by rw [<- l1,c];rfl
  have key:=SeqAt.RcAt.lists (A:=X.A) (e:=fun _=>Af) p.isList p'.isList (by simp;omega) (by omega) fun j h1 h2=>Aw h1 (by simp;omega);rw [show ((Bo its.toArray.size).all fun _=>Af)=Af from all_eq_true.mpr fun _ _=>rfl] at key;exact key _ _ _ _ ⟨.bl Af,H,I,rfl,q⟩
 ·rw [AS c] at q;have z:its.length≠0:=by rw [<- l1];exact fun z=>c (length_eq_zero_iff.mp z)
  exact SeqAt.RcAt.lists_lengths (A:=X.A) p.isList p'.isList (by simp;omega) (by omega) _ _ _ _ ⟨.bl Aq,H,I,rfl,q⟩
section
variable {prog:A9} {w:A3} {A:AR} {R:IQ->Aj->Prop} {it:Ad} {fp wr:Ac Ad} {n:Ae} {P:Ae->Ah->Prop} {St:Ae->AD->Prop} {bt:Ae->Ae->AI} {Fa:AD->Prop} {S:Ad}
noncomputable def P5 (prog:A9) (w:A3) (A:AR) (P:Ae->Ah->Prop) (bt:Ae->Ae->AI) (Fa:AD->Prop):Prop:=∀i j x y (s:Aj) (Q E:Ah->Aj->Prop),Fa s.heap->P i x->P j y->Q (.bool (bt i j)) s->Au (A6 prog w) A (richCompare .Lt x y) Q E s
noncomputable def P8 (wr:Ac Ad) (S:Ad) (Fa:AD->Prop):Prop:=∀h h':AD,Fa h->(∀b o,b ∉ wr->b≠S->h.get? b=Aa o->h'.get? b=Aa o)->Fa h'
theorem Nx (W:Walks prog w A.in1 it fp wr n P St) (cmp:P5 prog w A.in1 P bt Fa) (la:P8 wr S Fa) (far:S ∉ fp) :
 ∀(g j:Ae) (s:Aj) (best:Ah) (c:Ae),j+1+g=n->St (j+1) s.heap->Fa s.heap->P (argBest bt j) best ->
 s.heap.get? S=Aa { cls:=.type "list",dict:=Ai,data:=.seq #[best,best] c,slots:=#[] } ->
 (∀v h' tk,P (argBest bt (n - 1)) v->(∀b o,b ∉ wr->b≠S->s.heap.get? b=Aa o->h'.get? b=Aa o)->R (.ok (.ret v)) { s with heap:=h',toks:=tk }) ->
 codeAny (A6 prog w) A (.builtin "min.loop" ⟨[.ref it,.none,.ref S],[]⟩) R s
 | 0,j,s,best,c,hj,st,f,pb,hS,fin=>by
   have sw:S ∉ wr:=fun m=>far (W.sub _ m);obtain rfl:n=j+1:=by omega
   refine Kj O0 ?_;rw [JL Hq];refine An (show Au _ A.in1 (seqItems? (.ref S)) _ _ s from Kt hS rfl ?_);refine An (show Au _ A.in1 (tryCatch (pyNext (.ref it)) _) _ _ s from MN (W.done s _ _ st fun h1 tk k1=>?_));refine An (show Au _ A.in1 (updateSeq S fun _=>#[]) _ _ _ from P4 (k1 S _ sw hS) rfl (An (IX (Ay ?_))));exact fin best _ tk pb fun b o m ne e=>(Gc _ _ ne.symm).trans (k1 b o m e)
 | g+1,j,s,best,c,hj,st,f,pb,hS,fin=>by
   have sw:S ∉ wr:=fun m=>far (W.sub _ m);refine Kj O0 ?_;rw [JL Hq];refine An (show Au _ A.in1 (seqItems? (.ref S)) _ _ s from Kt hS rfl ?_);refine An (show Au _ A.in1 (tryCatch (pyNext (.ref it)) _) _ _ s from MN (W.item (j+1) s _ _ (by omega) st fun v h1 tk pv st1 k1=>?_));have hS1:=k1 S _ sw hS;have f1:Fa h1:=la _ _ f fun b o m _ e=>k1 b o m e;refine An (Ay ?_);refine An (show Au _ A.in1 (tryCatch (holding [v,v] (richCompare .Lt v best >>= _)) _) _ _ _ from MN (Dq (An (cmp (j+1) (argBest bt j) v best _ _ _ f1 pv pb ?_))));refine An (Dq (FI (An (IX (Ay ?_)))))
   cases hb:bt (j+1) (argBest bt j) with
   | true =>
     rw [Ar rfl];refine An (P4 hS1 rfl (An (IX (Ay ⟨Km Hq _,?_⟩))));have far1:∀b o,b≠S->h1.get? b=Aa o->(h1.update S (Co fun _=>#[v,v])).get? b=Aa o:=fun b o ne e=>(Gc _ _ ne.symm).trans e
     exact Nx W cmp la far g (j+1) _ v _ (by omega) (W.frame _ _ _ st1 fun b m o e=>far1 b o (fun z=>far (by rw [<- z];exact m)) e) (la _ _ f1 fun b o _ ne e=>far1 b o ne e) (by unfold argBest;rw [hb,Ar rfl];exact pv) (Hr _ hS1 rfl)
      fun x h2 tk2 px k2=>fin x h2 tk2 px fun b o m ne e=>k2 b o m ne (far1 b o ne (k1 b o m e))
   | false =>
     rw [Ao Bl];refine An (IX (Ay ⟨Km Hq _,?_⟩));exact Nx W cmp la far g (j+1) _ best c (by omega) st1 f1 (by unfold argBest;rw [hb,Ao Bl];exact pb) hS1 fun x h2 tk2 px k2=>fin x h2 tk2 px fun b o m ne e=>k2 b o m ne (k1 b o m e)
theorem ZU (W:Walks prog w A.in1 it fp wr n P St) (cmp:P5 prog w A.in1 P bt Fa) (la:P8 wr S Fa) (far:S ∉ fp) (n1:0 < n) {s:Aj} {c:Ae} (st:St 0 s.heap) (f:Fa s.heap)
 (hS:s.heap.get? S=Aa { cls:=.type "list",dict:=Ai,data:=.seq #[] c,slots:=#[] })
 (fin:∀v h' tk,P (argBest bt (n - 1)) v->(∀b o,b ∉ wr->b≠S->s.heap.get? b=Aa o->h'.get? b=Aa o)->R (.ok (.ret v)) { s with heap:=h',toks:=tk }) :
 codeAny (A6 prog w) A (.builtin "min.loop" ⟨[.ref it,.none,.ref S],[]⟩) R s:=by
 have sw:S ∉ wr:=fun m=>far (W.sub _ m);refine Kj O0 ?_;rw [JL Hq];refine An (show Au _ A.in1 (seqItems? (.ref S)) _ _ s from Kt hS rfl ?_);refine An (show Au _ A.in1 (tryCatch (pyNext (.ref it)) _) _ _ s from MN (W.item 0 s _ _ n1 st fun v h1 tk pv st1 k1=>?_));have hS1:=k1 S _ sw hS;have far1:∀b o,b≠S->h1.get? b=Aa o->(h1.update S (Co fun _=>#[v,v])).get? b=Aa o:=fun b o ne e=>(Gc _ _ ne.symm).trans e;refine An (Ay ?_);refine An (show Au _ A.in1 (updateSeq S fun _=>#[v,v]) _ _ _ from P4 hS1 rfl (Ay ⟨Km Hq _,?_⟩))
 exact Nx W cmp la far (n - 1) 0 _ v _ (by omega) (W.frame _ _ _ st1 fun b m o e=>far1 b o (fun z=>far (by rw [<- z];exact m)) e) (la _ _ f fun b o m ne e=>far1 b o ne (k1 b o m e)) pv (Hr _ hS1 rfl)
  fun x h2 tk2 px k2=>fin x h2 tk2 px fun b o m ne e=>k2 b o m ne (far1 b o ne (k1 b o m e))
end
theorem PJ (rows:Ae->Ac Ab):∀k:Ae,argBest (fun i j=>HT.lexLt (rows i) (rows j)) k<=k/\∀j,j<=k->HT.lexLt (rows j) (rows (argBest (fun i j=>HT.lexLt (rows i) (rows j)) k))=Aq
 | 0=>⟨A1 _,fun j hj=>by
   obtain rfl:j=0:=by omega
   rw [EA,Kk];exact OE _⟩
 | k+1=>by
   obtain ⟨h1,h2⟩:=PJ rows k;unfold argBest;by_cases c:HT.lexLt (rows (k+1)) (rows (argBest (fun i j=>HT.lexLt (rows i) (rows j)) k))=Af
   ·rw [Ar c];refine ⟨A1 _,fun j hj=>?_⟩;rcases (by omega:j=k+1\/j<=k) with rfl | e
    ·rw [EA,Kk];exact OE _
    ·have a:=h2 j e;rw [EA,Kk] at a ⊢;rw [EA,Gk] at c;exact fun z=>a (Wj z c)
   ·rw [Ao c];refine ⟨by omega,fun j hj=>?_⟩;rcases (by omega:j=k+1\/j<=k) with rfl | e
    ·exact Bool.eq_false_iff.mpr c
    ·exact h2 j e
section
variable {X:Cx}
theorem Ym (hc:X.calm=Af) (hu:X.A.units+64 < cLine):De X (.builtin "min") (fun xs H Q=>∃(a:Ad) (qs:Ac (Ad × Ac Ab)),xs=[.ref a]/\SqL X.K H a (qs.map fun q=>V.ref q.1)/\(∀q∈qs,H q.1=Aa (.tup (q.2.map V.int)))/\qs≠[] /\
 ∀q∈qs,(∀r∈qs,HT.lexLt r.2 q.2=Aq)->Q (.ref q.1) H):=by
 intro pins s σ H xs us Q I r h;obtain ⟨a,qs,rfl,hq,rows,ne,q⟩:=h;obtain ⟨u,rfl,rx⟩:=Ew r
 cases (show u=AO a from rx)
 obtain ⟨its,rv,pl,hz⟩:=I.list hq;have hl:=pl.isList;have len:its.length=qs.length:=by rw [<- rv.length,At]
 have ql:0 < qs.length:=length_pos_iff.mpr ne
 have row:∀(h:AD),(∀b o,s.heap.get? b=Aa o->h.get? b=Aa o)->∀i x,its.toArray[i]?=Aa x->Dr h x ((qs.map (·.2)).getD i [])/\∃q∈qs,qs[i]?=Aa q/\x=.ref q.1:=fun h kp i x hx=>by
  have hi:i < its.length:=by
   have:=(Array.getElem?_eq_some_iff.mp hx).1;simpa using this
  obtain ⟨q0,hq0⟩:∃q0,qs[i]?=Aa q0:=⟨_,Cm (by omega)⟩;obtain ⟨x',hx',rx'⟩:=rv.get (i:=i) (x:=V.ref q0.1) (by rw [Ba,hq0];rfl)
  obtain rfl:x=x':=by
   have:its[i]?=Aa x:=by rw [<- hx];simp
   exact Bn (this.symm.trans hx')
  cases (show x=AO q0.1 from rx')
  have m0:=Bt hq0;obtain ⟨jts,rj,tj,_⟩:=I.tuple (SqT.of (rows q0 m0));refine ⟨?_,q0,m0,hq0,rfl⟩;have:(qs.map (·.2)).getD i []=q0.2:=by rw [BI,Ba,hq0];rfl
  rw [this];exact Dr.keep (h:=s.heap) ⟨q0.1,jts.toArray,rfl,tj,by simpa using E9 rj⟩ fun b o _ e=>kp b o e
 refine call_function_tree F.kind_min F.plain_min F.entry_min (F.args_min1 _) ?_;have bp:V6 "min" ["key","default"] 0 ⟨[],[]⟩=pure [Ai,Ai]:=rfl;refine An (show Au _ X.A.in1 (V6 "min" ["key","default"] 0 ⟨[],[]⟩) _ _ s from MJ bp ?_);refine An (Ay (An (MK hl ?_)));have lt:a < s.heap.objs.size:=by obtain ⟨_,e,_⟩:=hl;exact A_ e
 generalize hg:s.heap.push { cls:=.type "list_iterator",data:=.fields #[AO a,.int 0 0] }=g1;have sz:g1.objs.size=s.heap.objs.size+1:=by rw [<- hg];exact IB ..
 have old:∀b o,s.heap.get? b=Aa o->g1.get? b=Aa o:=fun b o e=>by rw [<- hg];exact Bv _ e
 have hI:g1.IsListIter s.heap.objs.size a 0:=by rw [<- hg];exact ⟨_,BD _ rfl,rfl,rfl⟩
 have hL:g1.IsList a its.toArray:=by rw [<- hg];exact hl.push _
 refine An (Fi (Ay ⟨Km Hq _,?_⟩));have W:=Pn (prog:=X.prog) (w:=X.w) (A:=X.A.in1) (I.ok.hd hc) s.heap.objs.size a (B1 lt) its.toArray
 have ft:∀b∈[s.heap.objs.size,a],b < g1.objs.size:=fun b m=>by
  rcases mem_cons.mp m with rfl | m
  ·omega
  ·rw [mem_singleton.mp m,sz];exact ON lt
 have far:g1.objs.size ∉ [s.heap.objs.size,a]:=fun m=>C' _ (ft _ m);have new:∀b o,g1.get? b=Aa o->(g1.push (seqObj "list" #[] 0)).get? b=Aa o:=fun b o e=>Bv _ e
 refine ZU (s:={ s with heap:=g1.push (seqObj "list" #[] 0) }) W (bt:=fun i j=>HT.lexLt ((qs.map (·.2)).getD i []) ((qs.map (·.2)).getD j [])) (Fa:=fun h=>∀b o,s.heap.get? b=Aa o->h.get? b=Aa o) (S:=g1.objs.size)
  (fun i j x y s' Q' E' f px py hQ=>?_) (fun h h' f k b o e=>k b o (fun m=>?_) (fun m=>?_) (f b o e)) far (by simpa [len] using ql) (W.frame _ _ _ ⟨hI,hL⟩ fun b _ o e=>new b o e) (fun b o e=>new b o (old b o e)) (BD _ rfl) fun v h' tk pv k=>?_
 ·obtain ⟨⟨a1,i1,rfl,t1,n1⟩,_⟩:=row s'.heap f i x px;obtain ⟨⟨a2,i2,rfl,t2,n2⟩,_⟩:=row s'.heap f j y py;exact HT.lt_tupInts t1 t2 n1 n2 (by show X.A.units+1 < cLine;omega) hQ
 ·rw [mem_singleton.mp m] at e;exact C' _ (A_ e)
 ·rw [m] at e;exact Aw (A_ e) (by rw [sz];exact Nat.not_lt.mpr (Dl _))
 ·have kp:∀b o,s.heap.get? b=Aa o->h'.get? b=Aa o:=fun b o e =>
   k b o (fun m=>B1 (A_ e) (mem_singleton.mp m)) (fun m=>B1 (B' (A_ e) (by rw [sz];exact Dl _)) m) (new b o (old b o e))
  obtain ⟨b1,b2⟩:=PJ (fun i=>(qs.map (·.2)).getD i []) (its.toArray.size - 1);have isz:its.toArray.size=qs.length:=by simpa using len
  obtain ⟨_,q0,m0,g0,rfl⟩:=row h' kp _ v pv;refine ⟨.ref q0.1,H,I.kept kp,rfl,q q0 m0 fun r mr=>?_⟩;obtain ⟨j,hj⟩:=List.getElem?_of_mem mr;have lj:=(List.getElem?_eq_some_iff.mp hj).1;have e:=b2 j (by omega);have e1:(qs.map (·.2)).getD j []=r.2:=by rw [BI,Ba,hj];rfl
  have e2:∀{z:Ae},qs[z]?=Aa q0->(qs.map (·.2)).getD z []=q0.2:=fun {z} h=>by rw [BI,Ba,h];rfl
  rw [e1,e2 g0] at e;exact e
end
section
variable {prog:A9} {w:A3} {A:AR} {E:Ah->Aj->Prop} {s:Aj} {d:Ad} {es:AL DG} {ep:Ae}
theorem ZF {Q:Ah->Aj->Prop} (lo:(d == Cr)=Aq) (m:D9 s.heap d es ep) (hh:A.handled=Ai) (z:es.size<=AB)
 (h:∀h' tk c',(∀b o,s.heap.get? b=Aa o->h'.get? b=Aa o)->h'.get? s.heap.objs.size=Aa { cls:=.type "list",dict:=Ai,data:=.seq (es.map (·.key)) c',slots:=#[] }->Q (.ref s.heap.objs.size) { s with heap:=h',toks:=tk }) :
 Au (A6 prog w) A (call (.type "list") [.ref d]) Q E s:=by
 refine kdl_call (Sl (es:=es) (ep:=ep) lo) hh m z fun h' tk acc c' kp ho hacc=>?_;rw [Sk hacc] at ho;exact h h' tk c' kp ho
end
section
variable {X:Cx}
theorem Yl (hc:X.calm=Af):De X (.type "list") (fun xs H Q=>∃(d:Ad) (kvs:Ac (Ac Key × V)) (ks:Ac (Ac Ab)),xs=[.ref d]/\Rd H d (.dT kvs)/\kvs.map (·.1)=ks.map (FF AH) /\
 ∀(l:Ad) (rs:Ac (Ad × Ac Ab)),(∀q∈rs,H q.1=Aa (.tup (q.2.map V.int)))->rs.map (·.2)=ks->H l=Ai->Q (.ref l) (upd H l (.lst (rs.map fun q=>V.ref q.1)))):=by
 intro pins s σ H xs us Q I r h;obtain ⟨d,kvs,ks,rfl,hd,hks,q⟩:=h;obtain ⟨u,rfl,rx⟩:=Ew r
 cases rx
 obtain ⟨z,lo,xs,kt,o,es,ep,h1,h2,h3,h4,_,_⟩:=G_ I.hok hd;obtain ⟨qs,b1,b2,b3⟩:=QN kt hks
 have hv:es.toList.map (·.key)=(qs.map (·.1)).map AO:=by
  rw [h4,Bf,<- b1];rfl
 have ee:es.map (·.key)=((qs.map (·.1)).map AO).toArray:=by
  apply Array.toList_inj.mp;rw [Os,hv]
 have hes:es.size<=AB:=by
  rw [ME h4,<- GL kt];exact z
 have ql:qs.length<=AB:=by
  have:=Bx BM hv;simp at this;omega
 refine ZF lo ⟨o,h1,h2,h3⟩ (I.ok.hd hc) hes fun h' tk c' kp ho=>?_;rw [ee] at ho;refine ⟨.ref _,_,I.laid (t':=tk) kp (A1 _) (show Bi X.prog X.w _ h' _ (.lst (qs.map fun q=>V.ref q.1)) from ⟨by rw [At];exact ql,_,c',?_,ho⟩),rfl,q _ qs b3 b2 (I.hok.fresh (A1 _))⟩;have:=Lx (qs.map (·.1));rw [Bf] at this;exact this
end
theorem AcN (l b:Ad) (items items2:AL Ah) (n n2:Ae) (dd dd2:A5 Ad) (sl sl2:AL (A5 Ah)) (he:items.isEmpty=Af) :
 Meets (CZ.«tuple.__add__» ⟨[.ref l,.ref b],[]⟩) (fun _ R s=>s.heap.get? l=Aa { cls:=.type "tuple",dict:=dd,data:=.seq items n,slots:=sl }/\s.heap.get? b=Aa { cls:=.type "tuple",dict:=dd2,data:=.seq items2 n2,slots:=sl2 }/\R (.ok (.ret (AO b))) s) :=
 .of_wp fun prog w A R s h=>by
  obtain ⟨hp,g,d,tk,os⟩:=s;obtain ⟨hl,hb,h⟩:=h;have f2:=V5
  wp_walk using L4 hl,L4 hb
  exact ⟨_,rfl,h⟩
noncomputable def Abw (K:A8):R2:=fun x y H Q=>∃a b ys,x=.ref a/\y=.ref b/\SqT K H a []/\SqT K H b ys/\Q (.ref b) H
theorem Aau {X:Cx}:OpR X (E3 .Add) (Abw X.K):=by
 intro pins s σ H x y v u Q I rx ry h;obtain ⟨a,b,ys,rfl,rfl,ha,hb,q⟩:=h
 cases (show v=AO a from rx)
 cases (show u=AO b from ry)
 obtain ⟨its,r1,p1,_⟩:=I.tuple ha;obtain ⟨jts,r2,p2,_⟩:=I.tuple hb;obtain ⟨⟨c1,d1,o1,l1⟩,ho,hc,n,hd⟩:=id p1;obtain ⟨⟨c2,d2,o2,l2⟩,ho2,hc2,n2,hd2⟩:=id p2;simp only at hc hd hc2 hd2;subst hc hd hc2 hd2;have e:its=[]:=by cases r1;rfl
 exact concat_meets ⟨_,ho,rfl⟩ ⟨_,ho2,rfl⟩ noFill_tuple_add seq_tuple_add PySem.F.slot_tuple_add PySem.F.entry_tuple_add (PySem.F.args_tuple_add_2 _ _) (AcN a b its.toArray jts.toArray n n2 d1 d2 l1 l2 (by rw [e];rfl)) ⟨ho,ho2,.ref b,H,I,rfl,q⟩
end L2
namespace L2
open PySem PySem.W PySem.Spec PyProof.Rows
section
variable {X:Cx} {pins:Ac (Ad × A2)} {σ:St} {H:Hp} {xs:Ac V} {l f a kS:Ad} {E:Ah->Aj->Prop} {P:OW->Aj->Prop}
theorem AbU (kf:Ae->Ab) {s:Aj} {e1:Ae} {its kits:Ac Ah} (I:Inv X pins σ H s) (ha:H a=Aa (Gx a e1)) (hk:H kS=Aa (.lst (((Bo xs.length).map kf).map V.int))) (hka:kS≠a)
 (rv:AU xs its) (h64:xs.length < 64) (kv:C_ kits ((Bo xs.length).map kf))
 (h:∀(p:AL Ae) s',Prm xs.length p->Srt (O:=Gy) kf p xs.length->Inv X pins σ (upd (upd H kS (.lst [])) a (.lst (p.toList.map fun i=>xs.getD i .non))) s'->P (.done (.ret .none)) s') :
 Au (A6 X.prog X.w) X.A.in1.in1 (ksk_end a Aq its.toArray e1 (.ref kS) kits.toArray) P E s:=by
 have hlen:=rv.length
 have kl:kits.length=its.length:=by
  have:=kv.length;rw [At,D6] at this;omega
 unfold ksk_end
 try dsimp only
 rw [Ao Bl];by_cases h2:its.toArray.size < 2
 ·rw [Ar h2,Ar h2];refine An (Ay ?_);rw [Xi];refine An (Ay ?_)
  try dsimp only
  rw [BJ] at h2
  have e:(arrOf (SortSt.mk' general' (if Aq=Af then (kits.toArray.zip its.toArray).reverse else kits.toArray.zip its.toArray) #[] 7 Ai)).map (·.2)=Fe ((Fe (Bo xs.length)).toList.map fun i=>its.getD i BQ):=by
   have z:=kat_snds (ks:=kits) (vs:=its) kl (st:=SortSt.mk' general' (kits.toArray.zip its.toArray) #[] 7 Ai) (p:=Fe (Bo its.length)) (by
    have e:=kas_range (kits.toArray.zip its.toArray);rw [show (kits.toArray.zip its.toArray).size=its.length by simp [kl]] at e;exact e.symm)
   rw [<- hlen] at z;exact z
  refine T6 (p:=Fe (Bo xs.length)) I ha hk hka rv h64 e (Hs _) rfl fun s' I'=>h _ s' (Hs _) (fun i j hij hj=>by
   obtain rfl:i=j:=by omega
   exact Gy.irrefl _) I'
 ·rw [Ao h2,Ao h2];rw [BJ] at h2;have kv':C_ kits.toArray.toList ((Bo xs.length).map kf):=by simpa using kv
  rw [ksk_kind kv' (by rw [BJ];omega)];refine An (Ay ?_)
  have ac:Fj Gy kf its.length (kas_ask X.prog X.w X.A.in1.in1 oneType' kits) (fun s'=>s'=s):=by
   intro i j C s' hi hj e k;subst e
   have at':∀i,i < its.length->∃t,kits.getD i BQ=.int (kf i) t:=fun i hi=>by
    obtain ⟨t,ht⟩:=kv.get i (kf i) (by rw [Ba,LV (by omega)];rfl);exact ⟨t,by rw [BI,ht];rfl⟩
   obtain ⟨t1,e1⟩:=at' i hi;obtain ⟨t2,e2⟩:=at' j hj;unfold kas_ask;rw [e1,e2];exact kat_lt_int (k _ rfl)
  refine An (DM (kat_run (ks:=kits) (vs:=its) (κ:=oneType') (Q:=fun st' s'=>∃p:AL Ae,arrOf st'=p.map (kas_item (kits.toArray.zip its.toArray))/\failedOf st'=Ai/\s'=s/\Prm its.length p/\Srt (O:=Gy) kf p its.length)
   (G:=fun p s'=>s'=s/\Prm its.length p/\Srt (O:=Gy) kf p its.length)
   kl (by omega) (by omega) (fun p st' s' _ a2 a3 g=>⟨p,a2,a3,g⟩) (T7 ac (by omega) rfl fun p s' q1 q2 e=>⟨e,q1,q2⟩)) ?_ fun _ _ e=>e)
  rintro ⟨⟨⟩,st'⟩ s' ⟨p,har,hf,rfl,q1,q2⟩
  try dsimp only
  rw [<- hlen] at q1 q2;exact T6 I ha hk hka rv h64 (kat_snds kl har) q1 hf fun s' I'=>h p s' q1 q2 I'
theorem AbV (kf:Ae->Ab) {s:Aj} {e1:Ae} {its:Ac Ah} (I:Inv X pins σ (upd H kS (.lst [])) s) (ha:H a=Aa (Gx a e1)) (hk:H kS=Ai) (rv:AU xs its) (h64:xs.length < 64)
 (turn:∀(i:Ae) (x:V) (u:Ah) (G:Hp) (s:Aj),xs[i]?=Aa x->AQ x u->Ax H G->Inv X pins σ G s->Au (A6 X.prog X.w) X.A.in1.in1 (call (.ref f) [u]) (fun v s'=>∃G',Ax G G'/\Inv X pins σ G' s'/\∃t,v=.int (kf i) t) (fun _ _=>BA) s)
 (h:∀(p:AL Ae) (G:Hp) s',Prm xs.length p->Srt (O:=Gy) kf p xs.length->Ax H G->Inv X pins σ (upd G a (.lst (p.toList.map fun i=>xs.getD i .non))) s'->P (.done (.ret .none)) s') :
 Au (A6 X.prog X.w) X.A.in1.in1 (ksk_rest a (.ref f) Aq its.toArray e1 (.ref kS)) P E s:=by
 have hlen:=rv.length;have hka:kS≠a:=fun z=>by rw [z,ha] at hk;cases hk
 unfold ksk_rest;refine An (IZ ?_)
 first
  | rw [forIn_toArray]
  | (rw [<- JM];simp only [toList_toArray])
  | rw [<- JM]
 refine An (ksk_fold (fun i s'=>∃G,Inv X pins σ G s'/\Ax H G/\G kS=Aa (.lst (((Bo i).map kf).map V.int))) its 0 s ⟨_,I,JA (fun _ _ q=>q) hk,Az⟩ ?step ?done)
 case step =>
  rintro j x s' hx ⟨G,I',sG,gk⟩;simp only [OO] at gk ⊢;have hj:j < its.length:=(List.getElem?_eq_some_iff.mp hx).1;obtain ⟨z,hz⟩:∃z,xs[j]?=Aa z:=⟨_,Cm (by omega)⟩;obtain ⟨v2,hv2,rz⟩:=rv.get hz;rw [hx] at hv2
  cases hv2
  refine An (Kp (DM (turn j z x G s' hz rz sG I') (fun v s'' he=>?_) fun _ _ hF=>hF.elim));obtain ⟨G',sG',I2,t2,rfl⟩:=he
  try dsimp only
  have gk2:=sG' _ _ gk;obtain ⟨zk,kits,kn,kv,kl,ek⟩:=I2.lstM gk2;rw [At,At,D6] at kl
  have I3:=I2.lset (t':=s''.toks) (its':=kits++[.int (kf j) t2]) (f:=(·.push (.int (kf j) t2))) (ys:=((Bo (j+1)).map kf).map V.int) gk2 ek (by simp) (by
   rw [Hw,AK,AK];exact kv.append (.cons ⟨t2,rfl⟩ .nil)) (by rw [At,At,D6,CC];omega)
  refine An (HK ek rfl ?_ (by rw [BJ,<- kl,CC];omega) (BE (OM (Array.size_push ..)) (by rw [BJ,<- kl,CC];omega)));exact Ay ⟨rfl,_,I3,JA (sG.trans sG') hk,Az⟩
 case done =>
  rintro s' ⟨G,I',sG,gk⟩;rw [OO,<- hlen] at gk;obtain ⟨zk,kits,kn,kv,kl,ek⟩:=I'.lstM gk
  try dsimp only
  refine An (MB ek rfl ?_);refine AbU kf I' (sG _ _ ha) gk hka rv h64 (E9 kv) fun p s2 q1 q2 I2=>h p _ s2 q1 q2 (JA sG hk) I2
theorem AbX (kf:Ae->Ab) {s:Aj} {Q:Ah->Aj->Prop} (hq:SqL X.K H l xs) (h64:xs.length < 64) (I:Inv X pins σ H s)
 (turn:∀(i:Ae) (x:V) (u:Ah) (G:Hp) (s:Aj),xs[i]?=Aa x->AQ x u->Ax H G->Inv X pins σ G s->Au (A6 X.prog X.w) X.A.in1.in1 (call (.ref f) [u]) (fun v s'=>∃G',Ax G G'/\Inv X pins σ G' s'/\∃t,v=.int (kf i) t) (fun _ _=>BA) s)
 (h:∀(D:Ad) (p:AL Ae) (G:Hp) s',Prm xs.length p->Srt (O:=Gy) kf p xs.length->Ax H G->H D=Ai->Inv X pins σ (upd G D (.lst (p.toList.map fun i=>xs.getD i .non))) s'->Q (.ref D) s') :
 Au (A6 X.prog X.w) X.A (call (.builtin "sorted") [.ref l] [(A0 "key",.ref f)]) Q E s:=by
 obtain ⟨its,rv,pl,hz⟩:=I.list hq;have hlen:=rv.length;refine call_function_entry_kw M9 MC M8 (ksk_s1 _ _) ?_;unfold CZ.«sorted»;refine An (m:=checkCount "sorted" 1 1 _) (Ay ?_);refine An (collect_list pl.isList ?_ (by rw [CC];omega));refine An (IY ?_ (by rw [CC];omega))
 have hsz:((s.heap.push (seqObj "list" #[] 0)).update s.heap.objs.size (Co (·++its.toArray))).objs.size=s.heap.objs.size+1:=by
  rw [LD,size_push']
 have hoL:(((s.heap.push (seqObj "list" #[] 0)).update s.heap.objs.size (Co (·++its.toArray))).push (seqObj "list" its.toArray 0)).get? (s.heap.objs.size+1)=Aa (seqObj "list" its.toArray 0):=by
  rw [<- hsz];exact BD _ rfl
 have keep:∀b o,s.heap.get? b=Aa o->(((s.heap.push (seqObj "list" #[] 0)).update s.heap.objs.size (Co (·++its.toArray))).push (seqObj "list" its.toArray 0)).get? b=Aa o:=fun b o q=>by
  have hlt:b < s.heap.objs.size:=A_ q;rw [LC _ _ _ (by rw [hsz];exact B1 (ON hlt)),Heap.get?_update_ne _ _ _ _ (B1 hlt),LC _ _ _ (B1 hlt)];exact q
 show Au _ _ _ _ _ { s with heap:=((s.heap.push (seqObj "list" #[] 0)).update s.heap.objs.size (Co (·++its.toArray))).push (seqObj "list" its.toArray 0) };rw [hsz];refine An (Dq (wpAny_call_entry_kw MF ⟨_,hoL,rfl⟩ M7 ?body (ksk_l1 _ _)))
 case body =>
  have hD:H (s.heap.objs.size+1)=Ai:=I.hok.fresh (Dl _);have hDs:s.heap.objs.size<=s.heap.objs.size+1:=Dl _;generalize ((s.heap.push (seqObj "list" #[] 0)).update s.heap.objs.size (Co (·++its.toArray))).push (seqObj "list" its.toArray 0)=h1 at hoL keep ⊢;clear hsz;generalize s.heap.objs.size+1=D at hD hDs hoL ⊢;show Au (A6 X.prog X.w) X.A.in1.in1 (CZ.«list.sort» ⟨[.ref D],[(A0 "key",.ref f)]⟩) _ _ _;rw [ksk_t1];obtain ⟨e1,ho1⟩:∃e1,(h1.update D (Co fun _=>(#[]:AL Ah))).get? D=Aa (seqObj "list" #[] e1):=⟨_,get?_update_seq hoL fun _=>#[]⟩;unfold ksk_tree;refine An (MB hoL rfl ?_);refine An (HK hoL rfl ?_ (by rw [BJ,CC];omega) (Br _));refine An (Kn ho1 rfl ?_);refine An (wpAny_newTuple ?_ (by show its.length<=_;rw [CC];omega));refine An (IY ?_ (Br _));refine Dq ?_;have neD:∀{b:Ad} {o:A2},s.heap.get? b=Aa o->b≠D:=fun q z=>Aw (A_ q) (by rw [z];exact Nat.not_lt.mpr hDs)
  have I1:Inv X pins σ (upd H D (Gx D e1)) { s with heap:=h1.update D (Co fun _=>(#[]:AL Ah)) } :=
   I.laid (t':=s.toks) (fun b u q=>(Gc _ _ (BF (neD q))).trans (keep b u q)) hDs (YZ ho1)
  have I2:=I1.kept (t':=s.toks) (h':=(h1.update D (Co fun _=>(#[]:AL Ah))).push (seqObj "tuple" its.toArray 0)) fun b u e=>Bv _ e;have I3:=I2.lnew (t':=s.toks) (its:=[]) .nil (Br _);refine AbV (H:=upd H D (Gx D e1)) kf I3 Az I2.fresh rv h64 (fun i x u G s' hx rx sG I'=>turn i x u G s' hx rx (fun b o q=>sG b o (JA (fun _ _ q=>q) hD b o q)) I') fun p G s' q1 q2 sG I'=>⟨_,rfl,?_⟩;exact Ay ⟨_,rfl,h _ p G s' q1 q2 (fun b o q=>sG b o (JA (fun _ _ q=>q) hD b o q)) hD I'⟩
end
noncomputable def AcE (K:A8) (P:Ad) (lpos:Pos) (q:Ak) (tl tb:TE):TE:=fun σ H Q=>tl σ H fun x H1=>∃(a:Ad) (xs:Ac V) (kf:Ae->Ab),x=.ref a/\xs.length < 64/\Gq P lpos q H1 /\
 ∀H2,Gp P lpos q H2->SmL P H1 H2->(Gp P lpos q H1->H1=H2)->(∀b,H2 b=Ai->H1 b=Ai) ->
  SqL K H2 a xs/\(∀i x G,xs[i]?=Aa x->Ax H2 G->tb (σ++[Aa x]) G fun y G'=>y=.int (kf i)/\Ax G G') /\
  ∀(D:Ad) (p:AL Ae) (G:Hp),Prm xs.length p->Srt (O:=Gy) kf p xs.length->Ax H2 G->H2 D=Ai->Q (.ref D) (upd G D (.lst (p.toList.map fun i=>xs.getD i .non)))
section
variable {X:Cx} {c P:Ad} {e body:A4} {tl tb:TE} {sc fsc:Bu} {N Nc:Ac Ak} {x:Ak} {params:Hm} {lpos kp p pos:Pos}
theorem AaP (hc:X.calm=Af) (LB:EO X.base X.mg c P) (hcode:X.env.code=.ref c) (hr:BB 1 X.A) (hg:Gl X "sorted") (hm:X.mg "sorted"=Ai) (hE:X.env.scope=fsc) (hXN:X.N=N) (cn:E5 N Nc x sc fsc) (hco:sc.isCoroutine=Aq) (hgen:sc.isGenerator=Aq) (he:PE X e tl)
 (hb:∀cl f c' s H,PE (X.inLam X.A.in1.in1 Nc (X.env.qual++"<lambda>") sc cl f c' s H) body tb)
 (hbind:∀cl c' pm ctv u,bindArgs (kla_fn "<lambda>" (X.env.qual++"<lambda>") params body sc cl pm (.ref c') ctv) ⟨[u],[]⟩=pure [(x,u)]:=by intros;rfl) (hdef:defaultsOf params X.env=([],[]):=by rfl)
 (h1:backTo pos (Bh [e] X.env)=(Aq,eval e X.env) :: backTo pos (Bh [] X.env):=by rfl) (h2:(backTo pos (Bh [e] X.env)).any (·.1)=Aq:=by rfl)
 (h3:(backToKw pos (keywordEach [⟨Aa "key",.Lambda params body sc lpos,kp⟩] X.env)).all (·.1.isSome)=Af:=by rfl) (h4:(backToKw pos (keywordEach [⟨Aa "key",.Lambda params body sc lpos,kp⟩] X.env)).any (·.1.isNone)=Aq:=by rfl)
 (h5:(backToKw pos (keywordEach [⟨Aa "key",.Lambda params body sc lpos,kp⟩] X.env)).filterMap (·.1)=[("key":Ak)]:=by rfl) :
 PE X (.Call (.Name "sorted" p) [e] [⟨Aa "key",.Lambda params body sc lpos,kp⟩] pos) (AcE X.K P lpos (X.env.qual++"<lambda>") tl tb):=by
 intro pins s σ H Q I h;obtain ⟨cl,hcl,clS,clH⟩:=Nb (env:=X.env) (sc:=sc) (Yt I.ok.has hE cn);refine GU (Fo I hg hm boot_sorted ?_ (by decide) (by decide));refine Vt ?_ h1 h2 h3 h4;rw [h1];refine F5 (thn (he pins s σ H _ I h) fun u s1 hq_=>?_);obtain ⟨y,H1,I1,r1,a,xs,kf,hx,h64,lt,q⟩:=hq_;subst hx
 cases r1
 refine GC ?_;refine kws_cons (kla_eval hdef (Z2 LB hcode hcl I1 lt fun f c' pm ctv H2 s2 I2 hc2 cf l2 sm l12 fr=>kws_nil ?_));rw [h5];show Au (A6 X.prog X.w) X.A (call (.builtin "sorted") [.ref a] [(A0 "key",.ref f)]) _ _ s2;obtain ⟨hq,keys,fin⟩:=q H2 l2 sm l12 fr;refine AbX kf hq h64 I2 (fun i z u G s3 hz rz sG I3=>?_) fun D p G s3 q1 q2 sG hD I3=>?_
 ·refine thn (Z1 hE hXN cn hco hgen clS clH (A:=X.A.in1.in1) rfl hr.hd (by have:=hr.dp;show X.A.depth < _;omega) (fun s H=>hb cl f c' s H) (fun pm ctv u=>hbind cl c' pm ctv u) I3 (AV ..) (sG _ _ hc2) rz (keys i z G hz sG)) fun v s4 hq_=>?_;obtain ⟨y,H4,I4,r4,e1,e2⟩:=hq_;subst e1;exact ⟨H4,e2,I4,r4⟩
 ·exact ⟨.ref D,_,I3.sub fun p hp=>Bc _ hp,rfl,fin D p G q1 q2 sG hD⟩
end
end L2
set_option maxHeartbeats 4000000
namespace Law
open PySem L2
inductive JD (K:A8) (P:Ad) (vs:Ac V) (H:Hp) (Q:VK) (E:XK):Prop
 | mk (p:Ad) (ns:Ac Ab):vs=[.ref p]->SqL K H p (ns.map V.int)->ns.length<=63->H P=Aa (.tbl #[])->(∀H',Q (.bl Af) H')->JD K P vs H Q E
noncomputable def UG:Sp:=fun vs H Q _=>∃c:Ab,vs=[.int c]/\Q (.bl Af) H
theorem AN {H:Hp} {p:Ad} (h:H p=Ai) (o:HO):Ax H (upd H p o):=fun b u q=>by rw [AF (Em q h)];exact q
theorem Di (x:Ab) {y:Ab} (h:0 < y):0<=x.fmod y/\x.fmod y < y:=⟨Int.fmod_nonneg_of_pos x h,Int.fmod_lt_of_pos x h⟩
theorem Acn (x:Ab) {y:Ab} {n:Ae} (h:0 < y) (k:Sz n y):Sz n (x.fmod y):=by
 have e:=Di x h;unfold Sz at k ⊢;omega
noncomputable def AW (a b:Ab):Ab:=(Cw a b:Ae)
theorem K3 (a:Ab):(if a < 0 then -a else a)=(a.natAbs:Ab):=by
 by_cases h:a < 0
 ·rw [Ar h];omega
 ·rw [Ao h];omega
theorem YN (a b:Ab):Cw (if a < 0 then -a else a) (if b < 0 then -b else b)=Cw a b:=by
 rw [K3,K3];unfold Cw;rw [Ge,Ge]
theorem YQ {x y:Ab} (hx:0<=x) (hy:0 < y):Cw y (x.fmod y)=Cw x y:=by
 rw [VO x (BH hy)];obtain ⟨m,rfl⟩:=F8 hx;obtain ⟨n,rfl⟩:=F8 (BH hy);have e:((m:Ab) % (n:Ab))=((m % n:Ae):Ab):=(Int.natCast_emod m n).symm;rw [e];unfold Cw;rw [Ge,Ge,Ge];rw [Nat.gcd_comm m n,Nat.gcd_rec n m,Nat.gcd_comm]
theorem YO {x y:Ab} (hx:0<=x) (hy:0<=y) (h:¬ 0 < y):x=AW x y:=by
 have e:y=0:=by omega
 subst e;unfold AW;rw [Int.gcd_zero];omega
theorem YM (a b:Ab):0<=AW a b:=IC _
theorem Q1 {a b:Ab} (h:b≠0):AW a b≠0:=by
 intro e;have z:Cw a b=0:=by unfold AW at e;omega
 exact h (Int.gcd_eq_zero_iff.mp z).2
noncomputable def Dg (t b:Ab):Ab:=if b < 0 then -(AW t b) else AW t b
noncomputable def BN (t b:Ab):Ab:=t.fdiv (Dg t b)
noncomputable def BL (t b:Ab):Ab:=b.fdiv (Dg t b)
theorem PR {t b:Ab} (h:b≠0):Dg t b≠0:=by
 have e:=Q1 (a:=t) h;unfold Dg;by_cases c:b < 0
 ·rw [Ar c];omega
 ·rw [Ao c];exact e
theorem QY {t b:Ab} (h:b≠0):0 < BL t b:=by
 have g0:AW t b≠0:=Q1 h;have gn:=YM t b;have d:AW t b ∣ b:=LG ..;obtain ⟨k,hk⟩:=d;unfold BL Dg;by_cases c:b < 0
 ·rw [Ar c];have e:b=-(AW t b)*(-k):=by rw [Int.neg_mul_neg];exact hk
  have e2:b.fdiv (-(AW t b))=-k:=by
   conv=>lhs;arg 1;rw [e]
   exact LL (-k) (by omega)
  rw [e2];rcases (by omega:k < 0\/0<=k) with z | z
  ·omega
  ·have:=Gd gn z;omega
 ·rw [Ao c]
  have e2:b.fdiv (AW t b)=k:=by
   conv=>lhs;arg 1;rw [hk]
   exact LL k g0
  rw [e2];rcases (by omega:0 < k\/k<=0) with z | z
  ·exact z
  ·have:=VT gn z;omega
theorem Yh {x y:Ab}:Dg x y ∣ x:=by
 have d:AW x y ∣ x:=VP ..;unfold Dg;by_cases c:y < 0
 ·rw [Ar c];exact Int.neg_dvd.mpr d
 ·rw [Ao c];exact d
noncomputable def Aca:Sp:=fun vs H Q _=>∃a b:Ab,vs=[.int a,.int b]/\Q (.int (AW a b)) H
inductive Uh (vs:Ac V) (H:Hp) (Q:VK) (E:XK):Prop
 | mk (t b:Ab):vs=[.int t,.int b]->b≠0->Sz 13500 t->Sz 13500 b->(∀(p:Ad) (H':Hp),Ax H H'->H' p=Aa (.tup [.int (BN t b),.int (BL t b)])->Q (.ref p) H')->Uh vs H Q E
theorem Adl {i:Ae} {c:Ab} {g:Ab->Ab->V}:∀(σ:St) (H:Hp) (Q Q':AI->Hp->Prop),(∀b H1,Q b H1->Q' b H1)->Lp (tOp (rI0 g) (Im i) (tC (.int c))) σ H Q->Lp (tOp (rI0 g) (Im i) (tC (.int c))) σ H Q':=by
 rintro σ H Q Q' hq ⟨v,e,i,j,e1,e2,k,ek,h⟩;exact ⟨v,e,i,j,e1,e2,k,ek,hq _ _ h⟩
theorem QZ {t b:Ab} (h:0 < b):t.fdiv b*b<=t/\t < (t.fdiv b+1)*b:=by
 have e:=Int.fmod_def t b;have m:=Di t h;have d:(t.fdiv b+1)*b=b*t.fdiv b+b:=by rw [LF,LM,GE]
 have c:t.fdiv b*b=b*t.fdiv b:=GE _ _;rw [d,c];omega
theorem Za {t b:Ab} (h:0 < b):(-((-t).fdiv b) - 1)*b < t/\t<=-((-t).fdiv b)*b:=by
 have l:=QZ (t:=-t) h;have d:(-((-t).fdiv b) - 1)*b=-(((-t).fdiv b+1)*b):=by rw [<- Int.neg_mul];congr 1;omega
 have c:-((-t).fdiv b)*b=-((-t).fdiv b*b):=Int.neg_mul _ _;rw [d,c];omega
def Zz:Pos:=⟨93,38,93,73⟩
def Z0:Ak:=("shift":Ak)++".<locals>."++"<lambda>"
noncomputable def Hid (u v:TS):Prop:=u=v
theorem AbO {t u:TS} {D:D8} {σ:St} {H:Hp} (h:∀v,Hid v u->t { D with nx:=v D } σ H):UW t u D σ H:=h u rfl
theorem Vh {u v:TS} {D:D8} {σ:St} {H:Hp} (h:Hid u v) (g:v D σ H):u D σ H:=by rw [show u=v from h];exact g
theorem AcX {u v:TS} {D:D8} {r:VK} {b c:St->Hp->Prop} {σ:St} {H:Hp} (h:Hid u v) (g:v D σ H):(D8.mk (u D) r b c).nx σ H:=by show u D σ H;exact Vh h g
noncomputable def bit (m:Ab) (i:Ae):AI:=decide (m / 2 ^ i % 2=1)
noncomputable def Cu:Ae->(Ae->AI)->Ab
 | 0,_=>0
 | n+1,f=>(if f 0=Af then 1 else 0)+2*Cu n (fun i=>f (i+1))
theorem PP (s:Ab) (i:Ae):bit (s / 2) i=bit s (i+1):=by
 unfold bit;rw [Int.ediv_ediv_of_nonneg (by decide:(0:Ab)<=2)];have e:(2:Ab)*2 ^ i=2 ^ (i+1):=by rw [O8,GE]
 rw [e]
theorem PQ (s:Ab):bit s 0=decide (s % 2=1):=by
 unfold bit;rw [Int.pow_zero,Int.ediv_one]
theorem Rk:∀n f,0<=Cu n f
 | 0,_=>Dy _
 | n+1,f=>by
   have:=Rk n (fun i=>f (i+1));show 0<=(if f 0=Af then (1:Ab) else 0)+2*Cu n (fun i=>f (i+1))
   split <;> omega
theorem Rj:∀n f,Cu n f < 2 ^ n
 | 0,_=>by show (0:Ab) < 1;decide
 | n+1,f=>by
   have:=Rj n (fun i=>f (i+1));show (if f 0=Af then (1:Ab) else 0)+2*Cu n (fun i=>f (i+1)) < 2 ^ (n+1);rw [O8]
   split <;> omega
theorem Z' (n f):Cu (n+1) f / 2=Cu n (fun i=>f (i+1)):=by
 show ((if f 0=Af then (1:Ab) else 0)+2*Cu n (fun i=>f (i+1))) / 2=_
 split <;> omega
theorem Aaa (n f):(Cu (n+1) f % 2=1)↔f 0=Af:=by
 show (((if f 0=Af then (1:Ab) else 0)+2*Cu n (fun i=>f (i+1))) % 2=1)↔_
 split <;> rename_i h
 ·exact ⟨fun _=>h,fun _=>by omega⟩
 ·exact ⟨fun e=>by omega,fun e=>Aw e h⟩
theorem Nz:∀n {f g:Ae->AI},(∀i,i < n->f i=g i)->Cu n f=Cu n g
 | 0,_,_,_=>rfl
 | n+1,f,g,h=>by
   show (if f 0=Af then (1:Ab) else 0)+2*Cu n (fun i=>f (i+1))=(if g 0=Af then (1:Ab) else 0)+2*Cu n (fun i=>g (i+1));rw [h 0 (by omega),Nz n (f:=fun i=>f (i+1)) (g:=fun i=>g (i+1)) fun i hi=>h (i+1) (by omega)]
theorem PD:∀n f s,CJ (Cu n f) s=Cu n (fun i=>f i && bit s i)
 | 0,f,s=>by
   show CJ 0 s=0;rw [PyProof.Rows.bitAnd_comm,PyProof.Rows.bitAnd_zero]
 | n+1,f,s=>by
   rw [PySem.W.kbt_halves,Z',PD n];show _=(if (f 0 && bit s 0)=Af then (1:Ab) else 0)+2*Cu n (fun i=>f (i+1) && bit s (i+1));have e:Cu n (fun i=>f (i+1) && bit (s / 2) i)=Cu n (fun i=>f (i+1) && bit s (i+1)):=Nz n fun i _=>by rw [PP]
   rw [e]
   have c:(Cu (n+1) f % 2=1/\s % 2=1)↔(f 0 && bit s 0)=Af:=by
    rw [Gb,Aaa,PQ,Gk]
   by_cases h:(f 0 && bit s 0)=Af
   ·rw [Ar h,Ar (c.mpr h)];omega
   ·rw [Ao h,Ao (fun z=>h (c.mp z))];omega
noncomputable def hands (n:Ae) (f:Ae->AI):Ac Ab:=((Bo n).filter f).map fun i:Ae=>(i:Ab)
theorem KB (n:Ae) (f:Ae->AI):hands (n+1) f=if f n=Af then hands n f++[(n:Ab)] else hands n f:=by
 unfold hands;rw [Hw,EG,AK];by_cases h:f n=Af
 ·rw [Ar h];simp [h]
 ·rw [Ao h];have h':f n=Aq:=by simpa using h
  simp [h']
theorem FP (n:Ae) (f:Ae->AI):(hands n f).length<=n:=by
 unfold hands;rw [At];exact BE (EH _ _) (by simp)
theorem E7 {n:Ae} {f:Ae->AI} {z:Ab}:z∈hands n f↔∃i:Ae,i < n/\f i=Af/\z=(i:Ab):=by
 unfold hands;rw [mem_map]
 constructor
 ·rintro ⟨i,hi,rfl⟩;obtain ⟨h1,h2⟩:=mem_filter.mp hi;exact ⟨i,mem_range.mp h1,h2,rfl⟩
 ·rintro ⟨i,h1,h2,rfl⟩;exact ⟨i,mem_filter.mpr ⟨mem_range.mpr h1,h2⟩,rfl⟩
noncomputable def ins (x:Ab):Ac Ab->Ac Ab
 | []=>[x]
 | y :: r=>if x < y then x :: y :: r else if x=y then y :: r else y :: ins x r
inductive TF (K:A8) (vs:Ac V) (H:Hp) (Q:VK) (E:XK):Prop
 | mk (p:Ad) (ns:Ac Ab) (k:Ab):vs=[.ref p,.int k]->SqL K H p (ns.map V.int)->ns.length<=63->0<=k->k<=1000->(∀z:Ab,0<=z->z < 10 ^ 40->Q (.int z) H)->TF K vs H Q E
theorem Lo {c:Ab} (h0:0<=c) (h:c < 10 ^ 40):Sz 200 c:=B_ (by omega) (by omega)
theorem Bs {H H':Hp} {l:Ad} {o:HO} (s:Ax H H') (n:H l=Ai):Ax H (upd H' l o):=fun b u e=>by
 rw [AF (Em e n)];exact s b u e
theorem ifT {c:AI} {A B:Prop} (e:c=Af) (h:A):if c=Af then A else B:=by rw [Ar e];exact h
theorem ifF {c:AI} {A B:Prop} (e:c=Aq) (h:B):if c=Af then A else B:=by rw [Ao (by rw [e];decide)];exact h
theorem KW {a b:Ab} (h:a≠b):(!decide (V.int a=V.int b))=Af:=by rw [AS (fun e=>h (V.int.inj e))];rfl
theorem KU {a b:Ab} (h:a=b):(!decide (V.int a=V.int b))=Aq:=by rw [h,AT rfl];rfl
theorem Hb {a b:Ab} (h:a=b):decide (V.int a=V.int b)=Af:=by rw [h];exact AT rfl
theorem HW {a b:Ab} (h:a≠b):decide (V.int a=V.int b)=Aq:=AS fun e=>h (V.int.inj e)
theorem E8 {ns:Ac Ab} {i:Ae} {x:V} (h:(ns.map V.int)[i]?=Aa x):∃z,ns[i]?=Aa z/\x=.int z:=by
 rw [Ba] at h
 cases e:ns[i]? with
 | none=>rw [e] at h;cases h
 | some z=>rw [e] at h;exact ⟨z,rfl,(Bn h).symm⟩
theorem atN {ns:Ac Ab} {i:Ae} {z:Ab} (h:ns[i]?=Aa z):atI (ns.map V.int) (i:Ab)=Aa (.int z):=HQ (by rw [Ba,h];rfl)
theorem AbN {n j:Ae} (h:j < n):seqIndex? (j:Ab) n=Aa j:=(Nq (i:=(j:Ab)) (by unfold ixN;rw [Ar (by omega)];simp [h])).1
theorem Rc {α β:Type} (f:α->β):∀(l:Ac α) (k:Ae),(l.map f).eraseIdx k=(l.eraseIdx k).map f
 | [],_=>rfl
 | _ :: _,0=>rfl
 | x :: l,k+1=>by
   show f x :: (l.map f).eraseIdx k=f x :: (l.eraseIdx k).map f;rw [Rc f l k]
theorem ZJ {z d:Ab} (z0:0<=z) (h:1<=d) (z1:z < 10 ^ 31):0<=z.fdiv d/\z.fdiv d < 10 ^ 31:=by
 rw [DH z (by omega)];exact ⟨O3 z0 (by omega),VR (VN d z0) z1⟩
theorem XW (x:Ab):CJ x 1=x % 2:=PySem.W.kbt_mask x 1
theorem Q7 (m:Ab) (h:Ab):decide (V.int (CJ (m / 2 ^ h.toNat) 1)=V.int 1)=bit m h.toNat:=by
 unfold bit;rw [XW];by_cases c:m / 2 ^ h.toNat % 2=1
 ·rw [AT c,AT (Bx V.int c)]
 ·rw [AS c,AS fun e=>c (V.int.inj e)]
theorem ZY (m:Ab) (i:Ae):m / 2 ^ i % 2=if bit m i=Af then 1 else 0:=by
 have e:m / 2 ^ i % 2=0\/m / 2 ^ i % 2=1:=by omega
 unfold bit;rcases e with e | e
 ·rw [e];rfl
 ·rw [e];rfl
theorem H_ (m:Ab) (h:Ae):CJ m (Oy (1*2 ^ h))=m - 2 ^ h*(if bit m h=Af then 1 else 0):=by
 rw [LM,PyProof.Rows.bitAnd_not,PySem.W.kbt_bit,ZY]
 cases bit m h <;> simp
inductive Ub (vs:Ac V) (H:Hp) (Q:VK) (E:XK):Prop
 | mk (m h:Ab):vs=[.int m,.int h]->0<=h->Q (.bl (bit m h.toNat)) H->Ub vs H Q E
noncomputable def Ab':Sp:=fun vs H Q _=>∃h:Ab,vs=[.int h]/\0<=h/\h<=12/\Q (.int (1*2 ^ h.toNat - 1)) H
inductive UH (vs:Ac V) (H:Hp) (Q:VK) (E:XK):Prop
 | mk (m h:Ab):vs=[.int m,.int h]->0<=h->h < 12->Q (.int (Iz m (1*2 ^ h.toNat))) H->UH vs H Q E
inductive UJ (vs:Ac V) (H:Hp) (Q:VK) (E:XK):Prop
 | mk (m h:Ab):vs=[.int m,.int h]->0<=h->h < 12->Q (.int (CJ m (Oy (1*2 ^ h.toNat)))) H->UJ vs H Q E
noncomputable def Ace:Sp:=fun vs H Q _=>∃m:Ab,vs=[.int m]/\0<=m/\m < 4096/\∀(p:Ad) (H':Hp),H p=Ai->Ax H H'->H' p=Aa (.lst ((hands 12 (bit m)).map V.int))->Q (.ref p) H'
inductive Uj (vs:Ac V) (H:Hp) (Q:VK) (E:XK):Prop
 | mk (c b:Ab):vs=[.int c,.int b]->Sz 200 c->0<=b->b<=100->(∀z:Ab,0<=z->z < 10 ^ 31->Q (.int z) H)->Uj vs H Q E
theorem u1 {n:Ae} (h:n+64 < cLine):n+1 < cLine:=by omega
theorem none_of {H H':Hp} {a:Ad} (s:Ax H H') (h:H' a=Ai):H a=Ai:=by
 cases e:H a with
 | none=>rfl
 | some u=>rw [s _ _ e] at h;cases h
abbrev Ls:=Ac (Ad × Ad × Ac Ab × Ab)
abbrev Ds:=Ac (Ac Ab × Ab)
noncomputable def vls (ls:Ls):Ac V:=ls.map fun q=>.ref q.1
noncomputable def Am (ls:Ls):Ds:=ls.map fun q=>(q.2.2.1,q.2.2.2)
noncomputable def By (H:Hp) (ls:Ls):Prop:=∀q∈ls,H q.1=Aa (.tup [.ref q.2.1,.int q.2.2.2])/\H q.2.1=Aa (.tup (q.2.2.1.map V.int))
theorem By.same {H H':Hp} {ls:Ls} (s:Ax H H') (g:By H ls):By H' ls:=fun q m=>⟨s _ _ (g q m).1,s _ _ (g q m).2⟩
theorem By.append {H:Hp} {a b:Ls} (g:By H a) (k:By H b):By H (a++b):=fun q m=>(mem_append.mp m).elim (g q) (k q)
theorem By.upd {H:Hp} {ls:Ls} {l:Ad} {xs:Ac V} {o:HO} (e:H l=Aa (.lst xs)) (g:By H ls):By (upd H l o) ls:=fun q m=>by
 refine ⟨?_,?_⟩
 ·rw [AF (Ce (g q m).1 e (fun z=>by cases z))];exact (g q m).1
 ·rw [AF (Ce (g q m).2 e (fun z=>by cases z))];exact (g q m).2
theorem F3 {ls:Ls} {i:Ae} {x:V} (h:(vls ls)[i]?=Aa x):∃q,ls[i]?=Aa q/\x=.ref q.1/\q∈ls/\ls.take (i+1)=ls.take i++[q]:=by
 unfold vls at h;rw [Ba] at h
 cases e:ls[i]? with
 | none=>rw [e] at h;cases h
 | some q =>
   rw [e] at h;refine ⟨q,rfl,(Bn h).symm,Bt e,?_⟩;rw [Me,e];rfl
theorem CI (ls:Ls):(vls ls).length=ls.length:=At ..
theorem Vo (a b:Ls):vls (a++b)=vls a++vls b:=AK ..
theorem Gv (a b:Ls):Am (a++b)=Am a++Am b:=AK ..
theorem QT:∀{a b:Ac Ab},HT.lexLt a b=Af->HT.lexLt b a=Aq
 | [],[],h=>by cases h
 | [],_ :: _,_=>rfl
 | _ :: _,[],h=>by cases h
 | x :: a,y :: b,h=>by
   rw [HT.lexLt_cons] at h ⊢;by_cases c:x=y
   ·rw [Ar c] at h;rw [Ar c.symm];exact QT h
   ·rw [Ao c] at h;rw [Ao (BF c)];have:=CK h;exact AS (by omega)
theorem Nv:∀{a b:Ac Ab},HT.lexLt b a=Aq->a≠b->HT.lexLt a b=Af
 | [],[],_,n=>Aw rfl n
 | [],_ :: _,_,_=>rfl
 | _ :: _,[],h,_=>by cases h
 | x :: a,y :: b,h,n=>by
   rw [HT.lexLt_cons] at h ⊢;by_cases c:x=y
   ·rw [Ar c.symm] at h;rw [Ar c];exact Nv h fun e=>n (by rw [c,e])
   ·rw [Ao (BF c)] at h;rw [Ao c];have:=HL h;exact AT (by omega)
noncomputable def tot:Ds->Ac Ab->Ab
 | [],_=>0
 | q :: r,ts=>(if q.1=ts then q.2 else 0)+tot r ts
theorem Io (ts:Ac Ab):∀a b:Ds,tot (a++b) ts=tot a ts+tot b ts
 | [],b=>by show tot b ts=0+tot b ts;omega
 | q :: a,b=>by
   show (if q.1=ts then q.2 else 0)+tot (a++b) ts=(if q.1=ts then q.2 else 0)+tot a ts+tot b ts;rw [Io ts a b];omega
noncomputable def Pos (ds:Ds):Prop:=∀q∈ds,1<=q.2
theorem JI {ts:Ac Ab}:∀{ds:Ds},Pos ds->0<=tot ds ts
 | [],_=>Dy _
 | q :: r,h=>by
   have h1:=h q (AV ..);have h2:=JI (ts:=ts) (ds:=r) fun p m=>h p (Bc _ m);show 0<=(if q.1=ts then q.2 else 0)+tot r ts
   split <;> omega
theorem GA {ts:Ac Ab}:∀{ds:Ds},ts ∉ ds.map (·.1)->tot ds ts=0
 | [],_=>rfl
 | q :: r,h=>by
   rw [Bg,Ef,not_or] at h;show (if q.1=ts then q.2 else 0)+tot r ts=0;rw [Ao (fun e=>h.1 e.symm),GA h.2];rfl
theorem Vd {ts:Ac Ab}:∀{ds:Ds},Pos ds->ts∈ds.map (·.1)->0 < tot ds ts
 | [],_,m=>nomatch m
 | q :: r,h,m=>by
   have h1:=h q (AV ..);have hr:Pos r:=fun p m=>h p (Bc _ m);have h2:=JI (ts:=ts) hr;show 0 < (if q.1=ts then q.2 else 0)+tot r ts;by_cases c:q.1=ts
   ·rw [Ar c];omega
   ·rw [Ao c];rcases mem_cons.mp m with e | e
    ·exact Aw e.symm c
    ·have:=Vd hr e;omega
structure DQ (ds out:Ds):Prop where
 srt:out.Pairwise (fun x y=>HT.lexLt x.1 y.1=Af)
 mem:∀ts n,(ts,n)∈out↔n=tot ds ts/\0 < n
theorem G3 (ts:Ac Ab):(ts.map AH:Ac Key).map kV=ts.map V.int:=by rw [Bf];rfl
theorem QB {a b:Ac Ab} (h:(a.map AH:Ac Key)=b.map AH):a=b:=by
 have e:=Bx (FF kV) h;rw [G3,G3] at e
 have:∀{a b:Ac Ab},a.map V.int=b.map V.int->a=b:=by
  intro a
  induction a with
  | nil=>intro b h;cases b with | nil=>rfl | cons _ _=>cases h
  | cons x a ih =>
    intro b h
    cases b with
    | nil=>cases h
    | cons y b =>
      injection h with h1 h2
      injection h1 with h1
      rw [h1,ih h2]
 exact this e
theorem Rn {α β:Type} {f:α->β}:∀{l:Ac α},(l.map f).Nodup->l.Nodup
 | [],_=>Fc
 | x :: l,h=>by
   rw [Bg,IH] at h;rw [IH];exact ⟨fun m=>h.1 (mem_map.mpr ⟨x,m,rfl⟩),Rn h.2⟩
structure VD (kvs:Ac (Ac Key × V)):Prop where
 nd:(kvs.map (·.1)).Nodup
 all:∀q∈kvs,∃(ts:Ac Ab) (n:Ab),q=(ts.map AH,.int n)
theorem Abt {κ:Type} [F6 κ] {kvs:Ac (κ × V)} {k:κ} {v w:V} (h:A' kvs k=Aa w):(B6 kvs k v).map (·.1)=kvs.map (·.1):=by
 unfold B6;rw [F',h,Ar (show (Aa w).isSome=Af from rfl),Bf];refine E1 fun q _=>?_;show (if q.1=k then (q.1,v) else q).1=q.1
 split <;> rfl
theorem VD.put {kvs:Ac (Ac Key × V)} (h:VD kvs) (ts:Ac Ab) (n:Ab):VD (B6 kvs (ts.map AH) (.int n)):=by
 refine ⟨?_,fun q m=>?_⟩
 ·cases e:A' kvs (ts.map AH:Ac Key) with
  | none=>exact Aaf _ h.nd e
  | some w=>rw [Abt e];exact h.nd
 ·unfold B6 at m
  split at m
  ·obtain ⟨p,pm,rfl⟩:=mem_map.mp m
   split
   ·rename_i e
    exact ⟨ts,n,by rw [e]⟩
   ·exact h.all p pm
  ·rcases mem_append.mp m with m | m
   ·exact h.all q m
   ·exact ⟨ts,n,mem_singleton.mp m⟩
theorem VD.val {kvs:Ac (Ac Key × V)} (h:VD kvs) {k:Ac Key} {v:V} (e:A' kvs k=Aa v):∃n:Ab,v=.int n:=by
 unfold A' at e
 cases c:kvs.find? fun kv=>decide (kv.1=k) with
 | none=>rw [c] at e;cases e
 | some q =>
   rw [c] at e;obtain ⟨ts,n,rfl⟩:=h.all q (OF c);exact ⟨n,(Bn e).symm⟩
theorem VD.keys {kvs:Ac (Ac Key × V)} (h:VD kvs):∃ks:Ac (Ac Ab),kvs.map (·.1)=ks.map (FF AH)/\ks.length=kvs.length/\ks.Nodup/\∀ts,ts∈ks↔∃n:Ab,A' kvs (ts.map AH)=Aa (.int n):=by
 have key:∀{l:Ac (Ac Key × V)},(∀q∈l,q∈kvs)->∃ks:Ac (Ac Ab),l.map (·.1)=ks.map (FF AH)/\ks.length=l.length:=by
  intro l
  induction l with
  | nil=>intro _;exact ⟨[],rfl,rfl⟩
  | cons q r ih =>
    intro sub;obtain ⟨ks,e1,e2⟩:=ih fun p m=>sub p (Bc _ m);obtain ⟨ts,n,eq⟩:=h.all q (sub q (AV ..));exact ⟨ts :: ks,by rw [Bg,Bg,e1,eq],by rw [BP,BP,e2]⟩
 obtain ⟨ks,e1,e2⟩:=key fun q m=>m
 have mm:∀ts,ts∈ks↔(ts.map AH:Ac Key)∈kvs.map (·.1):=fun ts=>by
  rw [e1]
  constructor
  ·intro m;exact mem_map.mpr ⟨ts,m,rfl⟩
  ·intro m;obtain ⟨us,um,e⟩:=mem_map.mp m;rw [<- QB e];exact um
 refine ⟨ks,e1,e2,?_,fun ts=>⟨fun m=>?_,fun ⟨n,e⟩=>(mm ts).mpr (Adc e)⟩⟩
 ·have nd:=h.nd;rw [e1] at nd;exact Rn nd
 ·cases c:A' kvs (ts.map AH:Ac Key) with
  | none=>exact Aw ((mm ts).mp m) (Vl c)
  | some v =>
    obtain ⟨n,rfl⟩:=h.val c;exact ⟨n,rfl⟩
structure DictOf (ds:Ds) (kvs:Ac (Ac Key × V)):Prop where
 vd:VD kvs
 val:∀ts:Ac Ab,A' kvs (ts.map AH)=if ts∈ds.map (·.1) then Aa (.int (tot ds ts)) else Ai
theorem DictOf.nil:DictOf [] []:=⟨⟨Fc,fun _ m=>Aw m Bm⟩,fun _=>rfl⟩
noncomputable def EB (kvs:Ac (Ac Key × V)) (ts:Ac Ab):Ab:=match A' kvs (ts.map AH:Ac Key) with
 | some (.int n)=>n
 | _=>0
theorem DictOf.put {ds:Ds} {kvs:Ac (Ac Key × V)} (h:DictOf ds kvs) (ts:Ac Ab) (n:Ab):DictOf (ds++[(ts,n)]) (B6 kvs (ts.map AH) (.int (tot ds ts+n))):=by
 refine ⟨h.vd.put ts _,fun us=>?_⟩;rw [Oe,h.val us,Io,AK];show (if (us.map AH:Ac Key)=ts.map AH then _ else _)=if us∈ds.map (·.1)++[ts] then Aa (V.int (tot ds us+((if ts=us then n else 0)+0))) else Ai;by_cases c:us=ts
 ·subst c;rw [Ar rfl,Ar (by simp),Ar rfl];rw [GD]
 ·rw [Ao (fun e=>c (QB e)),Ao (BF c)];by_cases m:us∈ds.map (·.1)
  ·rw [Ar m,Ar (by simp;left;simpa using m)];rw [GD,GD]
  ·rw [Ao m,Ao (by simp;exact ⟨by simpa using m,c⟩)]
theorem N7 {α:Type} [F6 α]:∀{l p:Ac α},l.Nodup->(∀x∈l,x∈p)->l.length<=p.length
 | [],_,_,_=>Br _
 | x :: l,p,n,s=>by
   rw [IH] at n;have m:=s x (AV ..);have ih:=N7 (p:=p.erase x) n.2 fun y hy=>(mem_erase_of_ne (fun e:y=x=>n.1 (by rw [<- e];exact hy))).mpr (s y (Bc _ hy));rw [length_erase_of_mem m] at ih;have:=IF m;rw [BP];omega
theorem DictOf.len {ds:Ds} {kvs:Ac (Ac Key × V)} (h:DictOf ds kvs) {p:Ac (Ac Ab)} (s:∀q∈ds,q.1∈p):kvs.length<=p.length:=by
 obtain ⟨ks,_,e2,nd,mm⟩:=h.vd.keys;rw [<- e2];refine N7 nd fun ts m=>?_;obtain ⟨n,e⟩:=(mm ts).mp m;rw [h.val ts] at e;by_cases c:ts∈ds.map (·.1)
 ·obtain ⟨q,qm,rfl⟩:=mem_map.mp c;exact s q qm
 ·rw [Ao c] at e;cases e
theorem DictOf.sheet {ds out:Ds} {kvs:Ac (Ac Key × V)} (h:DictOf ds kvs) (p:Pos ds) (srt:out.Pairwise (fun x y=>HT.lexLt x.1 y.1=Af)) (mem:∀ts n,(ts,n)∈out↔A' kvs (ts.map AH)=Aa (.int n)/\0 < n):DQ ds out:=by
 refine ⟨srt,fun ts n=>?_⟩;rw [mem,h.val];by_cases c:ts∈ds.map (·.1)
 ·rw [Ar c]
  constructor
  ·rintro ⟨e,z⟩;injection e with e;injection e with e;exact ⟨e.symm,z⟩
  ·rintro ⟨e,z⟩;exact ⟨by rw [e],z⟩
 ·rw [Ao c,GA c]
  constructor
  ·rintro ⟨e,_⟩;cases e
  ·rintro ⟨e,z⟩;omega
theorem K_ {ds:Ds} {kvs:Ac (Ac Key × V)} (h:DictOf ds kvs) (ts:Ac Ab):(A' kvs (ts.map AH:Ac Key)).getD (.int 0)=.int (tot ds ts):=by
 rw [h.val ts];by_cases c:ts∈ds.map (·.1)
 ·rw [Ar c];rfl
 ·rw [Ao c,GA c];rfl
inductive Uk (vs:Ac V) (H:Hp) (Q:VK) (E:XK):Prop
 | mk (l:Ad) (ls:Ls) (p:Ac (Ac Ab)):vs=[.ref l]->H l=Aa (.lst (vls ls))->By H ls->(∀q∈Am ls,q.1∈p)->p.length < 64->(∀(d:Ad) (kvs:Ac (Ac Key × V)) (H':Hp),H d=Ai->Ax H H'->H' d=Aa (.dT kvs)->DictOf (Am ls) kvs->Q (.ref d) H')->Uk vs H Q E
inductive Uw (vs:Ac V) (H:Hp) (Q:VK) (E:XK):Prop
 | mk (d:Ad) (kvs:Ac (Ac Key × V)):vs=[.ref d]->H d=Aa (.dT kvs)->VD kvs->kvs.length < 64->(∀(l:Ad) (ls:Ls) (H':Hp),H l=Ai->Ax H H'->H' l=Aa (.lst (vls ls))->By H' ls->(Am ls).Pairwise (fun x y=>HT.lexLt x.1 y.1=Af)->(∀ts n,(ts,n)∈Am ls↔A' kvs (ts.map AH)=Aa (.int n)/\0 < n)->ls.length < 64->Q (.ref l) H')->Uw vs H Q E
inductive TB (vs:Ac V) (H:Hp) (Q:VK) (E:XK):Prop
 | mk (l:Ad) (ls:Ls):vs=[.ref l]->H l=Aa (.lst (vls ls))->By H ls->ls.length<=900->(∀H':Hp,Ax H H'->Q (.int ((Am ls).map (·.2)).sum) H')->TB vs H Q E
inductive Um (vs:Ac V) (H:Hp) (Q:VK) (E:XK):Prop
 | mk (l t:Ad) (ls:Ls) (ts:Ac Ab):vs=[.ref l,.ref t]->H l=Aa (.lst (vls ls))->By H ls->H t=Aa (.tup (ts.map V.int))->ls.length<=900->(∀H':Hp,Ax H H'->Q (.int (tot (Am ls) ts)) H')->Um vs H Q E
theorem JC {n:Ae} (h:n<=900):n<=AB:=DK (C8 (by omega))
theorem Od (ts:Ac Ab):∀ds:Ds,((ds.filter fun q=>decide (q.1=ts)).map (·.2)).sum=tot ds ts
 | []=>rfl
 | q :: r=>by
   show _=(if q.1=ts then q.2 else 0)+tot r ts;by_cases c:q.1=ts
   ·rw [LR (by simpa using c),Bg,D7,Od ts r,Ar c]
   ·rw [LQ (by simpa using c),Od ts r,Ao c];omega
theorem Je {m:Ab} {i:Ae} (h0:0<=m) (h:m < 2 ^ i):bit m i=Aq:=by
 unfold bit;rw [Int.ediv_eq_zero_of_lt h0 h]
 decide
theorem Q5 {m:Ab} {k:Ae} (h0:0<=m) (h:m < 2 ^ k):∀d:Ae,hands (k+d) (bit m)=hands k (bit m)
 | 0=>rfl
 | d+1=>by
   have p:(2:Ab) ^ k<=2 ^ (k+d):=by
    have q:2 ^ k<=2 ^ (k+d):=GJ (by decide) (by omega);have e1:((2 ^ k:Ae):Ab)=(2:Ab) ^ k:=by simp
    have e2:((2 ^ (k+d):Ae):Ab)=(2:Ab) ^ (k+d):=by simp
    omega
   show hands ((k+d)+1) (bit m)=hands k (bit m);rw [KB,Je h0 (by omega),Ao (by decide),Q5 h0 h d]
theorem Ye {m:Ab} (h0:0<=m) (h:m < 4096):hands (Ed m) (bit m)=hands 12 (bit m):=by
 have b:Ed m<=12:=intBits_le_iff.mpr (by show m.natAbs < 4096;omega);have l:m.natAbs < 2 ^ Ed m:=intBits_le_iff.mp (A1 _)
 have l':m < (2:Ab) ^ Ed m:=by
  have e:((2 ^ Ed m:Ae):Ab)=(2:Ab) ^ Ed m:=by simp
  omega
 obtain ⟨d,hd⟩:∃d,12=Ed m+d:=⟨12 - Ed m,by omega⟩;rw [hd,Q5 h0 l' d]
noncomputable def OkT (n:Ae) (ts:Ac Ab):Prop:=(∀x∈ts,0 < x/\x < 2 ^ n)/\ts.length<=12
noncomputable def CD (ps:Ac (Ab × Ab)):Ac (Key × V):=ps.map fun q=>(AH q.1,V.int q.2)
noncomputable def Eb (ps:Ac (Ab × Ab)) (b z:Ab):Ac (Ab × Ab):=if (ps.any fun q=>decide (q.1=b))=Af then ps.map (fun q=>if q.1=b then (q.1,z) else q) else ps++[(b,z)]
noncomputable def DW (ps:Ac (Ab × Ab)) (b:Ab):A5 Ab:=(ps.find? fun q=>decide (q.1=b)).map (·.2)
theorem YB (ps:Ac (Ab × Ab)) (b:Ab):((CD ps).any fun kv=>decide (kv.1=AH b))=ps.any fun q=>decide (q.1=b):=by
 unfold CD;rw [any_map]
 congr 1
 funext q
 show decide ((AH q.1:Key)=AH b)=decide (q.1=b);exact decide_eq_decide.mpr ⟨fun e=>GS e,fun e=>by rw [e]⟩
theorem YD (ps:Ac (Ab × Ab)) (b z:Ab):B6 (CD ps) (AH b) (.int z)=CD (Eb ps b z):=by
 unfold B6 Eb;rw [YB]
 split
 ·unfold CD;rw [Bf,Bf];refine E1 fun q _=>?_;show (if (AH q.1:Key)=AH b then _ else _)=_;by_cases c:q.1=b
  ·rw [Ar (by rw [c])];show _=((fun q:Ab × Ab=>((AH q.1:Key),V.int q.2)) (if q.1=b then (q.1,z) else q));rw [Ar c]
  ·rw [Ao (fun e=>c (GS e))];show _=((fun q:Ab × Ab=>((AH q.1:Key),V.int q.2)) (if q.1=b then (q.1,z) else q));rw [Ao c]
 ·unfold CD;rw [AK];rfl
theorem Qn:∀(ps:Ac (Ab × Ab)) (b:Ab),A' (CD ps) (AH b)=(DW ps b).map V.int
 | [],b=>rfl
 | q :: r,b=>by
   have ih:=Qn r b;unfold A' DW CD at ih ⊢;rw [Bg,Ez,Ez];by_cases c:q.1=b
   ·rw [AT c,AT (show (AH q.1:Key)=AH b from by rw [c])];rfl
   ·rw [AS c,AS (show ¬ (AH q.1:Key)=AH b from fun e=>c (GS e))];exact ih
noncomputable def EE (φ:Ab->Ab) (ps:Ac (Ab × Ab)):Ab:=(ps.map fun q=>q.2*φ q.1).sum
theorem Hi (φ:Ab->Ab) (q:Ab × Ab) (r:Ac (Ab × Ab)):EE φ (q :: r)=q.2*φ q.1+EE φ r:=by unfold EE;rw [Bg,D7]
theorem RU (φ:Ab->Ab):∀a b:Ac (Ab × Ab),EE φ (a++b)=EE φ a+EE φ b
 | [],b=>(F9 _).symm
 | q :: r,b=>by rw [VZ,Hi,Hi,RU φ r b,VM]
theorem RV (φ:Ab->Ab) (b z:Ab):∀{ps:Ac (Ab × Ab)},b ∉ ps.map (·.1)->EE φ (ps.map fun q=>if q.1=b then (q.1,z) else q)=EE φ ps
 | [],_=>rfl
 | q :: r,h=>by
   rw [Bg,Ef,not_or] at h;rw [Bg,Ao (fun e=>h.1 e.symm),Hi,Hi,RV φ b z h.2]
theorem Abg (φ:Ab->Ab) (b x:Ab):∀{ps:Ac (Ab × Ab)},(ps.map (·.1)).Nodup->EE φ (Eb ps b ((DW ps b).getD 0+x))=EE φ ps+x*φ b:=by
 intro ps nd;unfold Eb;by_cases c:(ps.any fun q=>decide (q.1=b))=Af
 ·rw [Ar c]
  induction ps with
  | nil=>cases c
  | cons q r ih =>
    rw [Bg,IH] at nd;rw [Bg,Hi,Hi];by_cases e:q.1=b
    ·have v:DW (q :: r) b=Aa q.2:=by unfold DW;rw [Ez,AT e];rfl
     rw [v,Ar e,RV φ b _ (by rw [<- e];exact nd.1)];show (q.2+x)*φ q.1+_=_;rw [LF,e];omega
    ·have v:DW (q :: r) b=DW r b:=by unfold DW;rw [Ez,AS e]
     rw [v,Ao e];rw [IE,AS e,Ou] at c;rw [ih nd.2 c];omega
 ·rw [Ao c]
  have v:DW ps b=Ai:=by
   unfold DW;rw [List.find?_eq_none.mpr fun q m=>?_]
   ·rfl
   ·intro z;exact c (any_eq_true.mpr ⟨q,m,z⟩)
  rw [v,RU,Hi];show _+((0+x)*φ b+0)=_;rw [F9,GD]
theorem NM {ps:Ac (Ab × Ab)} {b z:Ab}:(Eb ps b z).map (·.1)=if (ps.any fun q=>decide (q.1=b))=Af then ps.map (·.1) else ps.map (·.1)++[b]:=by
 unfold Eb
 split
 ·rw [Bf];refine E1 fun q _=>?_;show (if q.1=b then (q.1,z) else q).1=q.1
  split <;> rfl
 ·rw [AK];rfl
theorem Abq {ps:Ac (Ab × Ab)} {b z:Ab} (nd:(ps.map (·.1)).Nodup):((Eb ps b z).map (·.1)).Nodup:=by
 rw [NM]
 split
 ·exact nd
 ·rename_i c
  refine nodup_append.mpr ⟨nd,nodup_cons.mpr ⟨(fun m=>nomatch m),Fc⟩,fun x m y k e=>?_⟩;rw [mem_singleton.mp k] at e;obtain ⟨q,qm,rfl⟩:=mem_map.mp m;exact c (any_eq_true.mpr ⟨q,qm,AT e⟩)
theorem J0 {ps:Ac (Ab × Ab)} {b z:Ab} {q:Ab × Ab} (m:q∈Eb ps b z):q∈ps\/q=(b,z):=by
 unfold Eb at m
 split at m
 ·obtain ⟨p,pm,rfl⟩:=mem_map.mp m;by_cases c:p.1=b
  ·rw [Ar c,c];exact .inr rfl
  ·rw [Ao c];exact .inl pm
 ·rcases mem_append.mp m with m | m
  ·exact .inl m
  ·exact .inr (mem_singleton.mp m)
theorem Abs {ps:Ac (Ab × Ab)} {b z x:Ab} (m:x∈ps.map (·.1)):x∈(Eb ps b z).map (·.1):=by
 rw [NM]
 split
 ·exact m
 ·exact CB _ m
theorem Abr {ps:Ac (Ab × Ab)} {b z:Ab}:b∈(Eb ps b z).map (·.1):=by
 rw [NM]
 split
 ·rename_i c
  obtain ⟨q,m,e⟩:=any_eq_true.mp c;exact mem_map.mpr ⟨q,m,CK e⟩
 ·exact B8 _ (mem_singleton.mpr rfl)
theorem Ade (o:A5 Ab):(o.map V.int).getD (.int 0)=.int (o.getD 0):=by cases o <;> rfl
theorem Abp (ps:Ac (Ab × Ab)) (b z:Ab):(Eb ps b z).length<=ps.length+1:=by
 unfold Eb
 split
 ·rw [At];exact Dl _
 ·rw [Bj];exact A1 _
theorem Adb {ps:Ac (Ab × Ab)} {b v:Ab} (e:DW ps b=Aa v):(b,v)∈ps:=by
 unfold DW at e;obtain ⟨q,hq,rfl⟩:=Option.map_eq_some_iff.mp e;have:=Wd hq;have c:q.1=b:=CK this;rw [<- c];exact OF hq
abbrev Wz:=Ac (Ab × Ab × Ab)
noncomputable def CO (φ:Ab->Ab) (zs:Wz):Ab:=(zs.map fun z=>if z.2.1=0 then 0 else z.1*z.2.1*φ z.2.2).sum
theorem Vy (φ:Ab->Ab) (zs:Wz) (z:Ab × Ab × Ab):CO φ (zs++[z])=CO φ zs+if z.2.1=0 then 0 else z.1*z.2.1*φ z.2.2:=by
 unfold CO;rw [AK,Wq];show _+((if z.2.1=0 then 0 else z.1*z.2.1*φ z.2.2)+0)=_;rw [GD]
noncomputable def DU (c b:Ab):Ab:=if c.fmod b≠0 then c*b.fdiv (AW c b) else c
theorem Acj {c b:Ab} (c0:0 < c) (b0:0 < b):c ∣ DU c b/\b ∣ DU c b/\0 < DU c b:=by
 unfold DU
 split
 ·have g0:(0:Ab) < AW c b:=by
   unfold AW;have:0 < Cw c b:=O4 _ (E_ c0)
   exact_mod_cast this
  obtain ⟨x,hx⟩:AW c b ∣ b:=LG ..;obtain ⟨y,hy⟩:AW c b ∣ c:=VP ..;generalize AW c b=g at g0 hx hy ⊢
  have e:b.fdiv g=x:=by
   rw [DH b (BH g0),hx];exact LK _ (E_ g0)
  have x0:0 < x:=by
   rcases Int.lt_trichotomy x 0 with h | h | h
   ·have:=VS g0 h;omega
   ·rw [h,O7] at hx;omega
   ·exact h
  rw [e];refine ⟨⟨x,rfl⟩,⟨y,?_⟩,D1 c0 x0⟩;rw [hy,hx]
  ac_rfl
 ·rename_i h
  have h':c.fmod b=0:=Classical.byContradiction h;refine ⟨⟨1,(EF _).symm⟩,?_,c0⟩;rw [VO c (BH b0)] at h';exact Int.dvd_of_emod_eq_zero h'
abbrev Fq:=Ad × Ab × Ab
noncomputable def fqv (fs:Ac Fq):Ac V:=fs.map fun f=>.ref f.1
noncomputable def FqG (H:Hp) (f:Fq):Prop:=H f.1=Aa (.tup [.int f.2.1,.int f.2.2])
theorem FqG.same {H H':Hp} {f:Fq} (e:Ax H H') (g:FqG H f):FqG H' f:=e _ _ g
structure FqB (m:Ae) (f:Fq):Prop where
 b0:0 < f.2.2
 t0:0<=f.2.1
 szt:Sz m f.2.1
 szb:Sz m f.2.2
noncomputable def Cg (ls:Ls) (fs:Ac Fq):Wz:=(ls.zip fs).map fun p=>(p.1.2.2.2,p.2.2.1,p.2.2.2)
structure XO (m:Ae) (ps:Ac (Ab × Ab)):Prop where
 b0:∀q∈ps,0 < q.1
 szb:∀q∈ps,Sz m q.1
inductive TY (m:Ae) (vs:Ac V) (H:Hp) (Q:VK) (E:XK):Prop
 | mk (f:Fq) (n:Ae):vs=[.ref f.1,.int (n:Ab)]->FqG H f->FqB m f->1<=n->n<=12->(∀(T:Ad) (H':Hp),H T=Ai->Ax H H'->H' T=Aa (.tup [.int (f.2.1.fdiv (AW f.2.1 n)),.int (f.2.2*(n:Ab).fdiv (AW f.2.1 n))])->Q (.ref T) H')->TY m vs H Q E
theorem N' {n:Ae}:∀{xs:Ac Ab},(∀x∈xs,Sz n x)->Sz (n+xs.length) xs.sum
 | [],_=>by show (0:Ab).natAbs < _;exact Nat.pow_pos (by decide)
 | x :: r,h=>by
   rw [D7,BP];exact ((h x (AV ..)).add (N' fun y m=>h y (Bc _ m))).mono (by omega)
theorem YC {ps:Ac (Ab × Ab)} {i:Ae} {k:Key} {v:V} (h:(CD ps)[i]?=Aa (k,v)):∃q,ps[i]?=Aa q/\k=AH q.1/\v=.int q.2:=by
 unfold CD at h;rw [Ba] at h;obtain ⟨q,hq,e⟩:=Option.map_eq_some_iff.mp h;injection e with e1 e2
 exact ⟨q,hq,e1.symm,e2.symm⟩
theorem Qm (ps:Ac (Ab × Ab)):(CD ps).length=ps.length:=At ..
noncomputable def CF:Ac Ab->Ab->Ab
 | [],_=>0
 | t :: ts,s=>if CJ t s=0 then CF ts s else CJ t s
theorem QG {n i:Ae} (h:i < n):ixN n (i:Ab)=Aa i:=by
 unfold ixN;rw [Ar (by omega)];simp [h]
inductive Uf (K:A8) (vs:Ac V) (H:Hp) (Q:VK) (E:XK):Prop
 | mk (p:Ad) (ts:Ac Ab) (s:Ab):vs=[.ref p,.int s]->SqT K H p (ts.map V.int)->Q (.int (CF ts s)) H->Uf K vs H Q E
noncomputable def BG (fr:Ab × Ab) (n:Ae):Ab × Ab:=(fr.1.fdiv (AW fr.1 n),fr.2*(n:Ab).fdiv (AW fr.1 n))
noncomputable def G6 (wh:Ac Ab) (fr:Ab × Ab) (ks:Ac (Ab × Ab)):Ac (Ab × Ab):=if wh=[] then ks++[fr] else wh.foldl (fun r x=>r.set x.toNat (BG fr wh.length)) (ks++[(0,1)])
noncomputable def B9 (ts:Ac Ab) (s:Ab):Ac Ab:=hands 12 (bit (CF ts s))
inductive U5 (m:Ae) (vs:Ac V) (H:Hp) (Q:VK) (E:XK):Prop
 | mk (sp kl:Ad) (h:Ae) (ts:Ac Ab) (fr:Fq) (ks:Ac Fq) (s:Ab):vs=[.ref sp,.ref fr.1,.ref kl,.int s]->H sp=Aa (.tup (ts.map V.int))->FqG H fr->FqB m fr->H kl=Aa (.lst (fqv ks))->(∀f∈ks,FqG H f)->ks.length=h->h<=12->0<=CF ts s->CF ts s < 2 ^ h->(∀x∈B9 ts s,0<=x/\x < h)->(B9 ts s).length<=12->(∀(r:Ad) (fs:Ac Fq) (H':Hp),H r=Ai->Ax H H'->H' r=Aa (.lst (fqv fs))->(∀f∈fs,FqG H' f)->fs.map (·.2)=G6 (B9 ts s) fr.2 (ks.map (·.2))->Q (.ref r) H')->U5 m vs H Q E
theorem FqG.upd {H:Hp} {f:Fq} {a:Ad} {xs:Ac V} {o:HO} (g:FqG H f) (e:H a=Aa (.lst xs)):FqG (L2.upd H a o) f:=by
 show (L2.upd H a o) f.1=_;rw [AF (Ce g e (fun z=>by cases z))];exact g
theorem Qy (fs:Ac Fq) (i:Ae) (f:Fq):(fqv fs).set i (.ref f.1)=fqv (fs.set i f):=by unfold fqv;rw [JY]
theorem Qs {α:Type} (x:α):∀(wh:Ac Ab) (r:Ac α),(wh.foldl (fun r y=>r.set y.toNat x) r).length=r.length
 | [],_=>rfl
 | y :: w,r=>by rw [Fb,Qs x w,LZ]
abbrev Sh:=Ad × Fq × Ad × Ac Fq
noncomputable def shv (xs:Ac Sh):Ac V:=xs.map fun x=>.ref x.1
structure ShG (H:Hp) (x:Sh):Prop where
 t:H x.1=Aa (.tup [.ref x.2.1.1,.ref x.2.2.1])
 f:FqG H x.2.1
 l:H x.2.2.1=Aa (.lst (fqv x.2.2.2))
 k:∀f∈x.2.2.2,FqG H f
theorem ShG.same {H H':Hp} {x:Sh} (e:Ax H H') (g:ShG H x):ShG H' x:=⟨e _ _ g.t,g.f.same e,e _ _ g.l,fun f m=>(g.k f m).same e⟩
abbrev Rw:=Ad × Ac Fq
noncomputable def rwv (rs:Ac Rw):Ac V:=rs.map fun r=>.ref r.1
noncomputable def RwG (H:Hp) (r:Rw):Prop:=H r.1=Aa (.lst (fqv r.2))/\∀f∈r.2,FqG H f
theorem RwG.same {H H':Hp} {r:Rw} (e:Ax H H') (g:RwG H r):RwG H' r:=⟨e _ _ g.1,fun f m=>(g.2 f m).same e⟩
noncomputable def Jc (h:Ae) (s:Ab) (ts:Ac Ab):Prop:=0<=CF ts s/\CF ts s < 2 ^ h/\(∀x∈B9 ts s,0<=x/\x < h)/\(B9 ts s).length<=12
noncomputable def FZ (s:Ab) (ls:Ls) (xs:Ac Sh):Ac (Ac (Ab × Ab)):=(ls.zip xs).map fun p=>G6 (B9 p.1.2.2.1 s) p.2.2.1.2 (p.2.2.2.2.map (·.2))
inductive U4 (m:Ae) (vs:Ac V) (H:Hp) (Q:VK) (E:XK):Prop
 | mk (l st:Ad) (h:Ae) (ls:Ls) (xs:Ac Sh) (s:Ab):vs=[.ref l,.ref st,.int s]->H l=Aa (.lst (vls ls))->By H ls->H st=Aa (.lst (shv xs))->(∀x∈xs,ShG H x/\FqB m x.2.1/\x.2.2.2.length=h)->ls.length=xs.length->ls.length<=60->h<=12->(∀q∈ls,Jc h s q.2.2.1)->(∀(r:Ad) (rs:Ac Rw) (H':Hp),H r=Ai->Ax H H'->H' r=Aa (.lst (rwv rs))->(∀x∈rs,RwG H' x/\H x.1=Ai)->(rs.map fun x=>x.2.map (·.2))=FZ s ls xs->Q (.ref r) H')->U4 m vs H Q E
noncomputable def Dt (rs:Ac Rw) (j:Ae):Ac Fq:=rs.map fun r=>r.2.getD j (0,0,1)
theorem Nl {fs:Ac Fq} {j:Ae} (h:j < fs.length):fs[j]?=Aa (fs.getD j (0,0,1)):=by rw [BI,Cm h];rfl
inductive TC (vs:Ac V) (H:Hp) (Q:VK) (E:XK):Prop
 | mk (l:Ad) (h:Ae) (ls:Ls):vs=[.ref l,.int (h:Ab)]->H l=Aa (.lst (vls ls))->ls.length<=60->h<=12->(∀(a:Ad) (xs:Ac Sh) (H':Hp),H a=Ai->Ax H H'->H' a=Aa (.lst (shv xs))->(∀x∈xs,ShG H' x/\x.2.1.2=(1,1)/\x.2.2.2.map (·.2)=Cy h (0,1)/\H x.2.2.1=Ai/\x.2.2.1≠a)->(xs.map fun x=>x.2.2.1).Nodup->xs.length=ls.length->Q (.ref a) H')->TC vs H Q E
theorem ShG.upd {H:Hp} {x:Sh} {a:Ad} {ys:Ac V} {o:HO} (g:ShG H x) (e:H a=Aa (.lst ys)) (ne:x.2.2.1≠a):ShG (L2.upd H a o) x:=by
 refine ⟨?_,g.f.upd e,?_,fun f m=>(g.k f m).upd e⟩
 ·rw [AF (Ce g.t e (fun z=>by cases z))];exact g.t
 ·rw [AF ne];exact g.l
theorem QC:∀(n:Ae) {t:Ab},0<=t->t < 2 ^ n->t=Cu n (bit t)
 | 0,t,h0,h1=>by
   have:(2:Ab) ^ 0=1:=rfl;show t=0;omega
 | n+1,t,h0,h1=>by
   have e:(2:Ab) ^ (n+1)=2 ^ n*2:=O8 ..;have ih:=QC n (t:=t / 2) (by omega) (by omega);show t=(if bit t 0=Af then 1 else 0)+2*Cu n (fun i=>bit t (i+1));rw [show Cu n (fun i=>bit t (i+1))=Cu n (bit (t / 2)) from Nz n fun i _=>(PP t i).symm,<- ih,PQ];by_cases c:t % 2=1
   ·rw [Ar (AT c)];omega
   ·rw [Ao (by rw [AS c];decide)];omega
theorem XX {n:Ae} {t s:Ab} (h0:0<=t) (h1:t < 2 ^ n):0<=CJ t s/\CJ t s < 2 ^ n:=by
 rw [QC n h0 h1,PD];exact ⟨Rk ..,Rj ..⟩
theorem QV {n:Ae} {s:Ab}:∀{ts:Ac Ab},(∀t∈ts,0 < t/\t < 2 ^ n)->0<=CF ts s/\CF ts s < 2 ^ n
 | [],_=>⟨Dy _,ID (by decide)⟩
 | t :: r,h=>by
   have a:=h t (AV ..);have b:=QV (s:=s) (ts:=r) fun x m=>h x (Bc _ m);show 0<=(if CJ t s=0 then CF r s else CJ t s)/\(if CJ t s=0 then CF r s else CJ t s) < 2 ^ n
   split
   ·exact b
   ·exact XX (by omega) a.2
theorem KH {h:Ae} {ts:Ac Ab} {s:Ab} (ok:OkT h ts):Jc h s ts:=by
 obtain ⟨a,b⟩:=QV (s:=s) ok.1;refine ⟨a,b,fun x m=>?_,FP ..⟩;obtain ⟨i,i12,e,rfl⟩:=E7.mp m;refine ⟨by omega,?_⟩;rcases (by omega:i < h\/h<=i) with c | c
 ·omega
 ·have:(2:Ab) ^ h<=2 ^ i:=by
   have:=GJ (show 0 < 2 by decide) c
   exact_mod_cast this
  rw [Je a (by omega)] at e
  cases e
theorem Q_ {t b:Ab} (h:b≠0):∃d,d≠0/\t=BN t b*d/\b=BL t b*d/\d.natAbs=Cw t b:=by
 have n:=PR (t:=t) h;obtain ⟨k,hk⟩:=Yh (x:=t) (y:=b)
 have d2:Dg t b ∣ b:=by
  have d:AW t b ∣ b:=LG ..;unfold Dg;by_cases c:b < 0
  ·rw [Ar c];exact Int.neg_dvd.mpr d
  ·rw [Ao c];exact d
 obtain ⟨l,hl⟩:=d2;refine ⟨Dg t b,n,?_,?_,?_⟩
 ·unfold BN
  conv=>rhs;arg 1;arg 1;rw [hk]
  rw [LL k n,GE];exact hk
 ·unfold BL
  conv=>rhs;arg 1;arg 1;rw [hl]
  rw [LL l n,GE];exact hl
 ·unfold Dg AW;by_cases c:b < 0
  ·rw [Ar c,Int.natAbs_neg,Ge]
  ·rw [Ao c,Ge]
theorem ZK {t b:Ab} (h:b≠0):AW (BN t b) (BL t b)=1:=by
 obtain ⟨d,d0,e1,e2,e3⟩:=Q_ (t:=t) h;generalize BN t b=x at *;generalize BL t b=y at *;rw [e1,e2,Int.gcd_mul_right] at e3;have dp:0 < d.natAbs:=by omega
 have z:Cw x y=1:=by
  have f:Cw x y*d.natAbs=1*d.natAbs:=by rw [Nat.one_mul];exact e3.symm
  exact Wx dp f
 unfold AW;rw [z];rfl
theorem Jn {v d:Ab} (h:0 < d):∃g,0 < g/\v=BN v d*g/\d=BL v d*g:=by
 obtain ⟨g,g0,e1,e2,_⟩:=Q_ (t:=v) (b:=d) (by omega);have lb:=QY (t:=v) (b:=d) (by omega);refine ⟨g,?_,e1,e2⟩;rcases (by omega:0 < g\/g<=0) with h' | h'
 ·exact h'
 ·have:=VT (BH lb) h';omega
theorem Ni {t b:Ab} {n:Ae} (t0:0<=t) (b0:0 < b) (n1:1<=n) (g1:AW t b=1):0<=(BG (t,b) n).1/\0 < (BG (t,b) n).2/\AW (BG (t,b) n).1 (BG (t,b) n).2=1/\(BG (t,b) n).1*(b*n)=t*(BG (t,b) n).2:=by
 obtain ⟨tn,rfl⟩:=F8 t0;obtain ⟨bn,rfl⟩:=F8 (BH b0);have gp:0 < DJ tn n:=Nat.gcd_pos_of_pos_right _ n1
 have cop:II tn bn:=by
  have:((DJ tn bn:Ae):Ab)=1:=g1
  exact_mod_cast this
 obtain ⟨t',ht⟩:=Nat.gcd_dvd_left tn n;obtain ⟨n',hn⟩:=Wy tn n;have ht':tn / DJ tn n=t':=Wv gp ht;have hn':n / DJ tn n=n':=Wv gp hn
 have e:BG ((tn:Ab),(bn:Ab)) n=((t':Ab),((bn*n':Ae):Ab)):=by
  unfold BG;show (((tn:Ab).fdiv ((DJ tn n:Ae):Ab)),(bn:Ab)*((n:Ab).fdiv ((DJ tn n:Ae):Ab)))=_;rw [DH _ (IC _),DH _ (IC _)];show (((tn / DJ tn n:Ae):Ab),(bn:Ab)*((n / DJ tn n:Ae):Ab))=_;rw [ht',hn']
  push_cast
  rfl
 have n0:0 < n':=Nat.pos_of_ne_zero fun z=>by rw [z,Nat.mul_zero] at hn;omega
 have bp:0 < bn:=by omega
 rw [e];refine ⟨IC _,by have:=Nat.mul_pos bp n0;show (0:Ab) < ((bn*n':Ae):Ab);omega,?_,?_⟩
 ·have c1:II t' bn:=Nat.Coprime.coprime_dvd_left ⟨DJ tn n,by rw [Nat.mul_comm];exact ht⟩ cop;have c2:II t' n':=by rw [<- ht',<- hn'];exact Nat.coprime_div_gcd_div_gcd gp
  have:DJ t' (bn*n')=1:=Nat.Coprime.mul_right c1 c2;show ((DJ t' (bn*n'):Ae):Ab)=1;rw [this];rfl
 ·show (t':Ab)*((bn:Ab)*(n:Ab))=(tn:Ab)*((bn*n':Ae):Ab)
  have:t'*(bn*n)=tn*(bn*n'):=by
   generalize Nat.gcd tn n=g at ht hn;rw [hn,ht]
   ac_rfl
  exact_mod_cast this
noncomputable def Lay (k:Ae) (d:Ca):Prop:=d.canLay0=Af/\d.depth<=k
mutual
theorem Qp:∀d:Ca,d.canLay0=Af->FH d d=Af
 | .none,_=>rfl
 | .bool b,_=>by show (b == b)=Af;exact Kh b
 | .int i,_=>by show (i == i)=Af;exact Kh i
 | .str x,_=>by show (x == x)=Af;exact Kh x
 | .list xs,h=>eqv_mes xs h
 | .tuple xs,h=>eqv_mes xs h
 | .dict _,h=>nomatch h
theorem eqv_mes:∀xs:Ac Ca,IM xs=Af->Kd xs xs=Af
 | [],_=>rfl
 | x :: xs,h=>by
   have h':(PyData.canLay0 x && IM xs)=Af:=h;rw [Gb] at h';show (FH x x && Kd xs xs)=Af;rw [Qp x h'.1,eqv_mes xs h'.2];rfl
end
theorem Jj {k:Ae}:∀{xs:Ac Ca},(∀x∈xs,Lay k x)->IM xs=Af/\IN xs<=k
 | [],_=>⟨rfl,Br _⟩
 | x :: xs,h=>by
   obtain ⟨a,b⟩:=Jj (xs:=xs) fun y m=>h y (Bc _ m);obtain ⟨c,d⟩:=h x (AV ..);refine ⟨?_,?_⟩
   ·show (PyData.canLay0 x && IM xs)=Af;rw [a,c];rfl
   ·show max (PyData.depth x) (IN xs)<=k;omega
theorem Z4 {k:Ae} {xs:Ac Ca} (h:∀x∈xs,Lay k x):Lay (k+1) (.list xs):=⟨(Jj h).1,IK (Jj h).2⟩
theorem QQ {k:Ae} {xs:Ac Ca} (h:∀x∈xs,Lay k x):Lay (k+1) (.tuple xs):=⟨(Jj h).1,IK (Jj h).2⟩
theorem QO (k:Ae) (i:Ab):Lay k (.int i):=⟨rfl,Br _⟩
theorem QP {α:Type} {k:Ae} {f:α->Ca} (h:∀x,Lay k (f x)) (xs:Ac α):∀d∈xs.map f,Lay k d:=fun d m=>by
 obtain ⟨x,_,rfl⟩:=mem_map.mp m;exact h x
theorem lay_ints (k:Ae) (ns:Ac Ab):∀d∈ns.map PyData.int,Lay k d:=QP (fun i=>QO k i) ns
theorem Z6 {k:Ae} {a b:Ca} (ha:Lay k a) (hb:Lay k b):Lay (k+1) (.tuple [a,b]):=QQ fun x m=>by
 rcases mem_cons.mp m with rfl | m
 ·exact ha
 ·rw [mem_singleton.mp m];exact hb
theorem Lay.shaped {k:Ae} {d:Ca} (h:Lay k d) (k64:k<=64):Gj d=Af:=by
 unfold Gj;rw [h.1,AT (BE h.2 k64)];rfl
theorem Lay.eqv {k:Ae} {d:Ca} (h:Lay k d):FH d d=Af:=Qp d h.1
theorem Sw {α:Type} {K:A8} {H:Hp} {v:α->V} {d:α->Ca}:∀{xs:Ac α},(∀x∈xs,Rep K H (v x) (d x))->Reps K H (xs.map v) (xs.map d)
 | [],_=>.nil
 | x :: xs,h=>.cons (h x (AV ..)) (Sw fun y m=>h y (Bc _ m))
structure MS (m:Ae) (v:Ab × Ab):Prop where
 t0:0<=v.1
 b0:0 < v.2
 g:AW v.1 v.2=1
 szt:Sz m v.1
 szb:Sz m v.2
theorem ZL {a b c d:Ab} (b0:0 < b) (d0:0 < d) (a0:0<=a) (c0:0<=c) (g1:AW a b=1) (g2:AW c d=1) (e:a*d=c*b):a=c/\b=d:=by
 obtain ⟨a,rfl⟩:=F8 a0;obtain ⟨c,rfl⟩:=F8 c0;obtain ⟨b,rfl⟩:=F8 (BH b0);obtain ⟨d,rfl⟩:=F8 (BH d0);have c1:II a b:=by have:((DJ a b:Ae):Ab)=1:=g1;exact_mod_cast this
 have c2:II c d:=by have:((DJ c d:Ae):Ab)=1:=g2;exact_mod_cast this
 have e':a*d=c*b:=by exact_mod_cast e
 have k1:b ∣ d:=c1.symm.dvd_of_dvd_mul_left (by rw [e'];exact Ww _ _);have k2:d ∣ b:=c2.symm.dvd_of_dvd_mul_left (by rw [<- e'];exact Ww _ _);have bd:b=d:=Nat.dvd_antisymm k1 k2;subst bd;have:a=c:=Wx (by omega) e';exact ⟨by rw [this],rfl⟩
theorem Vx (D:Ab) (d0:0 < D):∀{zs:Wz},(∀z∈zs,0 < z.2.2/\0<=z.1/\0<=z.2.1)->0<=CO (fun b=>D.fdiv b) zs
 | [],_=>Dy _
 | z :: r,h=>by
   have ih:=Vx D d0 (zs:=r) fun x m=>h x (Bc _ m);obtain ⟨a,b,c⟩:=h z (AV ..);show 0<=(if z.2.1=0 then 0 else z.1*z.2.1*D.fdiv z.2.2)+CO (fun b=>D.fdiv b) r
   split
   ·omega
   ·have:0<=D.fdiv z.2.2:=by rw [DH D (BH a)];exact O3 (BH d0) (BH a)
    have:=Gd (Gd b c) this;omega
theorem KM {S D:Ab} (s0:0<=S) (D0:0 < D):0<=BN S D/\0 < BL S D/\AW (BN S D) (BL S D)=1:=by
 obtain ⟨g,g0,h1,h2⟩:=Jn (v:=S) D0;refine ⟨?_,QY (by omega),ZK (by omega)⟩;rcases (by omega:0<=BN S D\/BN S D < 0) with h | h
 ·exact h
 ·have:=O6 h g0;omega
abbrev Vs:=(Ab × Ab) × Ac (Ab × Ab)
noncomputable def shV (x:Sh):Vs:=(x.2.1.2,x.2.2.2.map (·.2))
section
variable {K:A8} {H:Hp}
end
theorem ZI {m:Ae} {t b:Ab} (t0:0<=t) (b0:0 < b) (szt:Sz m t) (szb:Sz m b):MS m (BN t b,BL t b):=by
 have e1:BN t b=t.fdiv (AW t b):=by unfold BN Dg;rw [Ao (by omega)]
 have e2:BL t b=b.fdiv (AW t b):=by unfold BL Dg;rw [Ao (by omega)]
 obtain ⟨k1,k2,k3⟩:=KM t0 b0;exact ⟨k1,k2,k3,by show Sz m (BN t b);rw [e1];exact szt.fdiv,by show Sz m (BL t b);rw [e2];exact szb.fdiv⟩
theorem Qx {fs:Ac Fq} {j:Ae} {f:Fq} (e:fs[j]?=Aa f):atI (fqv fs) (j:Ab)=Aa (.ref f.1):=HQ (by unfold fqv;rw [Ba,e];rfl)
section
variable {L:Ac Ad} {H J:Hp}
end
theorem AcJ (s:Ab) (ls:Ls) (xs:Ac Sh):FZ s ls xs=(ls.zip (xs.map shV)).map fun p=>G6 (B9 p.1.2.2.1 s) p.2.1 p.2.2:=by
 unfold FZ;rw [Mf,Bf];rfl
noncomputable def lnD (q:Ad × Ad × Ac Ab × Ab):Ca:=.tuple [.tuple (q.2.2.1.map .int),.int q.2.2.2]
theorem Z5 (q:Ad × Ad × Ac Ab × Ab):Lay 2 (lnD q):=Z6 (QQ (lay_ints 0 _)) (QO 1 _)
theorem Nt (ls:Ls):Lay 3 (.list (ls.map lnD)):=Z4 (QP Z5 ls)
theorem Sv {K:A8} {H:Hp} {ls:Ls} (g:By H ls):Reps K H (vls ls) (ls.map lnD):=Sw fun q m=>.tup (SqT.of (g q m).1) (.cons (.tup (SqT.of (g q m).2) (.ints _)) (.cons (.int _) .nil))
noncomputable def Q2 (v w:Ab × Ab):Prop:=v.1*w.2=w.1*v.2
noncomputable def L2' (v w:Ab × Ab):Prop:=v.1*w.2<=w.1*v.2
theorem Q2.low {a b:Ab} (b0:0 < b):Q2 (BN a b,BL a b) (a,b):=by
 obtain ⟨g,g0,e1,e2⟩:=Jn (v:=a) b0;show BN a b*b=a*BL a b;generalize BN a b=x at *;generalize BL a b=y at *;rw [e1,e2]
 ac_rfl
theorem L2'.trans {u v w:Ab × Ab} (v0:0 < v.2) (u0:0<=u.2) (w0:0<=w.2) (h:L2' u v) (k:L2' v w):L2' u w:=by
 unfold L2' at *;have a:=GF h w0;have b:=GF k u0
 have:u.1*w.2*v.2<=w.1*u.2*v.2:=by
  rw [show u.1*w.2*v.2=u.1*v.2*w.2 from by ac_rfl,show w.1*u.2*v.2=w.1*v.2*u.2 from by ac_rfl];refine Int.le_trans a ?_;rw [show v.1*u.2*w.2=v.1*w.2*u.2 from by ac_rfl];exact b
 exact LI this v0
theorem L2'.of {v w:Ab × Ab} (h:Q2 v w):L2' v w:=LH h
noncomputable def Eo (v:Ab × Ab) (q:Ab):Ab × Ab:=if q*v.2 < v.1*1 then (BN (q*v.2) (1*v.1),BL (q*v.2) (1*v.1)) else (1,1)
noncomputable def Cs (s p:Ab × Ab):Ab × Ab:=(BN (s.1*p.1) (s.2*p.2),BL (s.1*p.1) (s.2*p.2))
noncomputable def Fw (f g:Ab × Ab):Ab × Ab:=(BN (f.1*g.2 - g.1*f.2) (f.2*g.2),BL (f.1*g.2 - g.1*f.2) (f.2*g.2))
structure PB (m:Ae) (p:Ab × Ab):Prop where
 t0:0<=p.1
 b0:0 < p.2
 le:p.1<=p.2
 szt:Sz m p.1
 szb:Sz m p.2
inductive Lm (K:A8) (f g:Ab->Ab->Ab->Ab->Ab) (vs:Ac V) (H:Hp) (Q:VK) (E:XK):Prop
 | mk (p r:Ad) (t b u c:Ab):vs=[.ref p,.ref r]->H p=Aa (.tup [.int t,.int b])->H r=Aa (.tup [.int u,.int c])->g t b u c≠0->Sz 6600 t->Sz 6600 b->Sz 6600 u->Sz 6600 c->(∀(z:Ad) (H':Hp),Ax H H'->FqG H' (z,BN (f t b u c) (g t b u c),BL (f t b u c) (g t b u c))->Q (.ref z) H')->Lm K f g vs H Q E
inductive UC (vs:Ac V) (H:Hp) (Q:VK) (E:XK):Prop
 | mk (p r:Ad) (t b u c:Ab):vs=[.ref p,.ref r]->H p=Aa (.tup [.int t,.int b])->H r=Aa (.tup [.int u,.int c])->Sz 9000 t->Sz 9000 b->Sz 9000 u->Sz 9000 c->Q (.bl (decide (t*c < u*b))) H->UC vs H Q E
noncomputable def Acg:Sp:=fun vs H Q _=>∃m:Ab,vs=[.int m]/\0<=m/\m < 4096/\∀H':Hp,Ax H H'->Q (.int ((hands 12 (bit m)).length:Ae)) H'
noncomputable def DF (ts:Ac Ab) (s:Ab) (hd:Ae) (fr:Ab × Ab):Ab × Ab:=if bit (CF ts s) hd=Af then BG fr (B9 ts s).length else (0,1)
inductive Uy (m:Ae) (vs:Ac V) (H:Hp) (Q:VK) (E:XK):Prop
 | mk (sp:Ad) (h hd:Ae) (ts:Ac Ab) (fr:Fq) (s:Ab):vs=[.ref sp,.ref fr.1,.int s,.int (hd:Ab)]->H sp=Aa (.tup (ts.map V.int))->FqG H fr->FqB m fr->h<=12->hd < h->Jc h s ts->(∀(a:Ad) (H':Hp),Ax H H'->FqG H' (a,DF ts s hd fr.2)->Q (.ref a) H')->Uy m vs H Q E
inductive Ur (vs:Ac V) (H:Hp) (Q:VK) (E:XK):Prop
 | mk (f:Fq) (q:Ab):vs=[.ref f.1,.int q]->FqG H f->0 < f.2.2->1<=q->Sz 1900 q->Sz 6400 f.2.1->Sz 6400 f.2.2->(∀(a:Ad) (H':Hp),Ax H H'->FqG H' (a,Eo f.2 q)->Q (.ref a) H')->Ur vs H Q E
inductive UI (vs:Ac V) (H:Hp) (Q:VK) (E:XK):Prop
 | mk (kl:Ad) (hd:Ae) (ks:Ac Fq) (g:Fq):vs=[.ref kl,.int (hd:Ab),.ref g.1]->H kl=Aa (.lst (fqv ks))->(∀f∈ks,FqG H f)->FqG H g->hd < ks.length->ks.length<=12->(∀(l:Ad) (H':Hp),H l=Ai->Ax H H'->H' l=Aa (.lst (fqv (ks.set hd g)))->Q (.ref l) H')->UI vs H Q E
noncomputable def HY (hd:Ae) (sh part:Ab × Ab) (v:Vs):Vs:=(Fw v.1 (Cs sh part),v.2.set hd (Cs sh part))
noncomputable def DT (ls:Ls) (xs:Ac Sh) (s:Ab) (hd:Ae):Ac (Ab × Ab):=(ls.zip xs).map fun p=>DF p.1.2.2.1 s hd p.2.2.1.2
noncomputable def nk (f s:Ab × Ab):Ac (Ac Key):=[[AH f.1,AH f.2],[AH s.1,AH s.2]]
theorem Aal {f s g r:Ab × Ab} (e:nk f s=nk g r):f=g/\s=r:=by
 unfold nk at e;injection e with e1 e2
 injection e2 with e3 _
 injection e1 with a1 a2
 injection a2 with a3 _
 injection e3 with b1 b2
 injection b2 with b3 _
 exact ⟨FG (GS a1) (GS a3),FG (GS b1) (GS b3)⟩
theorem Aam {H:Hp} {a:Ad} {f s:Fq} (e:H a=Aa (.tup [.ref f.1,.ref s.1])) (gf:FqG H f) (gs:FqG H s):Ei H a (nk f.2 s.2):=⟨[f.1,s.1],e,.cons gf (.cons gs .nil)⟩
noncomputable def RIn (part:Ab × Ab) (J:Hp) (kvs:Ac (Ac (Ac Key) × V)):Prop:=∀k v,A' kvs k=Aa v->∃(f s:Ab × Ab) (t g r:Ad),k=nk f s/\v=.ref t/\J t=Aa (.tup [.ref g,.ref r])/\FqG J (g,Cs s part)/\FqG J (r,Fw f (Cs s part))
theorem RIn.tups {part:Ab × Ab} {J J':Hp} {kvs:Ac (Ac (Ac Key) × V)} (h:RIn part J kvs) (t:∀b xs,J b=Aa (.tup xs)->J' b=Aa (.tup xs)):RIn part J' kvs:=fun k v e=>by
 obtain ⟨f,s,t1,g,r,a1,a2,a3,a4,a5⟩:=h k v e;exact ⟨f,s,t1,g,r,a1,a2,t _ _ a3,t _ _ a4,t _ _ a5⟩
theorem RIn.same {part:Ab × Ab} {J J':Hp} {kvs:Ac (Ac (Ac Key) × V)} (h:RIn part J kvs) (t:Ax J J'):RIn part J' kvs:=h.tups fun b xs e=>t b _ e
theorem RIn.put {part f s:Ab × Ab} {J:Hp} {kvs:Ac (Ac (Ac Key) × V)} {t g r:Ad} (h:RIn part J kvs) (e:J t=Aa (.tup [.ref g,.ref r])) (eg:FqG J (g,Cs s part)) (er:FqG J (r,Fw f (Cs s part))):RIn part J (B6 kvs (nk f s) (.ref t)):=fun k v z=>by
 rw [Oe] at z
 split at z
 ·rename_i c
  exact ⟨f,s,t,g,r,c,(Bn z).symm,e,eg,er⟩
 ·exact h k v z
noncomputable def GY (d:Ad) (H J:Hp):Prop:=∀b u,H b=Aa u->b≠d->J b=Aa u
theorem GY.tup {d:Ad} {H J:Hp} {ob:A2} (o:GY d H J) (e:H d=Aa (hoF d ob)):∀b xs,H b=Aa (.tup xs)->J b=Aa (.tup xs):=fun b xs h=>o b _ h (Ce h e (fun z=>by cases z))
theorem GY.lst {d:Ad} {H J:Hp} {ob:A2} (o:GY d H J) (e:H d=Aa (hoF d ob)):∀b xs,H b=Aa (.lst xs)->J b=Aa (.lst xs):=fun b xs h=>o b _ h (Ce h e (fun z=>by cases z))
theorem GY.sh {d:Ad} {H J:Hp} {ob:A2} {x:Sh} (o:GY d H J) (e:H d=Aa (hoF d ob)) (g:ShG H x):ShG J x:=⟨o.tup e _ _ g.t,o.tup e _ _ g.f,o.lst e _ _ g.l,fun f m=>o.tup e _ _ (g.k f m)⟩
noncomputable def pr (r:Ap):Ab × Ab:=(r.num,(r.den:Ab))
noncomputable def vq (v:Ab × Ab):Ap:=(v.1:Ap) / (v.2:Ap)
theorem Cf (r:Ap):0 < (pr r).2:=by have:=r.den_pos;show (0:Ab) < (r.den:Ab);omega
theorem Lf (r:Ap):AW (pr r).1 (pr r).2=1:=by
 show ((Cw r.num (r.den:Ab):Ae):Ab)=1;have:Cw r.num (r.den:Ab)=1:=r.reduced;rw [this];rfl
theorem Ii {r:Ap} (h:0<=r):0<=(pr r).1:=Rat.num_nonneg.mpr h
theorem F4 (r:Ap):vq (pr r)=r:=by
 unfold vq pr;show ((r.num:Ab):Ap) / (((r.den:Ae):Ab):Ap)=r;rw [<- Pg];exact Xf r
theorem EY {v:Ab × Ab} (h:0 < v.2):(v.2:Ap)≠0:=by
 intro e;have:=Rat.intCast_inj.mp (show (v.2:Ap)=((0:Ab):Ap) from e);omega
theorem NN {v w:Ab × Ab} (v0:0 < v.2) (w0:0 < w.2):Q2 v w↔vq v=vq w:=by
 have a:=EY v0;have b:=EY w0;unfold Q2 vq
 constructor
 ·intro h
  have h':(v.1:Ap)*(w.2:Ap)=(w.1:Ap)*(v.2:Ap):=by
   rw [<- Cb,<- Cb,h]
  grind
 ·intro h;have h':(v.1:Ap)*(w.2:Ap)=(w.1:Ap)*(v.2:Ap):=by grind
  rw [<- Cb,<- Cb] at h';exact Rat.intCast_inj.mp h'
theorem Adf {v:Ab × Ab} (t0:0<=v.1) (b0:0 < v.2):0<=vq v:=by
 unfold vq;rw [<- Pg];exact Rat.divInt_nonneg t0 (BH b0)
theorem RQ {v:Ab × Ab} (t0:0<=v.1) (b0:0 < v.2) (g:AW v.1 v.2=1):v=pr (vq v):=by
 have e:Q2 v (pr (vq v)):=(NN b0 (Cf _)).mpr (F4 _).symm;obtain ⟨x,y⟩:=ZL b0 (Cf (vq v)) t0 (Ii (Adf t0 b0)) g (Lf _) e;exact FG x y
theorem KL {a b:Ab} (a0:0<=a) (b0:0 < b):(BN a b,BL a b)=pr ((a:Ap) / (b:Ap)):=by
 obtain ⟨k1,k2,k3⟩:=KM a0 b0;have e:=RQ (v:=(BN a b,BL a b)) k1 k2 k3;rw [e]
 congr 1
 exact (NN (v:=(BN a b,BL a b)) (w:=(a,b)) k2 b0).mp (Q2.low b0)
theorem Qq {r:Ap} {n:Ae} (r0:0<=r) (n1:1<=n):BG (pr r) n=pr (r / (n:Ap)):=by
 obtain ⟨e1,e2,e3,e4⟩:=Ni (t:=(pr r).1) (b:=(pr r).2) (Ii r0) (Cf r) n1 (Lf r);have e:=RQ (v:=BG (pr r) n) e1 e2 e3;rw [e]
 congr 1
 have hn:0 < (pr r).2*(n:Ab):=D1 (Cf r) (by omega);rw [(NN (v:=BG (pr r) n) (w:=((pr r).1,(pr r).2*(n:Ab))) e2 hn).mp e4];have hr:=F4 r;have hb:=EY (Cf r);unfold vq at hr ⊢;rw [Cb]
 have hn':((n:Ab):Ap)≠0:=by
  intro z;have:=Rat.intCast_inj.mp (show ((n:Ab):Ap)=((0:Ab):Ap) from z);omega
 have hc:((n:Ab):Ap)=(n:Ap):=rfl;rw [<- hc]
 grind
theorem RW {n:Ae} (h:1<=n):(n:Ap)≠0:=by
 intro z;have:=Rat.natCast_inj.mp (show (n:Ap)=((0:Ae):Ap) from z);omega
noncomputable def Bk (M:Ab) (r:Ap):Prop:=∃k:Ab,r*(M:Ap)=(k:Ap)
theorem Bk.dvd {M:Ab} {r:Ap} (h:Bk M r):(pr r).2 ∣ M:=by
 obtain ⟨k,e⟩:=h;have hr:=F4 r;have hb:=EY (Cf r);unfold vq at hr;have e2:((pr r).1:Ap)*(M:Ap)=(k:Ap)*((pr r).2:Ap):=by grind
 rw [<- Cb,<- Cb] at e2;have e3:(pr r).1*M=k*(pr r).2:=Rat.intCast_inj.mp e2;have c:Cw (pr r).2 (pr r).1=1:=by rw [Int.gcd_comm];exact r.reduced
 have:(pr r).2 ∣ (pr r).1*M:=⟨k,by rw [e3,GE]⟩;have n1:=Int.natAbs_dvd_natAbs.mpr this;rw [VU] at n1;exact Int.natAbs_dvd_natAbs.mp (Nat.Coprime.dvd_of_dvd_mul_left (show II (pr r).2.natAbs (pr r).1.natAbs from c) n1)
theorem Bk.sub {M:Ab} {r s:Ap} (h:Bk M r) (k:Bk M s):Bk M (r - s):=by
 obtain ⟨a,e⟩:=h;obtain ⟨b,f⟩:=k;exact ⟨a - b,by rw [Pi];grind⟩
theorem Bk.add {M:Ab} {r s:Ap} (h:Bk M r) (k:Bk M s):Bk M (r+s):=by
 obtain ⟨a,e⟩:=h;obtain ⟨b,f⟩:=k;exact ⟨a+b,by rw [GQ];grind⟩
theorem Bk.more {M:Ab} (n:Ab) {r:Ap} (h:Bk M r):Bk (M*n) r:=by
 obtain ⟨a,e⟩:=h;exact ⟨a*n,by rw [Cb,Cb];grind⟩
theorem Bk.div {M:Ab} {n:Ae} {c:Ab} {r:Ap} (h:Bk M r) (n1:1<=n):Bk (M*((n:Ab)*c)) (r / (n:Ap)):=by
 obtain ⟨a,e⟩:=h;have hn:=RW n1;refine ⟨a*c,?_⟩;rw [Cb,Cb,Cb,show (((n:Ae):Ab):Ap)=(n:Ap) from rfl]
 grind
theorem Bk.times {M:Ab} {r:Ap} (n:Ab) (h:Bk M r):Bk M ((n:Ap)*r):=by
 obtain ⟨a,e⟩:=h;exact ⟨n*a,by rw [Cb];grind⟩
theorem Bk.zero (M:Ab):Bk M 0:=⟨0,by rw [Rat.zero_mul];rfl⟩
theorem Bk.one (M:Ab):Bk M 1:=⟨M,Rat.one_mul _⟩
theorem Gw {b M:Ab} {m:Ae} (h:b ∣ M) (M0:0 < M) (z:Sz m M):Sz m b:=by
 obtain ⟨k,e⟩:=h;have hk:k≠0:=fun z=>by rw [z,O7] at e;omega
 have:b.natAbs<=M.natAbs:=by
  rw [e,VU];exact Nat.le_mul_of_pos_right _ (by omega)
 exact Dn this z
theorem Aci {c b M:Ab} (c0:0 < c) (b0:0 < b) (hc:c ∣ M) (hb:b ∣ M):DU c b ∣ M:=by
 unfold DU
 split
 ·have g0:(0:Ab) < AW c b:=by
   unfold AW;have:0 < Cw c b:=O4 _ (E_ c0)
   exact_mod_cast this
  have e:c*b.fdiv (AW c b)=((Mh c.natAbs b.natAbs:Ae):Ab):=by
   obtain ⟨cn,rfl⟩:=F8 (BH c0);obtain ⟨bn,rfl⟩:=F8 (BH b0);show (cn:Ab)*(bn:Ab).fdiv ((DJ cn bn:Ae):Ab)=((Mh cn bn:Ae):Ab);rw [DH _ (IC _)];show ((cn:Ae):Ab)*((bn / DJ cn bn:Ae):Ab)=_
   have:cn*(bn / DJ cn bn)=Mh cn bn:=by
    unfold Mh;rw [Nat.mul_div_assoc _ (Wy cn bn)]
   exact_mod_cast this
  rw [e];exact Int.ofNat_dvd_left.mpr (Nat.lcm_dvd (Int.natAbs_dvd_natAbs.mpr hc) (Int.natAbs_dvd_natAbs.mpr hb))
 ·exact hc
structure FqM (M:Ab) (v:Ab × Ab):Prop where
 t0:0<=v.1
 b0:0 < v.2
 le:v.1<=v.2
 dv:v.2 ∣ M
theorem FqM.szb {M:Ab} {v:Ab × Ab} {m:Ae} (h:FqM M v) (M0:0 < M) (z:Sz m M):Sz m v.2:=Gw h.dv M0 z
theorem FqM.szt {M:Ab} {v:Ab × Ab} {m:Ae} (h:FqM M v) (M0:0 < M) (z:Sz m M):Sz m v.1:=by
 have:=h.szb M0 z;have a:=h.t0;have b:=h.le;unfold Sz at *;omega
theorem FqM.fq {M:Ab} {f:Fq} {m:Ae} (h:FqM M f.2) (M0:0 < M) (z:Sz m M):FqB m f:=⟨h.b0,h.t0,h.szt M0 z,h.szb M0 z⟩
noncomputable def G4 (ls:Ls):Ab:=(ls.map fun q=>q.2.2.2).sum
theorem Vw (D:Ab) (d0:0 < D):∀{ls:Ls} {fs:Ac Fq},(∀q∈ls,0<=q.2.2.2)->(∀f∈fs,0<=f.2.1/\f.2.1<=f.2.2/\0 < f.2.2)->(∀z∈Cg ls fs,z.2.1≠0->z.2.2 ∣ D)->CO (fun b=>D.fdiv b) (Cg ls fs)<=G4 ls*D
 | [],fs,_,_,_=>by
   show (0:Ab)<=0*D;omega
 | q :: r,[],h,_,_=>by
   show (0:Ab)<=G4 (q :: r)*D
   have:0<=G4 (q :: r):=by
    unfold G4
    have:∀l:Ls,(∀q∈l,0<=q.2.2.2)->0<=(l.map fun q=>q.2.2.2).sum:=by
     intro l
     induction l with
     | nil=>intro _;exact Dy _
     | cons a b ih =>
       intro k;rw [Bg,D7];have:=k a (AV ..);have:=ih fun q m=>k q (Bc _ m);omega
    exact this _ h
   exact Gd this (BH d0)
 | q :: r,f :: fs,h,hf,hd=>by
   have ih:=Vw D d0 (ls:=r) (fs:=fs) (fun x m=>h x (Bc _ m)) (fun x m=>hf x (Bc _ m)) (fun z m=>hd z (Bc _ m));have n0:=h q (AV ..);obtain ⟨t0,tb,b0⟩:=hf f (AV ..);show (if f.2.1=0 then 0 else q.2.2.2*f.2.1*D.fdiv f.2.2)+CO (fun b=>D.fdiv b) (Cg r fs)<=(q.2.2.2+G4 r)*D;rw [LF]
   have:(if f.2.1=0 then 0 else q.2.2.2*f.2.1*D.fdiv f.2.2)<=q.2.2.2*D:=by
    split
    ·exact Gd n0 (BH d0)
    ·rename_i c
     obtain ⟨e,he⟩:=hd (q.2.2.2,f.2.1,f.2.2) (AV ..) c;have he':D=f.2.2*e:=he
     have de:D.fdiv f.2.2=e:=by
      rw [DH D (BH b0),he'];exact LK _ (E_ b0)
     have e0:0<=e:=by
      rcases (by omega:0<=e\/e < 0) with k | k
      ·exact k
      ·have:=VS b0 k;omega
     rw [de,he',LJ];exact JQ (GF tb e0) n0
   omega
structure WM (M:Ab) (ls:Ls) (fs:Ac Fq) (v:Ab × Ab):Prop where
 ex:∃D:Ab,0 < D/\(∀z∈Cg ls fs,z.2.1≠0->z.2.2 ∣ D)/\v=(BN (CO (fun b=>D.fdiv b) (Cg ls fs)) D,BL (CO (fun b=>D.fdiv b) (Cg ls fs)) D)
 dv:v.2 ∣ M
inductive TQ (vs:Ac V) (H:Hp) (Q:VK) (E:XK):Prop
 | mk (d:Ad) (ps:Ac (Ab × Ab)) (M:Ab):vs=[.ref d]->H d=Aa (.dK (CD ps))->(∀q∈ps,0 < q.1/\q.1 ∣ M)->0 < M->Sz 4500 M->ps.length<=60->(∀(D:Ab) (H':Hp),Ax H H'->0 < D->(∀q∈ps,q.1 ∣ D)->D ∣ M->Q (.int D) H')->TQ vs H Q E
inductive UF (vs:Ac V) (H:Hp) (Q:VK) (E:XK):Prop
 | mk (l sl:Ad) (ls:Ls) (fs:Ac Fq) (M:Ab):vs=[.ref l,.ref sl]->H l=Aa (.lst (vls ls))->By H ls->H sl=Aa (.lst (fqv fs))->(∀f∈fs,FqG H f/\FqM M f.2)->0 < M->Sz 4500 M->ls.length=fs.length->ls.length<=60->(∀q∈ls,0<=q.2.2.2/\Sz 64 q.2.2.2)->(∀(T:Ad) (v:Ab × Ab) (H':Hp),Ax H H'->WM M ls fs v->FqG H' (T,v)->Q (.ref T) H')->UF vs H Q E
inductive U7 (vs:Ac V) (H:Hp) (Q:VK) (E:XK):Prop
 | mk (l rl:Ad) (h:Ae) (ls:Ls) (rs:Ac Rw) (M:Ab):vs=[.ref l,.ref rl,.int (h:Ab)]->H l=Aa (.lst (vls ls))->By H ls->H rl=Aa (.lst (rwv rs))->(∀x∈rs,RwG H x/\x.2.length=h+1/\∀f∈x.2,FqM M f.2)->0 < M->Sz 4500 M->ls.length=rs.length->ls.length<=60->h<=12->(∀q∈ls,0<=q.2.2.2/\Sz 64 q.2.2.2)->(∀(a:Ad) (fs:Ac Fq) (H':Hp),H a=Ai->Ax H H'->H' a=Aa (.lst (fqv fs))->(∀f∈fs,FqG H' f)->fs.length=h+1->(∀j f,fs[j]?=Aa f->WM M ls (Dt rs j) f.2)->Q (.ref a) H')->U7 vs H Q E
noncomputable def G9 (ts:Ac Ab) (s:Ab) (hd:Ae) (r:Ap):Ap:=if bit (CF ts s) hd=Af then r / ((B9 ts s).length:Ap) else 0
noncomputable def Fp (t:Ap) (q:Ab):Ap:=if (q:Ap) < t then (q:Ap) / t else 1
abbrev Sr:=Ap × Ac Ap
noncomputable def C2 (x:Sr):Vs:=(pr x.1,x.2.map pr)
noncomputable def Ji (hd:Ae) (sh part:Ap) (x:Sr):Sr:=(x.1 - sh*part,x.2.set hd (sh*part))
inductive Uc (vs:Ac V) (H:Hp) (Q:VK) (E:XK):Prop
 | mk (l st:Ad) (h hd:Ae) (ls:Ls) (xs:Ac Sh) (s q M:Ab):vs=[.ref l,.ref st,.int s,.int (hd:Ab),.int q]->H l=Aa (.lst (vls ls))->By H ls->H st=Aa (.lst (shv xs))->(∀x∈xs,ShG H x/\FqM M x.2.1.2/\AW x.2.1.2.1 x.2.1.2.2=1/\x.2.2.2.length=h)->0 < M->Sz 2210 M->ls.length=xs.length->ls.length<=60->h<=12->hd < h->1<=q->Sz 64 q->(∀p∈ls,Jc h s p.2.2.1/\0<=p.2.2.2/\Sz 64 p.2.2.2)->(∀(a:Ad) (ys:Ac Sh) (fs:Ac Fq) (v:Ab × Ab) (H':Hp),H a=Ai->Ax H H'->H' a=Aa (.lst (shv ys))->(∀y∈ys,ShG H' y/\H y.2.2.1=Ai/\y.2.2.1≠a)->(ys.map fun y=>y.2.2.1).Nodup->fs.map (·.2)=DT ls xs s hd->WM (M*27720) ls fs v->ys.map shV=(xs.zip (DT ls xs s hd)).map (fun p=>HY hd p.2 (Eo v q) (shV p.1))->Q (.ref a) H')->Uc vs H Q E
theorem N3 {n:Ae} (h1:1<=n) (h2:n<=12):∃c:Ab,(27720:Ab)=(n:Ab)*c:=by
 have k:∀n:Fin 12,(27720:Ab)=((n.1+1:Ae):Ab)*(27720 / ((n.1+1:Ae):Ab)):=by decide
 have e:n - 1+1=n:=Nat.sub_add_cancel h1;have:=k ⟨n - 1,by omega⟩;rw [e] at this;exact ⟨_,this⟩
theorem YH {M:Ab} {f:Ab × Ab} {n:Ae} (n1:1<=n) (n12:n<=12) (fm:FqM M f) (g:AW f.1 f.2=1):FqM (M*27720) (BG f n)/\AW (BG f n).1 (BG f n).2=1:=by
 obtain ⟨e1,e2,e3,e4⟩:=Ni (t:=f.1) (b:=f.2) fm.t0 fm.b0 n1 g;have e1':0<=(BG f n).1:=e1;have e2':0 < (BG f n).2:=e2;have e4':(BG f n).1*(f.2*n)=f.1*(BG f n).2:=e4;refine ⟨⟨e1,e2,?_,?_⟩,e3⟩
 ·have k1:(BG f n).1*(f.2*n)<=(BG f n).2*(f.2*n):=by
   rw [e4',GE];refine JQ ?_ (BH e2');have:=JQ (show (1:Ab)<=n by omega) (BH fm.b0);have:=fm.le;omega
  exact LI k1 (D1 fm.b0 (by omega))
 ·obtain ⟨c,hc⟩:=N3 n1 n12;rw [hc];show f.2*(n:Ab).fdiv (AW f.1 n) ∣ M*((n:Ab)*c);refine Int.mul_dvd_mul fm.dv ?_;refine O2 ?_ ⟨c,rfl⟩;obtain ⟨d,hd⟩:AW f.1 n ∣ (n:Ab):=LG ..
  have g0:(0:Ab) < AW f.1 n:=by
   unfold AW;have:0 < Cw f.1 (n:Ab):=VQ _ (by omega);omega
  generalize AW f.1 n=gg at *;refine ⟨gg,?_⟩
  have:(n:Ab).fdiv gg=d:=by
   rw [DH _ (BH g0),hd];exact LK _ (E_ g0)
  rw [this,GE];exact hd
theorem T4 {M:Ab} {ts:Ac Ab} {s:Ab} {hd:Ae} {fr:Ab × Ab} (hd12:hd < 12) (M0:0 < M) (fm:FqM M fr) (g:AW fr.1 fr.2=1):FqM (M*27720) (DF ts s hd fr)/\AW (DF ts s hd fr).1 (DF ts s hd fr).2=1/\L2' (DF ts s hd fr) fr:=by
 unfold DF
 split
 ·rename_i c
  have n12:(B9 ts s).length<=12:=FP ..;have n1:1<=(B9 ts s).length:=IF (E7.mpr ⟨hd,hd12,c,rfl⟩:((hd:Ae):Ab)∈B9 ts s);generalize (B9 ts s).length=n at n1 n12 ⊢;obtain ⟨a,b⟩:=YH n1 n12 fm g;obtain ⟨e1,e2,e3,e4⟩:=Ni (t:=fr.1) (b:=fr.2) fm.t0 fm.b0 n1 g;refine ⟨a,b,?_⟩;have e5:(BG fr n).1*(fr.2*n)=fr.1*(BG fr n).2:=e4;show (BG fr n).1*fr.2<=fr.1*(BG fr n).2;rw [<- e5,<- LJ];have k:0<=(BG fr n).1*fr.2:=Gd e1 (BH fm.b0);have:=JQ (show (1:Ab)<=n by omega) k;omega
 ·refine ⟨⟨by decide,by decide,by decide,Int.one_dvd _⟩,rfl,?_⟩;show (0:Ab)*fr.2<=fr.1*1;have:=fm.t0;omega
theorem AaC {v:Ab × Ab} {q:Ab} {m n:Ae} (b0:0 < v.2) (q1:1<=q) (szt:Sz m v.1):PB (m+1) (Eo v q):=by
 unfold Eo
 split
 ·rename_i c
  rw [EF] at c;have qv:0 < q*v.2:=D1 (by omega) b0;have v0:0 < 1*v.1:=by omega
  obtain ⟨k1,k2,k3⟩:=KM (S:=q*v.2) (D:=1*v.1) (by omega) v0;obtain ⟨g,g0,e1,e2⟩:=Jn (v:=q*v.2) v0
  have le:BN (q*v.2) (1*v.1)<=BL (q*v.2) (1*v.1):=by
   refine LI ?_ g0;rw [<- e1,<- e2];omega
  have zb:Sz m (BL (q*v.2) (1*v.1)):=Gw (M:=v.1) ⟨g,by rw [<- e2];omega⟩ (by omega) szt;refine ⟨k1,k2,le,?_,zb.mono (by omega)⟩;refine Sz.mono (m:=m) ?_ (by omega);unfold Sz at *;show (BN (q*v.2) (1*v.1)).natAbs < _;omega
 ·exact ⟨by decide,by decide,by decide,(B_ (by decide) (by decide):Sz 1 (1:Ab)).mono (by omega),(B_ (by decide) (by decide):Sz 1 (1:Ab)).mono (by omega)⟩
theorem YV {a b:Ae} {s p:Ab × Ab} (s0:0<=s.1) (b0:0 < s.2) (z1:Sz a s.1) (z2:Sz a s.2) (pr:PB b p):MS (a+b) (Cs s p)/\L2' (Cs s p) s:=by
 have bb:=D1 b0 pr.b0;have lo:MS (a+b) (Cs s p):=ZI (Gd s0 pr.t0) bb (z1.mul pr.szt) (z2.mul pr.szb);refine ⟨lo,?_⟩;refine L2'.trans (v:=(s.1*p.1,s.2*p.2)) bb (BH lo.b0) (BH b0) (L2'.of (Q2.low bb)) ?_;show s.1*p.1*s.2<=s.1*(s.2*p.2);rw [show s.1*p.1*s.2=s.1*s.2*p.1 from by ac_rfl,<- LJ];exact JQ pr.le (Gd s0 (BH b0))
theorem Vu {M:Ab} {ls:Ls} {fs:Ac Fq} {v:Ab × Ab} {m:Ae} (w:WM M ls fs v) (M0:0 < M) (Mz:Sz m M) (hn:∀q∈ls,0<=q.2.2.2/\Sz 64 q.2.2.2) (hf:∀f∈fs,FqM M f.2) (l60:ls.length<=60):0<=v.1/\0 < v.2/\AW v.1 v.2=1/\Sz m v.2/\v.1<=G4 ls*v.2/\Sz (m+124) v.1:=by
 obtain ⟨⟨D,D0,Dd,e⟩,dv⟩:=w
 have nn:=Vx D D0 (zs:=Cg ls fs) (fun z zm=>by
  obtain ⟨p,pm,rfl⟩:=mem_map.mp zm;obtain ⟨a,b⟩:=Fd pm;exact ⟨(hf _ b).b0,(hn _ a).1,(hf _ b).t0⟩)
 have le:=Vw D D0 (ls:=ls) (fs:=fs) (fun q m=>(hn q m).1) (fun f m=>⟨(hf f m).t0,(hf f m).le,(hf f m).b0⟩) Dd;generalize CO (fun b=>D.fdiv b) (Cg ls fs)=Z at *;obtain ⟨k1,k2,k3⟩:=KM nn D0;obtain ⟨g,g0,e1,e2⟩:=Jn (v:=Z) D0;subst e
 have vb:BN Z D<=G4 ls*BL Z D:=by
  refine LI ?_ g0;rw [LJ,<- e1,<- e2];exact le
 have zb:Sz m (BL Z D):=Gw dv M0 Mz
 have nz:Sz 124 (G4 ls):=(N' (n:=64) fun x m=>by
  obtain ⟨q,qm,rfl⟩:=mem_map.mp m;exact (hn q qm).2).mono (by rw [At];omega)
 refine ⟨k1,k2,k3,zb,vb,?_⟩;have:=(nz.mul zb).mono (show 124+m<=m+124 by omega);unfold Sz at *;show (BN Z D).natAbs < _;generalize 2 ^ (m+124)=X at *;omega
noncomputable def off (H:Hp) (D:Ad):Hp:=fun b=>if b=D then Ai else H b
theorem Ia (H:Hp) (D:Ad):Ax (off H D) H:=fun b o e=>by
 unfold off at e
 split at e
 ·cases e
 ·exact e
theorem Du {H:Hp} {D b:Ad} {o:HO} (e:H b=Aa o) (n:b≠D):off H D b=Aa o:=by
 unfold off;rw [Ao n];exact e
theorem Ru {H:Hp} {D:Ad}:off H D D=Ai:=by unfold off;rw [Ar rfl]
theorem ET {H H':Hp} {D:Ad} {o:HO} (s:Ax (off H D) H'):Ax (off H D) (upd H' D o):=fun b u e=>by
 rw [AF (fun z=>by rw [z,Ru] at e;cases e)];exact s _ _ e
theorem Ib {H0 H:Hp} {D:Ad} (s:Ax H0 H) (n:H0 D=Ai):Ax H0 (off H D):=fun b o e=>Du (s _ _ e) fun z=>by rw [z,n] at e;cases e
theorem Jq {H:Hp} {D:Ad} {o:HO}:off (upd H D o) D=off H D:=funext fun b=>by
 unfold off;by_cases c:b=D
 ·rw [Ar c,Ar c]
 ·rw [Ao c,Ao c,AF c]
theorem AaX {x0 x1:Ab} (P:Ab->Prop) (m:Ab) (h0:0<=m) (h2:m < 2) (p0:P x0) (p1:P x1):∃v,atI [V.int x0,V.int x1] m=Aa (.int v)/\P v:=by
 rcases (by omega:m=0\/m=1) with rfl | rfl
 ·exact ⟨x0,rfl,p0⟩
 ·exact ⟨x1,rfl,p1⟩
noncomputable def ups (n:Ae):Ac Ab:=(Bo n).map fun i:Ae=>(i:Ab)
theorem Ac' (n:Ae):(ups n).Pairwise (·<=·):=pairwise_map.mpr (pairwise_lt_range.imp fun h=>by omega)
theorem Ada (n:Ae):(ups n).map V.int=(Bo n).map fun i:Ae=>V.int (i:Ab):=by unfold ups;rw [Bf];rfl
theorem Vi (n:Ae):(ups n).length=n:=by unfold ups;rw [At,D6]
theorem Ac_ {ms ns:Ac Ab} {n:Ae} (p:ms.Perm ns) (s:ms.Pairwise (·<=·)) (h:ns.Perm (ups n)):ms=ups n:=(p.trans h).eq_of_pairwise (fun a b _ _ x y=>Int.le_antisymm x y) s (Ac' n)
noncomputable def Acb:Sp:=fun vs H Q _=>∃n:Ab,vs=[.int n]/\1<=n/\n<=12/\Q (.bl Af) H
noncomputable def Acf:Sp:=fun vs H Q _=>∃n:Ab,vs=[.int n]/\1<=n/\n<=60/\Q (.bl Af) H
noncomputable def Acd (K:A8):Sp:=fun vs H Q _=>∃(l:Ad) (ns:Ac Ab) (n:Ae),vs=[.ref l,.int (n:Ab)]/\H l=Aa (.lst (ns.map V.int))/\ns.Perm (ups n)/\n<=12/\∀H':Hp,Ax H H'->Q (.bl Af) H'
abbrev fsW (h s:Ab) (l:Ad):Ac (Ak × V):=[("hands",.int h),("seats",.int s),("lots",.ref l)]
theorem Abh (x:V):Bz "hands" x []=([("hands",x)]:Ac (Ak × V)):=rfl
theorem Abi (x y:V):Bz "seats" y [("hands",x)]=([("hands",x),("seats",y)]:Ac (Ak × V)):=by
 unfold Bz;rw [Ao (by decide)];rfl
theorem Abj (x y z:V):Bz "lots" z [("hands",x),("seats",y)]=([("hands",x),("seats",y),("lots",z)]:Ac (Ak × V)):=by
 unfold Bz;rw [Ao (by decide)];unfold Bz;rw [Ao (by decide)];rfl
inductive UE (K:A8) (vs:Ac V) (H:Hp) (Q:VK) (E:XK):Prop
 | mk (a C dx l:Ad) (h s:Ab) (ns:Ac Ab):vs=[.ref a,.int h,.int s,.ref l]->H a=Aa (.ins C dx [])->Cls K C->Cc K C "hands"->Cc K C "seats"->Cc K C "lots"->1<=h->h<=12->1<=s->s<=60->H l=Aa (.lst (ns.map V.int))->ns.Perm (ups h.toNat)->(∀(l':Ad) (H':Hp),l'≠a->H l'=Ai->Ax (off H a) H'->H' a=Aa (.ins C dx (fsW h s l'))->H' l'=Aa (.lst (ns.map V.int))->Q .non H')->UE K vs H Q E
theorem JJ {n:Ae} {x:Ab}:x∈ups n↔0<=x/\x < n:=by
 unfold ups;rw [mem_map]
 constructor
 ·rintro ⟨i,m,rfl⟩;have:=mem_range.mp m;omega
 ·rintro ⟨h0,h1⟩;exact ⟨x.toNat,mem_range.mpr (by omega),by omega⟩
theorem AcZ (n:Ae):(ups n).Nodup:=by
 unfold ups;rw [nodup_iff_pairwise_ne,Md];exact nodup_range.imp fun h e=>h (by omega)
theorem M_ {m:Ab} (h:0<=m) (i:Ae):bit m i=m.toNat.testBit i:=by
 obtain ⟨n,rfl⟩:∃n:Ae,m=(n:Ab):=⟨m.toNat,by omega⟩;rw [B7,W7];unfold bit
 congr 1
 apply propext
 constructor
 ·intro z;have:((n / 2 ^ i % 2:Ae):Ab)=1:=by push_cast;exact z
  omega
 ·intro z;have:((n / 2 ^ i % 2:Ae):Ab)=1:=by rw [z];rfl
  push_cast at this
  exact this
theorem AcL {x h j:Ae} (c:x.testBit h=Aq):(2 ^ h+x).testBit j=(x.testBit j || decide (j=h)):=by
 rcases Nat.lt_trichotomy j h with l | l | l
 ·rw [Nat.testBit_two_pow_add_gt l,AS (by omega),Ov]
 ·rw [l,W8,c,AT rfl];rfl
 ·rw [AS (by omega),Ov]
  have q:(2 ^ h+x) / 2 ^ (h+1)=x / 2 ^ (h+1):=by
   rw [W7] at c;have c:=HL c;have p:0 < 2 ^ h:=Nat.two_pow_pos h;rw [Nat.pow_succ,<- Wu,<- Wu,Nat.add_div_left _ p];omega
  have d:∀y:Ae,y.testBit j=(y / 2 ^ (h+1)).testBit (j - (h+1)):=fun y=>by
   rw [Nat.testBit_div_two_pow]
   congr 1
   omega
  rw [d,d x,q]
theorem Yd {m:Ab} (h0:0<=m) (h j:Ae):0<=m - 2 ^ h*(if bit m h=Af then 1 else 0)/\bit (m - 2 ^ h*(if bit m h=Af then 1 else 0)) j=(bit m j && decide (j≠h)):=by
 by_cases c:bit m h=Af
 ·rw [Ar c,EF];obtain ⟨n,rfl⟩:∃n:Ae,m=(n:Ab):=⟨m.toNat,by omega⟩;have ct:=c;rw [M_ h0,B7] at ct;have le:2 ^ h<=n:=Nat.ge_two_pow_of_testBit ct;obtain ⟨x,rfl⟩:∃x,n=2 ^ h+x:=⟨n - 2 ^ h,by omega⟩
  have cx:x.testBit h=Aq:=by
   rw [W8] at ct;simpa using ct
  have e:((2 ^ h+x:Ae):Ab) - 2 ^ h=(x:Ab):=by push_cast;omega
  rw [e];refine ⟨by omega,?_⟩;rw [M_ (by omega),M_ (by omega),B7,B7,AcL cx];by_cases z:j=h
  ·subst z;rw [cx];simp
  ·simp [z]
 ·rw [Ao c,O7,Int.sub_zero];refine ⟨h0,?_⟩;by_cases z:j=h
  ·subst z;simp at c;rw [c];rfl
  ·simp [z]
noncomputable def IsS (C:Ad) (H:Hp) (a:Ad) (h s:Ab) (xs:Ac Ab):Prop:=∃dx l,H a=Aa (.ins C dx (fsW h s l))/\H l=Aa (.lst (xs.map V.int))
theorem IsS.same {C:Ad} {H H':Hp} {a:Ad} {h s:Ab} {xs:Ac Ab} (e:Ax H H') (k:IsS C H a h s xs):IsS C H' a h s xs:=by
 obtain ⟨dx,l,k1,k2⟩:=k;exact ⟨dx,l,e _ _ k1,e _ _ k2⟩
inductive Uu (C:Ad) (vs:Ac V) (H:Hp) (Q:VK) (E:XK):Prop
 | mk (a:Ad) (h s:Ab) (xs:Ac Ab) (n:Ab):vs=[.ref a,.int n]->IsS C H a h s xs->1<=s->s<=6->Q (.int (n.fdiv (s+1)+1)) H->Uu C vs H Q E
inductive Ux (K:A8) (vs:Ac V) (H:Hp) (Q:VK) (E:XK):Prop
 | mk (a C dx l:Ad) (h s:Ab) (ns:Ac Ab):vs=[.ref a,.int h,.int s,.ref l]->H a=Aa (.ins C dx [])->Cls K C->Cc K C "hands"->Cc K C "seats"->Cc K C "lots"->1<=h->h<=12->1<=s->s<=6->H l=Aa (.lst (ns.map V.int))->ns.Perm (ups h.toNat)->(∀(l':Ad) (H':Hp),Ax (off H a) H'->H' a=Aa (.ins C dx (fsW h s l'))->H' l'=Aa (.lst (ns.map V.int))->Q .non H')->Ux K vs H Q E
inductive Dd
 | seat (h:Ae)
 | out (h:Ae)
 | rest
 | fin
 deriving F6
noncomputable def Dd.word:Dd->Ak
 | .seat _=>"seat"
 | .out _=>"out"
 | .rest=>"rest"
 | .fin=>"end"
noncomputable def Dd.who:Dd->V
 | .seat h=>.int (h:Ab)
 | .out h=>.int (h:Ab)
 | .rest=>.non
 | .fin=>.non
noncomputable def at0 (su:Ac Ap) (x:Ab):Ap:=su.getD x.toNat 0
noncomputable def BR (xs:Ac Ab) (m:Ab):Ac Ab:=xs.filter fun x=>bit m x.toNat
noncomputable def DA (su:Ac Ap) (zs:Ac Ab):Ab:=zs.foldl (fun b x=>if at0 su b < at0 su x then x else b) (zs.getD 0 0)
noncomputable def EZ (su:Ac Ap) (zs:Ac Ab):Ab:=zs.foldl (fun b x=>if at0 su b < at0 su x then b else x) (zs.getD 0 0)
noncomputable def Dh (xs:Ac Ab) (su:Ac Ap) (m:Ab) (pl:Ae) (q:Ab):Dd :=
 if (hands 12 (bit m)).length<=pl then .rest else if pl=0 then .fin else
  if at0 su (DA su (BR xs m)) < (q:Ap) then .out (EZ su (BR xs m)).toNat else .seat (DA su (BR xs m)).toNat
abbrev Lq:=Ac (Ac Ab × Ab)
noncomputable def Hk (wh:Ac Ab) (x:Sr):Ac Ap:=if wh=[] then x.2++[x.1] else wh.foldl (fun r y=>r.set y.toNat (x.1 / (wh.length:Ap))) (x.2++[0])
noncomputable def BZ (ds:Lq) (st:Ac Sr) (m:Ab):Ac (Ac Ap):=(ds.zip st).map fun p=>Hk (B9 p.1.1 m) p.2
noncomputable def BU (ds:Lq) (rs:Ac Ap):Ap:=((ds.zip rs).map fun p=>(p.1.2:Ap)*p.2).sum
noncomputable def Et (ds:Lq) (rows:Ac (Ac Ap)) (h:Ae):Ac Ap:=(Bo (h+1)).map fun j=>BU ds (rows.map fun r=>r.getD j 0)
noncomputable def CH (ds:Lq) (st:Ac Sr) (m:Ab) (hd:Ae):Ac Ap:=(ds.zip st).map fun p=>G9 p.1.1 m hd p.2.1
noncomputable def En (ds:Lq) (st:Ac Sr) (m:Ab) (hd:Ae) (q:Ab):Ac Sr:=(st.zip (CH ds st m hd)).map fun p=>Ji hd p.2 (Fp (BU ds (CH ds st m hd)) q) p.1
noncomputable def Yb (ds:Lq) (st:Ac Sr) (m:Ab) (q:Ab):Dd->Ac Sr
 | .seat hd=>En ds st m hd q
 | _=>st
abbrev Rnd:=Ac (Ac Ap) × Ac Ap × Dd
noncomputable def DE (ds:Lq) (h:Ae) (xs:Ac Ab) (q:Ab) (st:Ac Sr) (m:Ab) (pl:Ae):Rnd :=
 (BZ ds st m,Et ds (BZ ds st m) h,Dh xs (Et ds (BZ ds st m) h) m pl q)
noncomputable def Dx (ds:Lq) (h:Ae) (xs:Ac Ab) (q:Ab):Ae->Ac Sr->Ab->Ae->Ac Rnd
 | 0,_,_,_=>[]
 | n+1,st,m,pl=>DE ds h xs q st m pl :: match (DE ds h xs q st m pl).2.2 with
   | .seat hd=>Dx ds h xs q n (En ds st m hd q) (m - 2 ^ hd) (pl - 1)
   | .out hd=>Dx ds h xs q n st (m - 2 ^ hd) pl
   | _=>[]
noncomputable def CA (n h:Ae):Ac Sr:=Cy n (1,Cy h 0)
noncomputable def AZ (ds:Lq):Ab:=(ds.map (·.2)).sum
noncomputable def E6 (ds:Lq) (h:Ae) (xs:Ac Ab) (s:Ae):Ac Rnd:=Dx ds h xs ((AZ ds).fdiv ((s:Ab)+1)+1) (h+1) (CA ds.length h) (2 ^ h - 1) s
theorem KO (r s:Ap):((pr r).1*(pr s).2 < (pr s).1*(pr r).2)↔r < s:=by
 unfold pr;exact (Rat.lt_iff r s).symm
theorem Z7 {r:Ap} (h:r<=1):(pr r).1<=(pr r).2:=by
 have:=(Pj r 1).mp h;show r.num<=(r.den:Ab);have e1:(1:Ap).num=1:=rfl;have e2:(1:Ap).den=1:=rfl;rw [e1,e2] at this;simpa using this
theorem Aa':pr 0=(0,1):=rfl
theorem Aa_:pr 1=(1,1):=rfl
theorem AaB {t:Ap} {q:Ab} (t0:0<=t) (q1:1<=q):Eo (pr t) q=pr (Fp t q):=by
 unfold Eo Fp;have key:(q*(pr t).2 < (pr t).1*1)↔(q:Ap) < t:=KO (q:Ap) t;by_cases c:(q:Ap) < t
 ·rw [Ar c,Ar (key.mpr c)];have b0:=Cf t;have k:=key.mpr c;have qb:0 < q*(pr t).2:=D1 (by omega) b0;rw [KL (by omega) (by omega)]
  congr 1
  have hr:=F4 t;have hb:=EY b0
  have hq:((pr t).1:Ap)≠0:=by
   intro z;have:=Rat.intCast_inj.mp (show (((pr t).1:Ab):Ap)=((0:Ab):Ap) from z);omega
  unfold vq at hr;rw [Cb,Cb,show ((1:Ab):Ap)=1 from rfl]
  grind
 ·rw [Ao c,Ao (fun z=>c (key.mp z)),Aa_]
theorem YW {s p:Ap} (s0:0<=s) (p0:0<=p):Cs (pr s) (pr p)=pr (s*p):=by
 unfold Cs;rw [KL (Gd (Ii s0) (Ii p0)) (D1 (Cf s) (Cf p))]
 congr 1
 have h1:=F4 s;have h2:=F4 p;have b1:=EY (Cf s);have b2:=EY (Cf p);unfold vq at h1 h2;rw [Cb,Cb]
 grind
theorem AbA {f g:Ap} (h:g<=f):Fw (pr f) (pr g)=pr (f - g):=by
 unfold Fw;have le:=(Pj g f).mp h;have le':(pr g).1*(pr f).2<=(pr f).1*(pr g).2:=le;rw [KL (by omega) (D1 (Cf f) (Cf g))]
 congr 1
 have h1:=F4 f;have h2:=F4 g;have b1:=EY (Cf f);have b2:=EY (Cf g);unfold vq at h1 h2;rw [Pi,Cb,Cb,Cb]
 grind
theorem AbT {ts:Ac Ab} {s:Ab} {hd:Ae} {r:Ap} (r0:0<=r) (hd12:hd < 12):DF ts s hd (pr r)=pr (G9 ts s hd r):=by
 unfold DF G9;by_cases c:bit (CF ts s) hd=Af
 ·rw [Ar c,Ar c];exact Qq r0 (IF (E7.mpr ⟨hd,hd12,c,rfl⟩:((hd:Ae):Ab)∈B9 ts s))
 ·rw [Ao c,Ao c,Aa']
theorem Qj {r:Ap} {n:Ae} (r0:0<=r) (n1:1<=n):0<=r / (n:Ap)/\r / (n:Ap)<=r:=by
 have hn:(1:Ap)<=(n:Ap):=by
  have:=Rat.natCast_le_natCast.mpr n1;exact this
 constructor
 ·rw [Ph];exact HG r0 (IP (Rat.inv_pos.mpr (by grind)))
 ·rcases (Pk:r / (n:Ap)<=r\/r<=r / (n:Ap)) with h | h
  ·exact h
  ·have e:r / (n:Ap)*(n:Ap)=r:=Xc (RW n1);have k:=Xe hn (show 0<=r / (n:Ap) by grind)
   grind
theorem Ik {ts:Ac Ab} {s:Ab} {hd:Ae} {r:Ap} (r0:0<=r) (hd12:hd < 12):0<=G9 ts s hd r/\G9 ts s hd r<=r:=by
 unfold G9
 split
 ·rename_i c
  exact Qj r0 (IF (E7.mpr ⟨hd,hd12,c,rfl⟩:((hd:Ae):Ab)∈B9 ts s))
 ·exact ⟨DL,r0⟩
theorem RD {t:Ap} {q:Ab} (q1:1<=q):0<=Fp t q/\Fp t q<=1:=by
 have hq:(1:Ap)<=(q:Ap):=by
  have:=Rat.intCast_le_intCast.mpr q1;exact this
 unfold Fp
 split
 ·rename_i c
  have t0:(0:Ap) < t:=by grind
  have e:(q:Ap) / t*t=(q:Ap):=Xc (by grind)
  constructor
  ·rw [Ph];exact HG (by grind) (IP (Rat.inv_pos.mpr t0))
  ·rcases (Pk:(q:Ap) / t<=1\/1<=(q:Ap) / t) with h | h
   ·exact h
   ·have k:=Xe h (IP t0)
    grind
 ·exact ⟨by decide,DL⟩
theorem N2 {s p:Ap} (s0:0<=s) (p1:p<=1) (p0:0<=p):0<=s*p/\s*p<=s:=by
 refine ⟨HG s0 p0,?_⟩;have:=Xd p1 s0
 grind
theorem Zp {x:Sr} {sh p:Ap} {hd:Ae} (s0:0<=sh) (sx:sh<=x.1) (p0:0<=p) (p1:p<=1):HY hd (pr sh) (pr p) (C2 x)=C2 (Ji hd sh p x):=by
 have m:=N2 s0 p1 p0;unfold HY C2 Ji;rw [YW s0 p0];show (Fw (pr x.1) (pr (sh*p)),(x.2.map pr).set hd (pr (sh*p)))=(pr (x.1 - sh*p),(x.2.set hd (sh*p)).map pr);rw [AbA (by grind),JY]
theorem AbD {wh:Ac Ab} {x:Sr} (x0:0<=x.1):G6 wh (pr x.1) (x.2.map pr)=(Hk wh x).map pr:=by
 unfold G6 Hk;by_cases c:wh=[]
 ·rw [Ar c,Ar c,AK];rfl
 ·rw [Ao c,Ao c];have n1:1<=wh.length:=length_pos_iff.mpr c;rw [Qq x0 n1]
  have:∀(ys:Ac Ab) (l:Ac Ap) (z:Ap),(ys.foldl (fun r y=>r.set y.toNat z) l).map pr=ys.foldl (fun r y=>r.set y.toNat (pr z)) (l.map pr):=by
   intro ys
   induction ys with
   | nil=>intro l z;rfl
   | cons y ys ih =>
     intro l z;rw [Fb,Fb,ih,JY]
  rw [this,AK];rfl
theorem Vv (D:Ab):∀{ls:Ls} {fs:Ac Fq} {rs:Ac Ap},fs.map (·.2)=rs.map pr->(∀z∈Cg ls fs,z.2.1≠0->z.2.2 ∣ D)->((CO (fun b=>D.fdiv b) (Cg ls fs):Ab):Ap)=(D:Ap)*BU (Am ls) rs
 | [],fs,rs,_,_=>by
   show ((0:Ab):Ap)=(D:Ap)*0;rw [Rat.mul_zero];rfl
 | q :: r,fs,rs,e,hd=>by
   cases fs with
   | nil =>
     cases rs with
     | nil =>
       show ((0:Ab):Ap)=(D:Ap)*0;rw [Rat.mul_zero];rfl
     | cons a b=>cases e
   | cons f fs =>
     cases rs with
     | nil=>cases e
     | cons a b =>
       rw [Bg,Bg] at e;injection e with e1 e2
       have ih:=Vv D (ls:=r) (fs:=fs) (rs:=b) e2 (fun z m=>hd z (Bc _ m));show (((if f.2.1=0 then 0 else q.2.2.2*f.2.1*D.fdiv f.2.2)+CO (fun b=>D.fdiv b) (Cg r fs):Ab):Ap)=(D:Ap)*((q.2.2.2:Ap)*a+BU (Am r) b);rw [GQ,ih];have va:=F4 a;have vb:=EY (Cf a);unfold vq at va;have f1:f.2.1=(pr a).1:=Bx Kb e1;have f2:f.2.2=(pr a).2:=Bx OR e1;have b0:=Cf a;by_cases c:f.2.1=0
       ·rw [Ar c];rw [<- f1,c] at va
        have:a=0:=by
         rw [<- va,Ph,show ((0:Ab):Ap)=0 from rfl,Rat.zero_mul]
        rw [this,show ((0:Ab):Ap)=0 from rfl]
        grind
       ·rw [Ao c];obtain ⟨k,hk⟩:=hd (q.2.2.2,f.2.1,f.2.2) (AV ..) c;have hk':D=f.2.2*k:=hk
        have de:D.fdiv f.2.2=k:=by
         rw [DH D (by omega),hk'];exact LK _ (by omega)
        rw [de,hk',Cb,Cb,Cb,f1,f2]
        grind
theorem L0:∀{ds:Lq} {rs:Ac Ap},(∀q∈ds,0<=q.2)->(∀r∈rs,0<=r)->0<=BU ds rs
 | [],rs,_,_=>DL
 | q :: d,[],_,_=>DL
 | q :: d,r :: rs,h,k=>by
   have ih:=L0 (ds:=d) (rs:=rs) (fun x m=>h x (Bc _ m)) (fun x m=>k x (Bc _ m));show 0<=(q.2:Ap)*r+BU d rs;have:=HG (Rat.intCast_nonneg.mpr (h q (AV ..))) (k r (AV ..))
   grind
theorem Oi {M:Ab} {ls:Ls} {fs:Ac Fq} {rs:Ac Ap} {v:Ab × Ab} (w:WM M ls fs v) (e:fs.map (·.2)=rs.map pr) (hn:∀q∈Am ls,0<=q.2) (hr:∀r∈rs,0<=r):v=pr (BU (Am ls) rs):=by
 obtain ⟨⟨D,D0,Dd,ev⟩,_⟩:=w;have k:=Vv D e Dd;have nn:=L0 hn hr
 have d0:(0:Ap) < (D:Ap):=by
  have:=Rat.intCast_lt_intCast.mpr D0;exact this
 have S0:0<=CO (fun b=>D.fdiv b) (Cg ls fs):=by
  apply Rat.intCast_nonneg.mp;rw [k];exact HG (IP d0) nn
 rw [ev,KL S0 D0,k]
 congr 1
 grind
theorem UY {s:Ab} {ls:Ls} {xs:Ac Sh} {st:Ac Sr} (e:xs.map shV=st.map C2) (h0:∀x∈st,0<=x.1):FZ s ls xs=(BZ (Am ls) st s).map fun r=>r.map pr:=by
 rw [AcJ,e];unfold BZ Am;rw [OI,Bf,Bf];have:ls.zip (st.map C2)=(ls.zip st).map (Prod.map id C2):=by rw [Mf]
 rw [this,Bf];refine E1 fun p m=>?_;obtain ⟨_,b⟩:=Fd m;exact AbD (h0 _ b)
theorem T5 {s:Ab} {hd:Ae} {ls:Ls} {xs:Ac Sh} {st:Ac Sr} (hd12:hd < 12) (e:xs.map shV=st.map C2) (h0:∀x∈st,0<=x.1):DT ls xs s hd=(CH (Am ls) st s hd).map pr:=by
 have k:DT ls xs s hd=(ls.zip (xs.map shV)).map fun p=>DF p.1.2.2.1 s hd p.2.1:=by
  unfold DT;rw [Mf,Bf];rfl
 rw [k,e];unfold CH Am;rw [OI,Bf,Bf];have:ls.zip (st.map C2)=(ls.zip st).map (Prod.map id C2):=by rw [Mf]
 rw [this,Bf];refine E1 fun p m=>?_;obtain ⟨_,b⟩:=Fd m;exact AbT (h0 _ b) hd12
theorem Aak {s q:Ab} {hd:Ae} {ls:Ls} {xs:Ac Sh} {st:Ac Sr} (hd12:hd < 12) (q1:1<=q) (e:xs.map shV=st.map C2) (h0:∀x∈st,0<=x.1) (hn:∀q∈Am ls,0<=q.2):(xs.zip (DT ls xs s hd)).map (fun p=>HY hd p.2 (Eo (pr (BU (Am ls) (CH (Am ls) st s hd))) q) (shV p.1))=(En (Am ls) st s hd q).map C2:=by
 rw [T5 hd12 e h0]
 have k:∀(ss:Ac Ap) (f:Ab × Ab->Vs->Vs),(xs.zip (ss.map pr)).map (fun p=>f p.2 (shV p.1))=(st.zip ss).map fun p=>f (pr p.2) (C2 p.1):=fun ss f=>by
  have:(xs.zip (ss.map pr)).map (fun p=>f p.2 (shV p.1))=((xs.map shV).zip (ss.map pr)).map fun p=>f p.2 p.1:=by
   rw [OI,Bf];rfl
  rw [this,e,zip_map,Bf];rfl
 have sn:∀r∈CH (Am ls) st s hd,0<=r:=fun r m=>by
  obtain ⟨p,pm,rfl⟩:=mem_map.mp m;exact (Ik (h0 _ (Fd pm).2) hd12).1
 rw [k _ fun a b=>HY hd a (Eo (pr (BU (Am ls) (CH (Am ls) st s hd))) q) b,AaB (L0 hn sn) q1];unfold En;rw [Bf];have pn:=RD (t:=BU (Am ls) (CH (Am ls) st s hd)) q1;generalize Fp (BU (Am ls) (CH (Am ls) st s hd)) q=part at pn ⊢;refine E1 fun p m=>?_;obtain ⟨i,hi⟩:=mem_iff_getElem?.mp m;obtain ⟨p1,p2⟩:=List.getElem?_zip_eq_some.mp hi;unfold CH at p2;rw [Ba] at p2;obtain ⟨z,hz,ez⟩:=Option.map_eq_some_iff.mp p2;obtain ⟨z1,z2⟩:=List.getElem?_zip_eq_some.mp hz;have zx:z.2=p.1:=Bn (z2.symm.trans p1);have sh:=Ik (ts:=z.1.1) (s:=s) (h0 _ (Bt z2)) hd12;rw [ez,zx] at sh;exact Zp sh.1 sh.2 pn.1 pn.2
structure StI (M:Ab) (h:Ae) (st:Ac Sr):Prop where
 free:∀x∈st,0<=x.1/\x.1<=1/\Bk M x.1
 kept:∀x∈st,∀k∈x.2,0<=k/\k<=1/\Bk M k
 len:∀x∈st,x.2.length=h
theorem T3 {M:Ab} {ts:Ac Ab} {s:Ab} {hd:Ae} {r:Ap} (i:Bk M r) (hd12:hd < 12):Bk (M*27720) (G9 ts s hd r):=by
 unfold G9
 split
 ·rename_i c
  have n1:=IF (E7.mpr ⟨hd,hd12,c,rfl⟩:((hd:Ae):Ab)∈B9 ts s);obtain ⟨k,e⟩:=N3 n1 (FP ..);rw [e];exact i.div n1
 ·exact Bk.zero _
theorem Ol {M:Ab}:∀{ds:Lq} {rs:Ac Ap},(∀r∈rs,Bk M r)->Bk M (BU ds rs)
 | [],rs,_=>Bk.zero _
 | q :: d,[],_=>Bk.zero _
 | q :: d,r :: rs,k=>Bk.add (Bk.times q.2 (k r (AV ..))) (Ol (ds:=d) (rs:=rs) fun x m=>k x (Bc _ m))
theorem StI.next {M c:Ab} {h hd:Ae} {st:Ac Sr} {ds:Lq} {s q:Ab} (i:StI M h st) (hd12:hd < 12) (q1:1<=q) (hc:(q:Ap) < BU ds (CH ds st s hd)->c=(pr (BU ds (CH ds st s hd))).1):StI (M*27720*c) h (En ds st s hd q):=by
 have hq:(1:Ap)<=(q:Ap):=Rat.intCast_le_intCast.mpr q1;generalize hT:BU ds (CH ds st s hd)=T at hc;have pn:=RD (t:=T) q1
 have key:∀p∈st.zip (CH ds st s hd),p.1∈st/\0<=p.2/\p.2<=p.1.1/\Bk (M*27720) p.2:=fun p m=>by
  obtain ⟨j,hj⟩:=mem_iff_getElem?.mp m;obtain ⟨p1,p2⟩:=List.getElem?_zip_eq_some.mp hj;unfold CH at p2;rw [Ba] at p2;obtain ⟨z,hz,ez⟩:=Option.map_eq_some_iff.mp p2;obtain ⟨z1,z2⟩:=List.getElem?_zip_eq_some.mp hz;have zx:z.2=p.1:=Bn (z2.symm.trans p1);have zm:=Bt p1;obtain ⟨f0,f1,f2⟩:=i.free _ zm;rw [<- ez,zx];exact ⟨zm,(Ik f0 hd12).1,(Ik f0 hd12).2,T3 f2 hd12⟩
 have giv:∀sh:Ap,Bk (M*27720) sh->Bk (M*27720*c) (sh*Fp T q):=fun sh hs=>by
  unfold Fp
  split
  ·rename_i cc
   rw [hc cc];obtain ⟨k,e⟩:=hs;refine ⟨k*q*(pr T).2,?_⟩;have hr:=F4 T;have hb:=EY (Cf T);unfold vq at hr;have hT0:T≠0:=by grind
   rw [Cb,Cb,Cb]
   grind
  ·rw [Rat.mul_one];exact hs.more _
 have part:=pn;generalize hP:Fp T q=P at part giv
 have nx:En ds st s hd q=(st.zip (CH ds st s hd)).map fun p=>Ji hd p.2 P p.1:=by
  unfold En;rw [hT,hP]
 rw [nx];have m2:∀r,Bk M r->Bk (M*27720*c) r:=fun r hr=>(hr.more _).more _;refine ⟨fun x m=>?_,fun x m k km=>?_,fun x m=>?_⟩
 ·obtain ⟨p,pm,rfl⟩:=mem_map.mp m;obtain ⟨a,b,c,d⟩:=key p pm;obtain ⟨f0,f1,f2⟩:=i.free _ a;have ml:=N2 b part.2 part.1;unfold Ji;refine ⟨by show 0<=p.1.1 - p.2*P;grind,by show p.1.1 - p.2*P<=1;grind,Bk.sub (m2 _ f2) (giv _ d)⟩
 ·obtain ⟨p,pm,rfl⟩:=mem_map.mp m;obtain ⟨a,b,c,d⟩:=key p pm;obtain ⟨f0,f1,f2⟩:=i.free _ a;have ml:=N2 b part.2 part.1;rcases Mb (show k∈p.1.2.set hd (p.2*P) from km) with km | rfl
  ·obtain ⟨k0,k1,k2⟩:=i.kept _ a _ km;exact ⟨k0,k1,m2 _ k2⟩
  ·exact ⟨ml.1,by grind,giv _ d⟩
 ·obtain ⟨p,pm,rfl⟩:=mem_map.mp m;show (p.1.2.set hd (p.2*P)).length=h;rw [LZ];exact i.len _ (key p pm).1
theorem K9 {M:Ab} {r:Ap} (h0:0<=r) (h1:r<=1) (i:Bk M r):FqM M (pr r):=⟨Ii h0,Cf r,Z7 h1,i.dvd⟩
theorem Qt {α:Type} {z:α}:∀{ys:Ac Ab} {l:Ac α} {x:α},x∈ys.foldl (fun r y=>r.set y.toNat z) l->x∈l\/x=z
 | [],l,x,m=>.inl m
 | y :: ys,l,x,m=>by
   rw [Fb] at m;rcases Qt m with m | m
   ·exact Mb m
   ·exact .inr m
theorem J9 {M:Ab} {h:Ae} {st:Ac Sr} {ds:Lq} {s:Ab} (i:StI M h st):∀r∈BZ ds st s,r.length=h+1/\∀z∈r,0<=z/\z<=1/\Bk (M*27720) z:=fun r m=>by
 obtain ⟨p,pm,rfl⟩:=mem_map.mp m;have xm:=(Fd pm).2;obtain ⟨f0,f1,f2⟩:=i.free _ xm;have n12:(B9 p.1.1 s).length<=12:=FP ..;unfold Hk
 split
 ·refine ⟨by rw [Bj,i.len _ xm];rfl,fun z zm=>?_⟩;rcases mem_append.mp zm with zm | zm
  ·obtain ⟨a,b,c⟩:=i.kept _ xm _ zm;exact ⟨a,b,c.more _⟩
  ·rw [mem_singleton.mp zm];exact ⟨f0,f1,f2.more _⟩
 ·rename_i c
  have n1:1<=(B9 p.1.1 s).length:=length_pos_iff.mpr c;refine ⟨by rw [Qs,Bj,i.len _ xm];rfl,fun z zm=>?_⟩;rcases Qt zm with zm | rfl
  ·rcases mem_append.mp zm with zm | zm
   ·obtain ⟨a,b,c⟩:=i.kept _ xm _ zm;exact ⟨a,b,c.more _⟩
   ·rw [mem_singleton.mp zm];exact ⟨DL,by decide,Bk.zero _⟩
  ·obtain ⟨a,b⟩:=Qj f0 n1;obtain ⟨k,e⟩:=N3 n1 n12;exact ⟨a,by grind,by rw [e];exact f2.div n1⟩
theorem UL (n h:Ae):StI 1 h (CA n h):=by
 refine ⟨fun x m=>?_,fun x m k km=>?_,fun x m=>?_⟩
 ·rw [LP m];exact ⟨(by decide:(0:Ap)<=1),DL,Bk.one _⟩
 ·rw [LP m] at km;rw [LP km];exact ⟨DL,by decide,Bk.zero _⟩
 ·rw [LP m];exact FC ..
theorem MX {su:Ac Ap} {zs:Ac Ab} (h:zs≠[]):DA su zs∈zs:=by
 unfold DA
 have:∀(ys:Ac Ab) (b:Ab),b∈zs->(∀y∈ys,y∈zs)->ys.foldl (fun b x=>if at0 su b < at0 su x then x else b) b∈zs:=by
  intro ys
  induction ys with
  | nil=>intro b hb _;exact hb
  | cons y ys ih =>
    intro b hb hy;rw [Fb];refine ih _ ?_ (fun z m=>hy z (Bc _ m))
    split
    ·exact hy y (AV ..)
    ·exact hb
 refine this zs _ ?_ (fun _ m=>m)
 cases zs with
 | nil=>exact Aw rfl h
 | cons a b=>exact AV ..
theorem Oj {su:Ac Ap} {zs:Ac Ab} (h:zs≠[]):EZ su zs∈zs:=by
 unfold EZ
 have:∀(ys:Ac Ab) (b:Ab),b∈zs->(∀y∈ys,y∈zs)->ys.foldl (fun b x=>if at0 su b < at0 su x then b else x) b∈zs:=by
  intro ys
  induction ys with
  | nil=>intro b hb _;exact hb
  | cons y ys ih =>
    intro b hb hy;rw [Fb];refine ih _ ?_ (fun z m=>hy z (Bc _ m))
    split
    ·exact hb
    ·exact hy y (AV ..)
 refine this zs _ ?_ (fun _ m=>m)
 cases zs with
 | nil=>exact Aw rfl h
 | cons a b=>exact AV ..
noncomputable def mB:Ae->Ae
 | 0=>1
 | k+1=>2*mB k+70
theorem Ra:∀{k:Ae},k<=5->mB k<=2210:=fun {k} h=>by
 rcases (by omega:k=0\/k=1\/k=2\/k=3\/k=4\/k=5) with rfl | rfl | rfl | rfl | rfl | rfl <;> decide
theorem ZM:∀{k:Ae},k<=6->mB k<=4480:=fun {k} h=>by
 rcases (by omega:k<=5\/k=6) with h | rfl
 ·exact BE (Ra h) (by decide)
 ·decide
theorem JK:∀{ds:Lq} {rs:Ac Ap},(∀q∈ds,0<=q.2)->(∀r∈rs,0<=r/\r<=1)->BU ds rs<=((AZ ds:Ab):Ap)
 | [],rs,_,_=>DL
 | q :: d,[],h,_=>by
   show (0:Ap)<=((q.2+AZ d:Ab):Ap);have ih:=JK (ds:=d) (rs:=[]) (fun x m=>h x (Bc _ m)) (fun _ m=>Aw m Bm);have e:BU d []=0:=by unfold BU;rw [OJ];rfl
   rw [e] at ih;have k:(0:Ap)<=(q.2:Ap):=Rat.intCast_nonneg.mpr (h q (AV ..));rw [GQ]
   grind
 | q :: d,r :: rs,h,k=>by
   have ih:=JK (ds:=d) (rs:=rs) (fun x m=>h x (Bc _ m)) (fun x m=>k x (Bc _ m));show (q.2:Ap)*r+BU d rs<=((q.2+AZ d:Ab):Ap);have n0:(0:Ap)<=(q.2:Ap):=Rat.intCast_nonneg.mpr (h q (AV ..));have:=Xd (k r (AV ..)).2 n0;rw [GQ]
   grind
theorem Rr {t:Ap} {n:Ab} (h:t<=(n:Ap)):(pr t).1<=n*(pr t).2:=by
 have:=(Pj t (n:Ap)).mp h;have e1:((n:Ab):Ap).num=n:=rfl;have e2:((n:Ab):Ap).den=1:=rfl;rw [e1,e2] at this;show t.num<=n*(t.den:Ab);simpa using this
theorem StI.step {M:Ab} {h hd k:Ae} {st:Ac Sr} {ds:Lq} {s q:Ab} (i:StI M h st) (M0:0 < M) (Mz:Sz (mB k) M) (hd12:hd < 12) (q1:1<=q) (hn:∀p∈ds,0<=p.2) (N:AZ ds < 2 ^ 40):∃M',0 < M'/\Sz (mB (k+1)) M'/\StI M' h (En ds st s hd q):=by
 have hq:(1:Ap)<=(q:Ap):=Rat.intCast_le_intCast.mpr q1
 have sh:∀r∈CH ds st s hd,0<=r/\r<=1/\Bk (M*27720) r:=fun r m=>by
  obtain ⟨p,pm,rfl⟩:=mem_map.mp m;obtain ⟨f0,f1,f2⟩:=i.free _ (Fd pm).2;have:=Ik (ts:=p.1.1) (s:=s) f0 hd12;exact ⟨this.1,by grind,T3 f2 hd12⟩
 have le:=JK hn (fun r m=>⟨(sh r m).1,(sh r m).2.1⟩);have iT:Bk (M*27720) (BU ds (CH ds st s hd)):=Ol fun r m=>(sh r m).2.2;have nx:=fun c hc=>StI.next (c:=c) (hd:=hd) (ds:=ds) (s:=s) (q:=q) i hd12 q1 hc;generalize BU ds (CH ds st s hd)=T at le iT nx;have Mz1:Sz (mB k+15) (M*27720):=Mz.mul (B_ (by decide) (by decide):Sz 15 (27720:Ab));have M1:0 < M*27720:=by omega
 by_cases c:(q:Ap) < T
 ·have t0:(0:Ap) < T:=by grind
  have n0:0 < (pr T).1:=by
   have z:=(Rat.lt_iff 0 T).mp t0;have e1:(0:Ap).num=0:=rfl;have e2:(0:Ap).den=1:=rfl;rw [e1,e2] at z;show 0 < T.num;simpa using z
  refine ⟨M*27720*(pr T).1,D1 M1 n0,?_,nx _ fun _=>rfl⟩;have nl:=Rr le;have bz:Sz (mB k+15) (pr T).2:=Gw iT.dvd M1 Mz1
  have tz:Sz (40+(mB k+15)) (pr T).1:=by
   have b0:=Cf T
   have n00:0<=AZ ds:=by
    rcases (by omega:0<=AZ ds\/AZ ds < 0) with z | z
    ·exact z
    ·have:=O6 z b0;omega
   have nz:Sz 40 (AZ ds):=B_ (by omega) (by exact_mod_cast N);have:=nz.mul bz;unfold Sz at *;generalize 2 ^ (40+(mB k+15))=X at *;omega
  exact (Mz1.mul tz).mono (by show _<=2*mB k+70;omega)
 ·refine ⟨M*27720*1,by omega,?_,nx 1 fun z=>Aw z c⟩;rw [EF];exact Mz1.mono (by show _<=2*mB k+70;omega)
theorem Ql {xs:Ac Ab} {su:Ac Ap} {m q:Ab} {pl hd:Ae} (hx:∀x∈xs,0<=x) (hb:∀j,bit m j=Af->(j:Ab)∈xs) (h:Dh xs su m pl q=.seat hd\/Dh xs su m pl q=.out hd):bit m hd=Af/\1<=pl:=by
 unfold Dh at h;by_cases c1:(hands 12 (bit m)).length<=pl
 ·rw [Ar c1] at h;rcases h with h | h <;> cases h
 rw [Ao c1] at h;by_cases c2:pl=0
 ·rw [Ar c2] at h;rcases h with h | h <;> cases h
 rw [Ao c2] at h
 have ne:BR xs m≠[]:=fun e=>by
  have:hands 12 (bit m)≠[]:=fun z=>by rw [z] at c1;exact c1 (Br _)
  obtain ⟨z,zm⟩:=V' _ this;obtain ⟨j,j12,bj,rfl⟩:=E7.mp zm;have:(j:Ab)∈BR xs m:=mem_filter.mpr ⟨hb j bj,by rw [B7];exact bj⟩;rw [e] at this;exact nomatch this
 have bm:=mem_filter.mp (MX (su:=su) ne);have wm:=mem_filter.mp (Oj (su:=su) ne);refine ⟨?_,by omega⟩
 split at h
 ·rcases h with h | h
  ·cases h
  ·injection h with e
   rw [<- e];exact wm.2
 ·rcases h with h | h
  ·injection h with e
   rw [<- e];exact bm.2
  ·cases h
theorem Yc {su:Ac Ap} {ix:Ab->Ae} {zs:Ac Ab} (pw:zs.Pairwise fun a b=>ix a < ix b) (ne:zs≠[]):∀y∈zs,at0 su y<=at0 su (DA su zs)/\(ix y < ix (DA su zs)->at0 su y < at0 su (DA su zs)):=by
 have key:∀(ys pre:Ac Ab) (b:Ab),(pre++ys).Pairwise (fun a b=>ix a < ix b)->b∈pre->(∀y∈pre,at0 su y<=at0 su b/\(ix y < ix b->at0 su y < at0 su b))->∀y∈pre++ys,at0 su y<=at0 su (ys.foldl (fun b x=>if at0 su b < at0 su x then x else b) b)/\(ix y < ix (ys.foldl (fun b x=>if at0 su b < at0 su x then x else b) b)->at0 su y < at0 su (ys.foldl (fun b x=>if at0 su b < at0 su x then x else b) b)):=by
  intro ys
  induction ys with
  | nil=>intro pre b _ _ h y m;rw [Ch] at m;exact h y m
  | cons x ys ih =>
    intro pre b pw bm h;rw [Fb,show pre++x :: ys=(pre++[x])++ys from by rw [Ee];rfl];rw [show pre++x :: ys=(pre++[x])++ys from by rw [Ee];rfl] at pw;have px:∀y∈pre,ix y < ix x:=fun y m=>(pairwise_append.mp (pairwise_append.mp pw).1).2.2 y m x (mem_singleton.mpr rfl);refine ih (pre++[x]) _ pw ?_ ?_
    ·split
     ·exact B8 _ (mem_singleton.mpr rfl)
     ·exact CB _ bm
    ·intro y m
     split
     ·rename_i c
      rcases mem_append.mp m with m | m
      ·have:=(h y m).1;exact ⟨by grind,fun _=>by grind⟩
      ·rw [mem_singleton.mp m];exact ⟨DL,fun z=>Aw z (C' _)⟩
     ·rename_i c
      rcases mem_append.mp m with m | m
      ·exact h y m
      ·rw [mem_singleton.mp m];refine ⟨by grind,fun z=>?_⟩;have:=px b bm;omega
 cases zs with
 | nil=>exact Aw rfl ne
 | cons z zt =>
   have k:=key zt [z] z pw (mem_singleton.mpr rfl) (fun y m=>by rw [mem_singleton.mp m];exact ⟨DL,fun e=>Aw e (C' _)⟩)
   have e:DA su (z :: zt)=zt.foldl (fun b x=>if at0 su b < at0 su x then x else b) z:=by
    unfold DA;show (z :: zt).foldl _ z=_;rw [Fb,Ao (by grind)]
   rw [e];exact k
theorem Adn {su:Ac Ap} {ix:Ab->Ae} {zs:Ac Ab} (pw:zs.Pairwise fun a b=>ix a < ix b) (ne:zs≠[]):∀y∈zs,at0 su (EZ su zs)<=at0 su y/\(ix (EZ su zs) < ix y->at0 su (EZ su zs) < at0 su y):=by
 have key:∀(ys pre:Ac Ab) (b:Ab),(pre++ys).Pairwise (fun a b=>ix a < ix b)->b∈pre->(∀y∈pre,at0 su b<=at0 su y/\(ix b < ix y->at0 su b < at0 su y))->∀y∈pre++ys,at0 su (ys.foldl (fun b x=>if at0 su b < at0 su x then b else x) b)<=at0 su y/\(ix (ys.foldl (fun b x=>if at0 su b < at0 su x then b else x) b) < ix y->at0 su (ys.foldl (fun b x=>if at0 su b < at0 su x then b else x) b) < at0 su y):=by
  intro ys
  induction ys with
  | nil=>intro pre b _ _ h y m;rw [Ch] at m;exact h y m
  | cons x ys ih =>
    intro pre b pw bm h;rw [Fb,show pre++x :: ys=(pre++[x])++ys from by rw [Ee];rfl];rw [show pre++x :: ys=(pre++[x])++ys from by rw [Ee];rfl] at pw;have px:∀y∈pre,ix y < ix x:=fun y m=>(pairwise_append.mp (pairwise_append.mp pw).1).2.2 y m x (mem_singleton.mpr rfl);refine ih (pre++[x]) _ pw ?_ ?_
    ·split
     ·exact CB _ bm
     ·exact B8 _ (mem_singleton.mpr rfl)
    ·intro y m
     split
     ·rename_i c
      rcases mem_append.mp m with m | m
      ·exact h y m
      ·rw [mem_singleton.mp m];exact ⟨by grind,fun _=>c⟩
     ·rename_i c
      rcases mem_append.mp m with m | m
      ·have:=(h y m).1;refine ⟨by grind,fun z=>?_⟩;have:=px y m;omega
      ·rw [mem_singleton.mp m];exact ⟨DL,fun z=>Aw z (C' _)⟩
 cases zs with
 | nil=>exact Aw rfl ne
 | cons z zt =>
   have k:=key zt [z] z pw (mem_singleton.mpr rfl) (fun y m=>by rw [mem_singleton.mp m];exact ⟨DL,fun e=>Aw e (C' _)⟩)
   have e:EZ su (z :: zt)=zt.foldl (fun b x=>if at0 su b < at0 su x then b else x) z:=by
    unfold EZ;show (z :: zt).foldl _ z=_;rw [Fb,Ao (by grind)]
   rw [e];exact k
noncomputable def XM (xs:Ac Ab) (su:Ac Ap) (m q:Ab) (hd:Ae):Prop:=(q:Ap)<=at0 su hd/\∀j:Ae,bit m j=Af->j≠hd->if xs.idxOf (j:Ab) < xs.idxOf (hd:Ab) then at0 su j < at0 su hd else at0 su j<=at0 su hd
noncomputable def XH (xs:Ac Ab) (su:Ac Ap) (m q:Ab) (hd:Ae):Prop:=(∀j:Ae,bit m j=Af->at0 su j < (q:Ap))/\∀j:Ae,bit m j=Af->j≠hd->if xs.idxOf (hd:Ab) < xs.idxOf (j:Ab) then at0 su hd < at0 su j else at0 su hd<=at0 su j
theorem Zh:∀{xs:Ac Ab},xs.Nodup->xs.Pairwise fun a b=>xs.idxOf a < xs.idxOf b:=fun {xs} nd=>by
 rw [Mc];intro i j hi hj ij;rw [nd.idxOf_getElem i hi,nd.idxOf_getElem j hj];exact ij
theorem Yg {xs:Ac Ab} {m:Ab} (hx:∀x∈xs,0<=x) (hb:∀j,bit m j=Af->(j:Ab)∈xs) {y:Ab}:y∈BR xs m↔∃j:Ae,y=(j:Ab)/\bit m j=Af:=by
 unfold BR;rw [mem_filter]
 constructor
 ·rintro ⟨a,b⟩;exact ⟨y.toNat,by have:=hx y a;omega,b⟩
 ·rintro ⟨j,rfl,b⟩;exact ⟨hb j b,by rw [B7];exact b⟩
theorem Y9 {xs:Ac Ab} {su:Ac Ap} {m q:Ab} {pl hd:Ae} (nd:xs.Nodup) (hx:∀x∈xs,0<=x) (hb:∀j,bit m j=Af->(j:Ab)∈xs) (c1:¬ (hands 12 (bit m)).length<=pl) (c2:pl≠0) (bh:bit m hd=Af):(Dh xs su m pl q=.seat hd↔XM xs su m q hd)/\(Dh xs su m pl q=.out hd↔XH xs su m q hd):=by
 have mem:=fun y=>Yg (m:=m) (y:=y) hx hb
 have ne:BR xs m≠[]:=fun e=>by
  have:=(mem (hd:Ab)).mpr ⟨hd,rfl,bh⟩;rw [e] at this;exact nomatch this
 have pw:(BR xs m).Pairwise fun a b=>xs.idxOf a < xs.idxOf b:=(Zh nd).sublist filter_sublist;obtain ⟨b,be,bb⟩:=(mem _).mp (MX (su:=su) ne);obtain ⟨w,we,wb⟩:=(mem _).mp (Oj (su:=su) ne);have bs:=Yc (su:=su) pw ne;have ws:=Adn (su:=su) pw ne;unfold Dh;rw [Ao c1,Ao c2,be,we] at *;have bs':∀j:Ae,bit m j=Af->at0 su j<=at0 su b/\(xs.idxOf (j:Ab) < xs.idxOf (b:Ab)->at0 su j < at0 su b):=fun j k=>bs _ ((mem _).mpr ⟨j,rfl,k⟩);have ws':∀j:Ae,bit m j=Af->at0 su w<=at0 su j/\(xs.idxOf (w:Ab) < xs.idxOf (j:Ab)->at0 su w < at0 su j):=fun j k=>ws _ ((mem _).mpr ⟨j,rfl,k⟩)
 have inj:∀i j:Ae,bit m i=Af->bit m j=Af->xs.idxOf (i:Ab)=xs.idxOf (j:Ab)->i=j:=fun i j bi bj e=>by
  have a1:=hb i bi;have a2:=hb j bj;have g1:=OC (Wi a1);have g2:=OC (Wi a2);have:(i:Ab)=(j:Ab):=by rw [<- g1,<- g2];congr 1
  omega
 rw [B7,B7]
 constructor
 ·constructor
  ·intro e
   split at e
   ·cases e
   ·rename_i c
    injection e with e
    subst e;refine ⟨by grind,fun j k n=>?_⟩
    split
    ·rename_i z;exact (bs' j k).2 z
    ·exact (bs' j k).1
  ·rintro ⟨h1,h2⟩
   have hb':b=hd:=by
    rcases (by omega:b=hd\/b≠hd) with z | z
    ·exact z
    ·exfalso;have k1:=h2 b bb z;have k2:=bs' hd bh;rcases (by omega:xs.idxOf (b:Ab) < xs.idxOf (hd:Ab)\/xs.idxOf (hd:Ab) < xs.idxOf (b:Ab)\/xs.idxOf (b:Ab)=xs.idxOf (hd:Ab)) with c | c | c
     ·rw [Ar c] at k1;have:=k2.1
      grind
     ·rw [Ao (by omega)] at k1;have:=k2.2 c
      grind
     ·exact z (inj b hd bb bh c)
   subst hb';rw [Ao (by grind)]
 ·constructor
  ·intro e
   split at e
   ·rename_i c
    injection e with e
    subst e;refine ⟨fun j k=>by have:=(bs' j k).1;grind,fun j k n=>?_⟩
    split
    ·rename_i z;exact (ws' j k).2 z
    ·exact (ws' j k).1
   ·cases e
  ·rintro ⟨h1,h2⟩
   have hb':w=hd:=by
    rcases (by omega:w=hd\/w≠hd) with z | z
    ·exact z
    ·exfalso;have k1:=h2 w wb z;have k2:=ws' hd bh;rcases (by omega:xs.idxOf (hd:Ab) < xs.idxOf (w:Ab)\/xs.idxOf (w:Ab) < xs.idxOf (hd:Ab)\/xs.idxOf (w:Ab)=xs.idxOf (hd:Ab)) with c | c | c
     ·rw [Ar c] at k1;have:=k2.1
      grind
     ·rw [Ao (by omega)] at k1;have:=k2.2 c
      grind
     ·exact z (inj w hd wb bh c)
   subst hb';rw [Ar (h1 b bb)]
theorem Jl {m:Ab} (m0:0<=m) {hd:Ae} (b:bit m hd=Af) (hd12:hd < 12):0<=m - 2 ^ hd/\(∀j,bit (m - 2 ^ hd) j=(bit m j && decide (j≠hd)))/\(hands 12 (bit (m - 2 ^ hd))).length < (hands 12 (bit m)).length:=by
 have k:=fun j=>Yd m0 hd j;rw [Ar b,EF] at k;refine ⟨(k 0).1,fun j=>(k j).2,?_⟩
 have sub:∀n,(hands n (bit (m - 2 ^ hd))).length+(if hd < n then 1 else 0)=(hands n (bit m)).length:=by
  intro n
  induction n with
  | zero=>rfl
  | succ n ih =>
    rw [KB,KB,(k n).2];by_cases e:n=hd
    ·subst e;rw [b,AS (fun z=>z rfl),Ar (show n < n+1 by omega)];rw [Ao (by omega)] at ih;rw [Ao (by decide),Ar rfl,Bj];show _=_+1;omega
    ·rw [AT e,Bool.and_true]
     have hl:(if hd < n+1 then 1 else 0)=(if hd < n then 1 else 0):=by
      by_cases c:hd < n
      ·rw [Ar c,Ar (by omega)]
      ·rw [Ao c,Ao (by omega)]
     rw [hl]
     split
     ·rw [Bj,Bj];omega
     ·exact ih
 have:=sub 12;rw [Ar hd12] at this;omega
theorem XR {h:Ae} (h12:h<=12):(hands 12 (bit ((2:Ab) ^ h - 1))).length=h :=
 (by decide:∀h:Fin 13,(hands 12 (bit ((2:Ab) ^ h.1 - 1))).length=h.1) ⟨h,Nat.lt_succ_of_le h12⟩
theorem Acm {M:Ab} {h:Ae} {st:Ac Sr} {ds:Lq} {m:Ab} (si:StI M h st) (M0:0 < M) (Mz:Sz 4480 M) (hn:∀p∈ds,0<=p.2) (N:AZ ds < 2 ^ 40):∀v∈Et ds (BZ ds st m) h,0<=v/\Sz 4700 (pr v).1/\Sz 4700 (pr v).2:=fun v k=>by
 obtain ⟨j,_,rfl⟩:=mem_map.mp k
 have col:∀r∈(BZ ds st m).map fun r=>r.getD j 0,0<=r/\r<=1/\Bk (M*27720) r:=fun r k=>by
  obtain ⟨y,ym,rfl⟩:=mem_map.mp k;obtain ⟨yl,yz⟩:=J9 (ds:=ds) (s:=m) si y ym;rw [BI]
  cases e:y[j]? with
  | none=>exact ⟨DL,by decide,Bk.zero _⟩
  | some z=>exact yz z (Bt e)
 have nn:=L0 hn (fun r k=>(col r k).1);have le:=JK hn (fun r k=>⟨(col r k).1,(col r k).2.1⟩);have iT:Bk (M*27720) (BU ds ((BZ ds st m).map fun r=>r.getD j 0)):=Ol fun r m=>(col r m).2.2;generalize BU ds ((BZ ds st m).map fun r=>r.getD j 0)=T at nn le iT ⊢;have M1:0 < M*27720:=by omega
 have Mz1:Sz 4500 (M*27720):=(Mz.mul (B_ (by decide) (by decide):Sz 15 (27720:Ab))).mono (by decide);have bz:Sz 4500 (pr T).2:=Gw iT.dvd M1 Mz1;have nl:=Rr le;have b0:=Cf T;have t0:=Ii nn
 have n00:0<=AZ ds:=by
  rcases (by omega:0<=AZ ds\/AZ ds < 0) with z | z
  ·exact z
  ·have:=O6 z b0;omega
 have nz:Sz 40 (AZ ds):=B_ (by omega) (by exact_mod_cast N)
 have tz:Sz (40+4500) (pr T).1:=by
  have:=nz.mul bz;unfold Sz at *;generalize 2 ^ (40+4500)=X at *;omega
 exact ⟨nn,tz.mono (by decide),bz.mono (by decide)⟩
structure SuG (H:Hp) (l:Ad) (fs:Ac Fq) (su:Ac Ap):Prop where
 l:H l=Aa (.lst (fqv fs))
 g:∀f∈fs,FqG H f
 v:fs.map (·.2)=su.map pr
 z:∀r∈su,Sz 9000 (pr r).1/\Sz 9000 (pr r).2
theorem SuG.same {H H':Hp} {l:Ad} {fs:Ac Fq} {su:Ac Ap} (s:Ax H H') (g:SuG H l fs su):SuG H' l fs su:=⟨s _ _ g.l,fun f m=>(g.g f m).same s,g.v,g.z⟩
theorem SuG.len {H:Hp} {l:Ad} {fs:Ac Fq} {su:Ac Ap} (g:SuG H l fs su):fs.length=su.length:=by
 have:=Bx BM g.v;rw [At,At] at this;exact this
theorem SuG.at {H:Hp} {l:Ad} {fs:Ac Fq} {su:Ac Ap} (g:SuG H l fs su) {x:Ab} (x0:0<=x) (x1:x.toNat < su.length):∃a,atI (fqv fs) x=Aa (.ref a)/\FqG H (a,pr (at0 su x))/\Sz 9000 (pr (at0 su x)).1/\Sz 9000 (pr (at0 su x)).2:=by
 obtain ⟨j,rfl⟩:∃j:Ae,x=(j:Ab):=⟨x.toNat,by omega⟩;rw [B7] at x1;obtain ⟨f,hf⟩:∃f,fs[j]?=Aa f:=⟨_,Cm (by rw [g.len];exact x1)⟩;have e:(fs.map (·.2))[j]?=(su.map pr)[j]?:=by rw [g.v]
 rw [Ba,Ba,hf,Cm x1] at e;have e2:f.2=pr su[j]:=Bn e
 have e3:at0 su (j:Ab)=su[j]:=by
  unfold at0;rw [B7,BI,Cm x1];rfl
 rw [e3];refine ⟨f.1,Qx hf,?_,g.z _ (LX x1)⟩;rw [<- e2];exact g.g f (Bt hf)
inductive T9 (C:Ad) (vs:Ac V) (H:Hp) (Q:VK) (E:XK):Prop
 | mk (a:Ad) (h s:Ab) (xs:Ac Ab) (m:Ab):vs=[.ref a,.int m]->IsS C H a h s xs->(∀x∈xs,0<=x)->xs.length<=12->(∀(l:Ad) (H':Hp),Ax H H'->H' l=Aa (.lst ((BR xs m).map V.int))->Q (.ref l) H')->T9 C vs H Q E
inductive N_ (C:Ad) (f:Ac Ap->Ac Ab->Ab) (vs:Ac V) (H:Hp) (Q:VK) (E:XK):Prop
 | mk (a l:Ad) (h s:Ab) (xs:Ac Ab) (m:Ab) (fs:Ac Fq) (su:Ac Ap):vs=[.ref a,.ref l,.int m]->IsS C H a h s xs->SuG H l fs su->(∀x∈xs,0<=x/\x.toNat < su.length)->xs.length<=12->BR xs m≠[]->(∀H',Ax H H'->Q (.int (f su (BR xs m))) H')->N_ C f vs H Q E
inductive TV (C:Ad) (vs:Ac V) (H:Hp) (Q:VK) (E:XK):Prop
 | mk (a l:Ad) (h s:Ab) (xs:Ac Ab) (m q:Ab) (pl:Ae) (fs:Ac Fq) (su:Ac Ap):vs=[.ref a,.ref l,.int m,.int (pl:Ab),.int q]->IsS C H a h s xs->SuG H l fs su->(∀x∈xs,0<=x/\x.toNat < su.length)->xs.length<=12->0<=m->m < 4096->(∀j,bit m j=Af->(j:Ab)∈xs)->Sz 64 q->(∀(t:Ad) (H':Hp),H t=Ai->Ax H H'->H' t=Aa (.tup [.str (Dh xs su m pl q).word,(Dh xs su m pl q).who])->Q (.ref t) H')->TV C vs H Q E
abbrev Rq:=Ad × (Ad × Ac Rw) × (Ad × Ac Fq) × (Ad × Dd)
noncomputable def rqs (ps:Ac Rq):Ac V:=ps.map fun r=>.ref r.1
structure RqG (H:Hp) (r:Rq):Prop where
 t:H r.1=Aa (.tup [.ref r.2.1.1,.ref r.2.2.1.1,.ref r.2.2.2.1])
 rl:H r.2.1.1=Aa (.lst (rwv r.2.1.2))
 rg:∀x∈r.2.1.2,RwG H x
 sl:H r.2.2.1.1=Aa (.lst (fqv r.2.2.1.2))
 sg:∀f∈r.2.2.1.2,FqG H f
 d:H r.2.2.2.1=Aa (.tup [.str r.2.2.2.2.word,r.2.2.2.2.who])
theorem RqG.same {H H':Hp} {r:Rq} (s:Ax H H') (g:RqG H r):RqG H' r:=⟨s _ _ g.t,s _ _ g.rl,fun x m=>(g.rg x m).same s,s _ _ g.sl,fun f m=>(g.sg f m).same s,s _ _ g.d⟩
abbrev Rv:=Ac (Ac (Ab × Ab)) × Ac (Ab × Ab) × Dd
noncomputable def rqV (r:Rq):Rv:=(r.2.1.2.map fun x=>x.2.map (·.2),r.2.2.1.2.map (·.2),r.2.2.2.2)
noncomputable def Ej (x:Rnd):Rv:=(x.1.map fun r=>r.map pr,x.2.1.map pr,x.2.2)
theorem Vr:∀(σ:St) (H:Hp) (Q Q':AI->Hp->Prop),(∀b H1,Q b H1->Q' b H1)->tB (tC (V.bl Af)) σ H Q->tB (tC (V.bl Af)) σ H Q':=fun _ _ _ _ f ⟨c,e,q⟩=>⟨c,e,f _ _ q⟩
noncomputable def Kv (p:Ad) (r:Rq):Prop:=r.2.1.1≠p/\r.2.2.1.1≠p/\∀x∈r.2.1.2,x.1≠p
theorem RqG.upd {H:Hp} {r:Rq} {p:Ad} {ys:Ac V} {o:HO} (g:RqG H r) (e:H p=Aa (.lst ys)) (n:Kv p r):RqG (L2.upd H p o) r:=by
 have tup:∀c cs,H c=Aa (.tup cs)->(L2.upd H p o) c=Aa (.tup cs):=fun c cs ec=>by rw [AF (Ce ec e (fun z=>by cases z))];exact ec
 refine ⟨tup _ _ g.t,by rw [AF n.1];exact g.rl,fun x m=>⟨by rw [AF (n.2.2 x m)];exact (g.rg x m).1,fun f fm=>tup _ _ ((g.rg x m).2 f fm)⟩,by rw [AF n.2.1];exact g.sl,fun f m=>tup _ _ (g.sg f m),tup _ _ g.d⟩
inductive TD (vs:Ac V) (H:Hp) (Q:VK) (E:XK):Prop
 | mk (l st dt:Ad) (h:Ae) (ls:Ls) (xs:Ac Sh) (rs:Ac Sr) (s q M:Ab) (d:Dd):vs=[.ref l,.ref st,.int s,.ref dt,.int q]->H dt=Aa (.tup [.str d.word,d.who])->(∀hd,d=.seat hd->hd < h/\Sz 2210 M)->H l=Aa (.lst (vls ls))->By H ls->H st=Aa (.lst (shv xs))->(∀x∈xs,ShG H x)->xs.map shV=rs.map C2->StI M h rs->0 < M->ls.length=xs.length->ls.length<=60->h<=12->1<=q->Sz 64 q->(∀p∈ls,Jc h s p.2.2.1/\0<=p.2.2.2/\Sz 64 p.2.2.2)->(∀(a:Ad) (ys:Ac Sh) (H':Hp),Ax H H'->H' a=Aa (.lst (shv ys))->(∀y∈ys,ShG H' y/\(H y.2.2.1=Ai\/∃x∈xs,x.2.2.1=y.2.2.1))->(H a=Ai\/a=st)->ys.map shV=(Yb (Am ls) rs s q d).map C2->Q (.ref a) H')->TD vs H Q E
inductive TR (C:Ad) (vs:Ac V) (H:Hp) (Q:VK) (E:XK):Prop
 | mk (a l:Ad) (h s:Ae) (xs:Ac Ab) (ls:Ls):vs=[.ref a,.ref l]->IsS C H a (h:Ab) (s:Ab) xs->1<=h->h<=12->1<=s->s<=6->xs.Perm (ups h)->H l=Aa (.lst (vls ls))->By H ls->(∀q∈ls,OkT h q.2.2.1/\0<=q.2.2.2/\Sz 64 q.2.2.2)->ls.length<=60->AZ (Am ls) < 2 ^ 40->(∀(p:Ad) (ps:Ac Rq) (H':Hp),H p=Ai->Ax H H'->H' p=Aa (.lst (rqs ps))->(∀r∈ps,RqG H' r)->ps.map rqV=(E6 (Am ls) h xs s).map Ej->Q (.ref p) H')->TR C vs H Q E
theorem Zi {z:Ab} {zs:Ac Ab}:inV (V.int z) (zs.map V.int)=decide (z∈zs):=by
 unfold inV;rw [any_map];by_cases c:z∈zs
 ·rw [AT c];exact any_eq_true.mpr ⟨z,c,by simp [eqV]⟩
 ·rw [AS c];refine Bool.eq_false_iff.mpr fun e=>c ?_;obtain ⟨y,my,ey⟩:=any_eq_true.mp e;have:y=z:=by simpa [eqV] using ey
  rw [<- this];exact my
noncomputable def ddD (w:Ak) (x:Ca):Ca:=.tuple [.str w,x]
noncomputable def Dd.data:Dd->Ca
 | .seat h=>.int (h:Ab)
 | .out h=>.int (h:Ab)
 | .rest=>.none
 | .fin=>.none
theorem Ab9 {K:A8} {H:Hp} {a:Ad} {d:Dd} (e:H a=Aa (.tup [.str d.word,d.who])):Rep K H (.ref a) (ddD d.word d.data):=by
 refine .tup (SqT.of e) (.cons (.str _) (.cons ?_ .nil))
 cases d
 ·exact .int _
 ·exact .int _
 ·exact .non
 ·exact .non
theorem JB {w:Ak} {x:Ca} (h:PyData.strOk w=Af) (hx:x.canLay0=Af/\x.depth=0):Gj (ddD w x)=Af:=by
 unfold Gj;rw [Gb];refine ⟨?_,AT ?_⟩
 ·show (PyData.strOk w && (x.canLay0 && Af))=Af;rw [h,hx.1];rfl
 ·show max 0 (max x.depth 0)+1<=64;rw [hx.2]
  decide
theorem AbS (d:Dd):Gj (ddD d.word d.data)=Af:=by
 cases d
 ·exact JB (w:="seat") (by decide +kernel) ⟨rfl,rfl⟩
 ·exact JB (w:="out") (by decide +kernel) ⟨rfl,rfl⟩
 ·exact JB (w:="rest") (by decide +kernel) ⟨rfl,rfl⟩
 ·exact JB (w:="end") (by decide +kernel) ⟨rfl,rfl⟩
noncomputable def Dd.seatOf:Dd->A5 Ae
 | .seat h=>Aa h
 | _=>Ai
noncomputable def Cv (ds:Ac Dd):Ac Ae:=ds.filterMap Dd.seatOf
noncomputable def FQ (ds:Ac Dd) (j:Ae):AI:=ds.any fun d=>decide (d=.seat j) || decide (d=.out j)
noncomputable def J8 (h:Ae) (ds:Ac Dd):Ac Ae:=(Bo h).filter fun j=>!FQ ds j
noncomputable def FY (h:Ae) (ds:Ac Dd):Ac Ae:=Cv ds++(if ds.getLast?=Aa .rest then J8 h ds else [])
noncomputable def Hl (h:Ae) (ds:Ac Dd):Ac Ab:=(Bo h).map fun j=>if j∈FY h ds then 1 else 0
noncomputable def BW (ns:Ac Ae):Ac V:=ns.map fun j:Ae=>V.int (j:Ab)
theorem Q9 {j:Ae} {ns:Ac Ae}:inV (V.int (j:Ab)) (BW ns)=decide (j∈ns):=by
 have e:BW ns=(ns.map fun i:Ae=>(i:Ab)).map V.int:=by unfold BW;rw [Bf];rfl
 rw [e,Zi];refine decide_eq_decide.mpr ⟨fun m=>?_,fun m=>mem_map.mpr ⟨j,m,rfl⟩⟩;obtain ⟨i,im,z⟩:=mem_map.mp m;have:i=j:=by omega
 rw [<- this];exact im
theorem Qr (ns:Ac Ae):(BW ns).all Fm=Af:=all_eq_true.mpr fun x m=>by
 obtain ⟨j,_,rfl⟩:=mem_map.mp m;rfl
theorem QA {j:Ae}:∀{ds:Ac Dd},inV (V.int (j:Ab)) (ds.map Dd.who)=FQ ds j
 | []=>rfl
 | d :: ds=>by
   show (eqV d.who (V.int (j:Ab)) || inV (V.int (j:Ab)) (ds.map Dd.who))=((decide (d=.seat j) || decide (d=.out j)) || FQ ds j);rw [QA]
   congr 1
   cases d with
   | seat g =>
     show ((g:Ab) == (j:Ab))=_;by_cases c:g=j
     ·subst c;rw [AT rfl,Ow];exact Kh _
     ·rw [AS (fun e=>c (by injection e)),AS (fun e=>nomatch e)];exact beq_eq_false_iff_ne.mpr (by omega)
   | out g =>
     show ((g:Ab) == (j:Ab))=_;by_cases c:g=j
     ·subst c;rw [AT rfl,Bool.or_true];exact Kh _
     ·rw [AS (show ¬ Dd.out g=.out j from fun e=>c (by injection e)),AS (fun e=>nomatch e)];exact beq_eq_false_iff_ne.mpr (by omega)
   | rest=>rw [AS (fun e=>nomatch e),AS (fun e=>nomatch e)];rfl
   | fin=>rw [AS (fun e=>nomatch e),AS (fun e=>nomatch e)];rfl
theorem YI (ds:Ac Dd):(ds.map Dd.who).all Fm=Af:=all_eq_true.mpr fun x m=>by
 obtain ⟨d,_,rfl⟩:=mem_map.mp m
 cases d <;> rfl
theorem Y3 (d:Dd):FH (ddD d.word d.data) (ddD "rest" .none)=decide (d=.rest):=by
 cases d with
 | rest =>
   rw [AT rfl];show ((("rest":Ak) == "rest") && (Af && Af))=Af;rw [show (("rest":Ak) == "rest")=Af from by decide +kernel];rfl
 | seat g =>
   rw [AS (fun e=>nomatch e)];show ((("seat":Ak) == "rest") && (Aq && Af))=Aq;rw [show (("seat":Ak) == "rest")=Aq from by decide +kernel,Iu]
 | out g =>
   rw [AS (fun e=>nomatch e)];show ((("out":Ak) == "rest") && (Aq && Af))=Aq;rw [show (("out":Ak) == "rest")=Aq from by decide +kernel,Iu]
 | fin =>
   rw [AS (fun e=>nomatch e)];show ((("end":Ak) == "rest") && (Af && Af))=Aq;rw [show (("end":Ak) == "rest")=Aq from by decide +kernel,Iu]
noncomputable def DB (ps:Ac Rq):Ac Dd:=ps.map fun r=>r.2.2.2.2
inductive U9 (C:Ad) (vs:Ac V) (H:Hp) (Q:VK) (E:XK):Prop
 | mk (a p:Ad) (h:Ae) (s:Ab) (xs:Ac Ab) (ps:Ac Rq):vs=[.ref a,.ref p]->IsS C H a (h:Ab) s xs->h<=12->H p=Aa (.lst (rqs ps))->(∀r∈ps,RqG H r)->ps≠[]->ps.length<=900->(∀(l:Ad) (H':Hp),H l=Ai->Ax H H'->H' l=Aa (.lst ((Hl h (DB ps)).map V.int))->Q (.ref l) H')->U9 C vs H Q E
inductive Uo (C:Ad) (vs:Ac V) (H:Hp) (Q:VK) (E:XK):Prop
 | mk (a l:Ad) (h s:Ae) (xs:Ac Ab) (ls:Ls):vs=[.ref a,.ref l]->IsS C H a (h:Ab) (s:Ab) xs->1<=h->h<=12->1<=s->s<=6->xs.Perm (ups h)->H l=Aa (.lst (vls ls))->By H ls->(∀q∈ls,OkT h q.2.2.1/\0<=q.2.2.2/\Sz 64 q.2.2.2)->ls.length<=60->AZ (Am ls) < 2 ^ 40->(∀(o:Ad) (H':Hp),H o=Ai->Ax H H'->H' o=Aa (.lst ((Hl h ((E6 (Am ls) h xs s).map fun r=>r.2.2)).map V.int))->Q (.ref o) H')->Uo C vs H Q E
theorem NQ (ds:Lq) (h:Ae) (xs:Ac Ab) (q:Ab):∀(n:Ae) (st:Ac Sr) (m:Ab) (pl:Ae),(Dx ds h xs q n st m pl).length<=n/\(1<=n->Dx ds h xs q n st m pl≠[])
 | 0,_,_,_=>⟨A1 _,fun z=>Aw z (by decide)⟩
 | n+1,st,m,pl=>by
   refine ⟨?_,fun _ z=>by unfold Dx at z;cases z⟩;unfold Dx;rw [BP];refine IK ?_
   split
   ·exact (NQ ds h xs q n _ _ _).1
   ·exact (NQ ds h xs q n _ _ _).1
   ·exact Br _
noncomputable def lf (f t b t' b':Ab) (ab:AI):Ab:=if ab=Af then (t*b' - t'*b).fdiv (f*b*b')+1 else -((-(t*b' - t'*b)).fdiv (f*b*b'))
theorem ZE {top bot k:Ab} (h:0 < bot):top.fdiv bot+1<=k↔top < k*bot:=by
 have l:=QZ (t:=top) h
 constructor
 ·intro z;have:=GF z (BH h);omega
 ·intro z;rcases Int.lt_or_le k (top.fdiv bot+1) with c | c
  ·have:=GF (show k<=top.fdiv bot by omega) (BH h);omega
  ·exact c
theorem ZD {top bot k:Ab} (h:0 < bot):-((-top).fdiv bot)<=k↔top<=k*bot:=by
 have l:=Za (t:=top) h
 constructor
 ·intro z;have:=GF z (BH h);omega
 ·intro z;rcases Int.lt_or_le k (-((-top).fdiv bot)) with c | c
  ·have:=GF (show k<=-((-top).fdiv bot) - 1 by omega) (BH h);omega
  ·exact c
theorem ZC {f t b t' b' k:Ab} {ab:AI} (h:0 < f*b*b'):lf f t b t' b' ab<=k↔(if ab=Af then t*b' - t'*b < k*(f*b*b') else t*b' - t'*b<=k*(f*b*b')):=by
 unfold lf
 cases ab
 ·exact ZD h
 ·exact ZE h
inductive T8 (C:Ad) (vs:Ac V) (H:Hp) (Q:VK) (E:XK):Prop
 | mk (a:Ad) (h s:Ab) (xs:Ac Ab) (x y:Ab):vs=[.ref a,.int x,.int y]->IsS C H a h s xs->x∈xs->y∈xs->Q (.bl (decide (xs.idxOf x < xs.idxOf y))) H->T8 C vs H Q E
inductive Ug (vs:Ac V) (H:Hp) (Q:VK) (E:XK):Prop
 | mk (c h:Ab):vs=[.int c,.int h]->Sz 200 c->1<=h->h<=12->(∀(l:Ad) (ns:Ac Ab) (H':Hp),Ax H H'->H' l=Aa (.lst (ns.map V.int))->ns.Perm (ups h.toNat)->Q (.ref l) H')->Ug vs H Q E
theorem R8:∀{b:Ac Ab} {k:Ae} {y:Ab},b[k]?=Aa y->(y :: b.eraseIdx k).Perm b
 | x :: b,0,y,h=>by
   have:x=y:=Bn h;rw [this];exact Hs _
 | x :: b,k+1,y,h=>by
   show (y :: x :: b.eraseIdx k).Perm (x :: b);exact (List.Perm.swap x y _).trans ((R8 (b:=b) (k:=k) h).cons x)
theorem YG {a b c:Ac Ab} {k:Ae} {y:Ab} (h:b[k]?=Aa y) (p:(a++b).Perm c):(a++[y]++b.eraseIdx k).Perm c:=by
 rw [Ee];exact (List.Perm.append_left a (R8 h)).trans p
inductive TU (vs:Ac V) (H:Hp) (Q:VK) (E:XK):Prop
 | mk (t b:Ab):vs=[.int t,.int b]->0 < b->Sz 13500 t->Q (.int (t.fdiv b)) H->TU vs H Q E
inductive UD (vs:Ac V) (H:Hp) (Q:VK) (E:XK):Prop
 | mk (t b:Ab):vs=[.int t,.int b]->0 < b->Sz 13500 t->Q (.int (-((-t).fdiv b))) H->UD vs H Q E
structure SuZ (H:Hp) (l:Ad) (fs:Ac Fq) (su:Ac Ap):Prop where
 l:H l=Aa (.lst (fqv fs))
 g:∀f∈fs,FqG H f
 v:fs.map (·.2)=su.map pr
 z:∀r∈su,Sz 4700 (pr r).1/\Sz 4700 (pr r).2
theorem SuZ.same {H H':Hp} {l:Ad} {fs:Ac Fq} {su:Ac Ap} (s:Ax H H') (g:SuZ H l fs su):SuZ H' l fs su:=⟨s _ _ g.l,fun f m=>(g.g f m).same s,g.v,g.z⟩
theorem SuZ.at {H:Hp} {l:Ad} {fs:Ac Fq} {su:Ac Ap} (g:SuZ H l fs su) {j:Ae} (x1:j < su.length):∃a,atI (fqv fs) (j:Ab)=Aa (.ref a)/\FqG H (a,pr (at0 su j))/\Sz 4700 (pr (at0 su j)).1/\Sz 4700 (pr (at0 su j)).2:=by
 obtain ⟨f,hf⟩:∃f,fs[j]?=Aa f:=⟨_,Cm (by
  have:=Bx BM g.v;rw [At,At] at this;omega)⟩
 have e:(fs.map (·.2))[j]?=(su.map pr)[j]?:=by rw [g.v]
 rw [Ba,Ba,hf,Cm x1] at e;have e2:f.2=pr su[j]:=Bn e
 have e3:at0 su (j:Ab)=su[j]:=by
  unfold at0;rw [B7,BI,Cm x1];rfl
 rw [e3];refine ⟨f.1,Qx hf,?_,g.z _ (LX x1)⟩;rw [<- e2];exact g.g f (Bt hf)
theorem R7 {m:Ab} (m0:0<=m) {hd:Ae} (b:bit m hd=Af) (hd12:hd < 12) {y:Ab}:y∈hands 12 (bit (m - 2 ^ hd))↔∃j:Ae,y=(j:Ab)/\j < 12/\bit m j=Af/\j≠hd:=by
 obtain ⟨_,lb,_⟩:=Jl m0 b hd12;rw [E7]
 constructor
 ·rintro ⟨j,j12,e,rfl⟩;rw [lb j,Gb] at e;exact ⟨j,rfl,j12,e.1,CK e.2⟩
 ·rintro ⟨j,rfl,j12,e,n⟩;exact ⟨j,j12,by rw [lb j,e,AT n];rfl,rfl⟩
theorem MZ {m:Ab} (m0:0<=m) (m1:m < 4096) {j:Ae} (b:bit m j=Af):j < 12:=by
 rcases (by omega:j < 12\/12<=j) with c | c
 ·exact c
 ·have:(2:Ab) ^ 12<=2 ^ j:=by
   have:=GJ (show 0 < 2 by decide) c
   exact_mod_cast this
  have e:(2:Ab) ^ 12=4096:=rfl;rw [Je m0 (by omega)] at b
  cases b
noncomputable def Aaq:HO->AI
 | .tbl _=>Aq
 | _=>Af
structure Sm (H H':Hp):Prop where
 keep:∀b u,H b=Aa u->Aaq u=Af->H' b=Aa u
 gone:∀b,H' b=Ai->H b=Ai
theorem Sm.of {H H':Hp} (s:Ax H H'):Sm H H':=⟨fun b u e _=>s b u e,fun b e=>none_of s e⟩
theorem Sm.refl (H:Hp):Sm H H:=⟨fun _ _ e _=>e,fun _ e=>e⟩
theorem Sm.trans {H H1 H2:Hp} (a:Sm H H1) (b:Sm H1 H2):Sm H H2:=⟨fun c u e n=>b.keep c u (a.keep c u e n) n,fun c e=>a.gone c (b.gone c e)⟩
theorem Sm.lst {H H':Hp} (s:Sm H H') {b:Ad} {xs:Ac V} (e:H b=Aa (.lst xs)):H' b=Aa (.lst xs):=s.keep _ _ e rfl
theorem Sm.tup {H H':Hp} (s:Sm H H') {b:Ad} {xs:Ac V} (e:H b=Aa (.tup xs)):H' b=Aa (.tup xs):=s.keep _ _ e rfl
theorem AbW {P:Ad} {pos:PySem.Pos} {q:Ak} {H H':Hp} (t:Gq P pos q H) (s:SmL P H H') (g:∀b,H' b=Ai->H b=Ai):Sm H H':=⟨fun b u e n=>s b u (fun z=>by
 rw [z] at e;rcases t with t | ⟨_,t,_⟩
 ·rw [t] at e;rw [<- Bn e] at n;cases n
 ·rw [t] at e;rw [<- Bn e] at n;cases n) e,g⟩
abbrev LT (P:Ad) (H:Hp):Prop:=Gq P Zz Z0 H
noncomputable def Cp (ts:Ac Ab) (x y:Ae):Ab:=match ts with
 | []=>1
 | a :: _=>if a=2 ^ x then 0 else if bit a y=Af then 2 else 1
theorem AcP (ts:Ac Ab) (x y:Ae):Cp ts x y=0\/Cp ts x y=1\/Cp ts x y=2:=by
 unfold Cp
 split
 ·exact .inr (.inl rfl)
 ·split
  ·exact .inl rfl
  ·split
   ·exact .inr (.inr rfl)
   ·exact .inr (.inl rfl)
noncomputable def Bb:Ds->Ab->Ds
 | [],_=>[]
 | q :: r,m=>(if 0 < min q.2 m then [(q.1,min q.2 m)] else [])++Bb r (m - min q.2 m)
noncomputable def EW:Ds->Ab->Ab
 | [],m=>m
 | q :: r,m=>EW r (m - min q.2 m)
theorem U_:∀(a b:Ds) (m:Ab),Bb (a++b) m=Bb a m++Bb b (EW a m)/\EW (a++b) m=EW b (EW a m)
 | [],b,m=>⟨rfl,rfl⟩
 | q :: r,b,m=>by
   obtain ⟨h1,h2⟩:=U_ r b (m - min q.2 m);refine ⟨?_,h2⟩;show _++Bb (r++b) _=(_++Bb r _)++Bb b _;rw [h1,Ee];rfl
theorem Va:∀(a:Ds) (m:Ab),(Bb a m).length<=a.length
 | [],m=>A1 _
 | q :: r,m=>by
   have:=Va r (m - min q.2 m);show (_++Bb r _).length<=r.length+1;rw [Bj]
   split
   ·rw [L_];omega
   ·rw [DI];omega
abbrev Rz:=Ac (Ad × Ad × Ac Ab × Ab)
noncomputable def vrz (rs:Rz):Ac V:=rs.map fun q=>.ref q.1
noncomputable def DY (sl:Ad) (H:Hp) (rs:Rz):Prop:=∀q∈rs,H q.1=Aa (.tup [.ref q.2.1,.ref sl,.int q.2.2.2])/\H q.2.1=Aa (.tup (q.2.2.1.map V.int))
theorem DY.same {sl:Ad} {H H':Hp} {rs:Rz} (s:Ax H H') (g:DY sl H rs):DY sl H' rs:=fun q m=>⟨s _ _ (g q m).1,s _ _ (g q m).2⟩
theorem DY.upd {sl l:Ad} {H:Hp} {rs:Rz} {xs:Ac V} {o:HO} (e:H l=Aa (.lst xs)) (g:DY sl H rs):DY sl (L2.upd H l o) rs:=fun q m=>⟨by
 rw [AF (Ce (g q m).1 e (fun z=>by cases z))];exact (g q m).1,by
 rw [AF (Ce (g q m).2 e (fun z=>by cases z))];exact (g q m).2⟩
theorem DY.push {sl:Ad} {H:Hp} {rs:Rz} {q:Ad × Ad × Ac Ab × Ab} (g:DY sl H rs) (e1:H q.1=Aa (.tup [.ref q.2.1,.ref sl,.int q.2.2.2])) (e2:H q.2.1=Aa (.tup (q.2.2.1.map V.int))):DY sl H (rs++[q]):=fun r m=>by
 rcases mem_append.mp m with m | m
 ·exact g r m
 ·rw [mem_singleton.mp m];exact ⟨e1,e2⟩
theorem Vq (rs:Rz):(vrz rs).length=rs.length:=At _
inductive UB (vs:Ac V) (H:Hp) (Q:VK) (E:XK):Prop
 | mk (t:Ad) (ts:Ac Ab) (x y:Ae):vs=[.ref t,.int (x:Ab),.int (y:Ab)]->H t=Aa (.tup (ts.map V.int))->(∀a∈ts,0 < a/\a < 2 ^ 12)->x < 12->y < 12->(∀H':Hp,Ax H H'->Q (.int (Cp ts x y)) H')->UB vs H Q E
inductive Uv (vs:Ac V) (H:Hp) (Q:VK) (E:XK):Prop
 | mk (l sl:Ad) (ls:Ls) (m:Ab):vs=[.ref l,.ref sl,.int m]->H l=Aa (.lst (vls ls))->By H ls->ls.length<=60->(∀(r:Ad) (rs:Rz) (H':Hp),H r=Ai->Ax H H'->H' r=Aa (.lst (vrz rs))->DY sl H' rs->rs.map (·.2.2)=Bb (Am ls) m->Q (.ref r) H')->Uv vs H Q E
inductive T_ (vs:Ac V) (H:Hp) (Q:VK) (E:XK):Prop
 | mk (l t:Ad) (ls:Ls) (ts:Ac Ab):vs=[.ref l,.ref t]->H l=Aa (.lst (vls ls))->By H ls->H t=Aa (.tup (ts.map V.int))->ls.length<=60->(∀H':Hp,Ax H H'->Q (.int (((Am ls).map (·.2)).sum - tot (Am ls) ts)) H')->T_ vs H Q E
theorem Aat:∀y:Fin 12,Iz 0 ((1:Ab)*2 ^ y.val)=(2:Ab) ^ y.val:=by decide +kernel
noncomputable def He (put:Ac Ab) (ls:Ls):Ls:=ls.filter fun q=>!decide (q.2.2.1=put)
theorem Aa5 (put:Ac Ab) (ls:Ls):∀q∈He put ls,q∈ls:=fun q m=>(mem_filter.mp m).1
noncomputable def ld (q:Ac Ab × Ab):Ca:=.tuple [.tuple (q.1.map .int),.int q.2]
theorem Nu (a:Ac Ab):HT.lexLt a a≠Af:=fun e=>by
 have:=QT e;rw [e] at this
 cases this
theorem Oc {ts:Ac Ab} {n:Ab}:∀{out:Ds},out.Pairwise (fun x y=>HT.lexLt x.1 y.1=Af)->(ts,n)∈out->tot out ts=n
 | [],_,m=>nomatch m
 | q :: r,h,m=>by
   rw [pairwise_cons] at h;show (if q.1=ts then q.2 else 0)+tot r ts=n;rcases mem_cons.mp m with e | e
   ·rw [<- e,Ar rfl,GA fun k=>?_]
    ·exact GD _
    ·obtain ⟨x,xm,xe⟩:=mem_map.mp k;have:=h.1 x xm;rw [<- e,xe] at this;exact Nu _ this
   ·rw [Ao fun c=>Nu q.1 (by have:=h.1 _ e;rw [show (ts,n).1=q.1 from c.symm] at this;exact this),Oc h.2 e];exact F9 _
theorem DQ.tot {ds out:Ds} (h:DQ ds out) (p:Pos ds) (ts:Ac Ab):Law.tot out ts=Law.tot ds ts:=by
 by_cases c:0 < Law.tot ds ts
 ·exact Oc h.srt ((h.mem ts _).mpr ⟨rfl,c⟩)
 ·have z:=JI (ts:=ts) p;rw [GA fun k=>?_]
  ·omega
  ·obtain ⟨x,xm,xe⟩:=mem_map.mp k;have:=(h.mem x.1 x.2).mp xm;rw [xe] at this;omega
theorem DQ.pos {ds out:Ds} (h:DQ ds out):Pos out:=fun q m=>by
 have:=(h.mem q.1 q.2).mp m;omega
theorem DQ.keys {ds out:Ds} (h:DQ ds out) {p:Ac (Ac Ab)} (hp:∀q∈ds,q.1∈p):∀q∈out,q.1∈p:=fun q m=>by
 have k:=(h.mem q.1 q.2).mp m;by_cases c:q.1∈ds.map (·.1)
 ·obtain ⟨r,rm,e⟩:=mem_map.mp c;rw [<- e];exact hp r rm
 ·rw [GA c] at k;omega
noncomputable def d2 (a b:Ds):Ca:=.list [.list (a.map ld),.list (b.map ld)]
theorem DQ.len {ds out:Ds} (h:DQ ds out) {p:Ac (Ac Ab)} (hp:∀q∈ds,q.1∈p):out.length<=p.length:=by
 have nd:(out.map (·.1)).Nodup:=by
  refine pairwise_map.mpr (h.srt.imp fun {x y} k e=>?_);rw [e] at k;exact Nu _ k
 have:=N7 nd fun x xm=>by
  obtain ⟨q,qm,rfl⟩:=mem_map.mp xm;exact h.keys hp q qm
 rw [At] at this;exact this
noncomputable def Bw (ds:Ds):Ab:=(ds.map (·.2)).sum
theorem Ln (q:Ac Ab × Ab) (r:Ds):Bw (q :: r)=q.2+Bw r:=by unfold Bw;rw [Bg,D7]
theorem RO {t:Ac Ab} {n:Ab}:∀{K:Ac (Ac Ab)},K.Nodup->(K.map fun k=>if t=k then n else 0).sum=if t∈K then n else 0
 | [],_=>rfl
 | k :: K,h=>by
   rw [IH] at h;rw [Bg,D7,RO h.2];by_cases c:t=k
   ·subst c;rw [Ar rfl,Ao h.1,Ar (AV ..),GD]
   ·rw [Ao c,F9];by_cases m:t∈K
    ·rw [Ar m,Ar (Bc _ m)]
    ·rw [Ao m,Ao (by rw [Ef,not_or];exact ⟨c,m⟩)]
theorem UP {α:Type} (f g:α->Ab):∀K:Ac α,(K.map fun k=>f k+g k).sum=(K.map f).sum+(K.map g).sum
 | []=>rfl
 | k :: K=>by
   rw [Bg,Bg,Bg,D7,D7,D7,UP f g K];omega
theorem Vz:∀K:Ac (Ac Ab),(K.map (tot [])).sum=0
 | []=>rfl
 | k :: K=>by rw [Bg,D7,Vz K];rfl
theorem UQ {K:Ac (Ac Ab)} (nd:K.Nodup):∀{ds:Ds},(∀q∈ds,q.1∈K)->(K.map (tot ds)).sum=Bw ds
 | [],_=>by
   exact Vz K
 | q :: r,h=>by
   have e:K.map (tot (q :: r))=K.map fun k=>(if q.1=k then q.2 else 0)+tot r k:=rfl;rw [e,UP,RO nd,Ar (h q (AV ..)),Ln];have ih:=UQ nd (ds:=r) fun p m=>h p (Bc _ m);have e2:(K.map fun k=>tot r k)=K.map (tot r):=rfl;rw [e2,ih]
abbrev Rd3:=Ac (Ac Ab × Ac Ab × Ab)
noncomputable def Dj (rs:Rd3):Ds:=rs.map fun q=>(q.1,-q.2.2)
noncomputable def Er (rs:Rd3):Ds:=rs.map fun q=>(q.2.1,q.2.2)
abbrev Rs:=Ac (Ad × (Ad × Ac Ab) × (Ad × Ac Ab) × Ab)
noncomputable def vrs (rs:Rs):Ac V:=rs.map fun q=>.ref q.1
noncomputable def CW (rs:Rs):Rd3:=rs.map fun q=>(q.2.1.2,q.2.2.1.2,q.2.2.2)
noncomputable def XF (H:Hp) (rs:Rs):Prop:=∀q∈rs,H q.1=Aa (.tup [.ref q.2.1.1,.ref q.2.2.1.1,.int q.2.2.2])/\H q.2.1.1=Aa (.tup (q.2.1.2.map V.int))/\H q.2.2.1.1=Aa (.tup (q.2.2.1.2.map V.int))
theorem Vp (rs:Rs):(vrs rs).length=rs.length:=At ..
theorem Og {rs:Rs} {i:Ae} {x:V} (h:(vrs rs)[i]?=Aa x):∃q,rs[i]?=Aa q/\x=.ref q.1/\q∈rs/\rs.take (i+1)=rs.take i++[q]:=by
 unfold vrs at h;rw [Ba] at h
 cases e:rs[i]? with
 | none=>rw [e] at h;cases h
 | some q =>
   rw [e] at h;refine ⟨q,rfl,(Bn h).symm,Bt e,?_⟩;rw [Me,e];rfl
noncomputable def XJ (rd:Rd3):Prop:=∀q∈rd,q.1≠q.2.1/\1<=q.2.2
theorem Sn (a b:Rs):CW (a++b)=CW a++CW b:=AK ..
theorem Aai (a b:Rd3):Dj (a++b)=Dj a++Dj b:=AK ..
theorem AaY (a b:Rd3):Er (a++b)=Er a++Er b:=AK ..
theorem Rg {rs:Rs} {q:Ad × (Ad × Ac Ab) × (Ad × Ac Ab) × Ab} (m:q∈rs):(q.2.1.2,q.2.2.1.2,q.2.2.2)∈CW rs:=mem_map.mpr ⟨q,m,rfl⟩
noncomputable def Jb (rd:Rd3) (p:Ac (Ac Ab)):Prop:=∀q∈rd,q.1∈p/\q.2.1∈p
theorem KF {rd:Rd3} {p:Ac (Ac Ab)} (h:Jb rd p):∀q∈Dj rd,q.1∈p:=fun q m=>by
 obtain ⟨r,rm,rfl⟩:=mem_map.mp m;exact (h r rm).1
theorem QI {rd:Rd3} {p:Ac (Ac Ab)} (h:Jb rd p):∀q∈Er rd,q.1∈p:=fun q m=>by
 obtain ⟨r,rm,rfl⟩:=mem_map.mp m;exact (h r rm).2
theorem QJ {rs:Rs} {p:Ac (Ac Ab)} (h:Jb (CW rs) p) (i:Ae):Jb (CW (rs.take i)) p:=fun q m=>by
 obtain ⟨r,rm,rfl⟩:=mem_map.mp m;exact h _ (Rg (Wn rm))
inductive TN (vs:Ac V) (H:Hp) (Q:VK) (E:XK):Prop
 | mk (a b:Ad) (ts us:Ac Ab) (n:Ab):vs=[.ref a,.ref b,.int n]->H a=Aa (.tup (ts.map V.int))->H b=Aa (.tup (us.map V.int))->ts≠us->1<=n->Q .non H->TN vs H Q E
inductive TM (vs:Ac V) (H:Hp) (Q:VK) (E:XK):Prop
 | mk (l c:Ad) (ls:Ls) (rs:Rs) (p:Ac (Ac Ab)):vs=[.ref l,.ref c]->H l=Aa (.lst (vls ls))->By H ls->H c=Aa (.lst (vrs rs))->XF H rs->XJ (CW rs)->(∀q∈Am ls,q.1∈p)->Jb (CW rs) p->p.length < 64->(∀ts,0<=tot (Am ls++Dj (CW rs)) ts)->(∀(l':Ad) (ls':Ls) (H':Hp),H l'=Ai->Ax H H'->H' l'=Aa (.lst (vls ls'))->By H' ls'->DQ (Am ls++Dj (CW rs)++Er (CW rs)) (Am ls')->ls'.length < 64->Q (.ref l') H')->TM vs H Q E
theorem DictOf.sheet' {ds out:Ds} {kvs:Ac (Ac Key × V)} (h:DictOf ds kvs) (srt:out.Pairwise (fun x y=>HT.lexLt x.1 y.1=Af)) (mem:∀ts n,(ts,n)∈out↔A' kvs (ts.map AH)=Aa (.int n)/\0 < n):DQ ds out:=by
 refine ⟨srt,fun ts n=>?_⟩;rw [mem,h.val];by_cases c:ts∈ds.map (·.1)
 ·rw [Ar c]
  constructor
  ·rintro ⟨e,z⟩;injection e with e;injection e with e;exact ⟨e.symm,z⟩
  ·rintro ⟨e,z⟩;exact ⟨by rw [e],z⟩
 ·rw [Ao c,GA c]
  constructor
  ·rintro ⟨e,_⟩;cases e
  ·rintro ⟨e,z⟩;omega
theorem Vj:∀{kvs:Ac (Ac Key × V)} {k:Ac Key} {v:V},(kvs.map (·.1)).Nodup->(k,v)∈kvs->A' kvs k=Aa v
 | [],_,_,_,m=>nomatch m
 | q :: r,k,v,nd,m=>by
   rw [Bg,IH] at nd;unfold A';rw [Ez];rcases mem_cons.mp m with e | e
   ·rw [<- e];simp
   ·have ne:q.1≠k:=fun z=>nd.1 (z ▸ mem_map.mpr ⟨(k,v),e,rfl⟩);rw [AS ne];exact Vj nd.2 e
theorem DQ.tot' {ds out:Ds} (h:DQ ds out) (nn:∀ts,0<=Law.tot ds ts) (ts:Ac Ab):Law.tot out ts=Law.tot ds ts:=by
 by_cases c:0 < Law.tot ds ts
 ·exact Oc h.srt ((h.mem ts _).mpr ⟨rfl,c⟩)
 ·have z:=nn ts;rw [GA fun k=>?_]
  ·omega
  ·obtain ⟨x,xm,xe⟩:=mem_map.mp k;have:=(h.mem x.1 x.2).mp xm;rw [xe] at this;omega
theorem DictOf.at {ds:Ds} {kvs:Ac (Ac Key × V)} (h:DictOf ds kvs) {i:Ae} {x:V} (e:(kvs[i]?).map (·.2)=Aa x):∃ts:Ac Ab,x=.int (tot ds ts):=by
 obtain ⟨q,hq,rfl⟩:=Option.map_eq_some_iff.mp e;have qm:=Bt hq;obtain ⟨ts,n,rfl⟩:=h.vd.all q qm;refine ⟨ts,?_⟩;have v:=Vj h.vd.nd qm;have w:=h.val ts;rw [v] at w
 split at w
 ·exact Bn w
 ·cases w
noncomputable def S6:Ac (Ac Ab):=[[],[1],[1,2],[2],[2,1],[3]]
noncomputable def fr (ds:Ds) (w:Ae):Ab:=tot ds [2 ^ w]+tot ds [2 ^ w,2 ^ (1 - w)]
noncomputable def suR (ds:Ds):Ac Ap:=Et ds (BZ ds (CA ds.length 2) 3) 2
theorem AbH (ds:Lq) (m:Ab):BZ ds (CA ds.length 2) m=ds.map fun q=>Hk (B9 q.1 m) (1,[0,0]):=by
 unfold BZ CA
 induction ds with
 | nil=>rfl
 | cons q ds ih =>
   rw [BP,replicate_succ,JZ,Bg,ih];rfl
theorem L3 (f:Ac Ab × Ab->Ap):∀ds:Lq,BU ds (ds.map f)=(ds.map fun q=>(q.2:Ap)*f q).sum
 | []=>rfl
 | q :: ds=>by
   have:=L3 f ds;unfold BU at this ⊢;rw [Bg,JZ,Bg,Bg,D7,D7,this]
theorem AbB:∀ts∈S6,Hk (B9 ts 3) (1,[0,0])=if ts=[] then [0,0,1] else if ts.head?=Aa 1 then [1,0,0] else if ts.head?=Aa 2 then [0,1,0] else [1 / 2,1 / 2,0]:=by
 intro ts m;have w:B9 [] 3=[]/\B9 [1] 3=[0]/\B9 [1,2] 3=[0]/\B9 [2] 3=[1]/\B9 [2,1] 3=[1]/\B9 [3] 3=[0,1]:=by decide +kernel
 obtain ⟨w0,w1,w2,w3,w4,w5⟩:=w;have o:(1:Ap) / ((1:Ae):Ap)=1:=by grind
 have t:(1:Ap) / ((2:Ae):Ap)=1 / 2:=by grind
 unfold S6 at m;simp only [Ef,Bm,Gm] at m;rcases m with rfl | rfl | rfl | rfl | rfl | rfl
 ·rw [w0];rfl
 all_goals simp [Hk,w1,w2,w3,w4,w5,List.set,o,t]
 all_goals exact o
theorem Ack {ds:Ds} (k:∀q∈ds,q.1∈S6):suR ds=[(fr ds 0:Ap)+(tot ds [3]:Ap) / 2,(fr ds 1:Ap)+(tot ds [3]:Ap) / 2,(tot ds []:Ap)]:=by
 unfold suR Et;rw [AbH];show [BU ds _,BU ds _,BU ds _]=_;rw [Bf,Bf,Bf,L3,L3,L3]
 induction ds with
 | nil=>simp [fr,tot];grind
 | cons q ds ih =>
   have ih:=ih fun p m=>k p (Bc _ m);injection ih with ih0 ih
   injection ih with ih1 ih
   injection ih with ih2 ih
   have r:=AbB q.1 (k q (AV ..));have m:=k q (AV ..);rw [Bg,Bg,Bg,D7,D7,D7];simp only [Function.comp_apply] at ih0 ih1 ih2 ⊢;rw [ih0,ih1,ih2,r];obtain ⟨ts,n⟩:=q;unfold S6 at m;simp only [Ef,Bm,Gm] at m;rcases m with rfl | rfl | rfl | rfl | rfl | rfl
   all_goals simp [fr,tot];try grind
noncomputable def DR (ds:Ds) (xs:Ac Ab) (w:Ae):Prop:=fr ds (1 - w) < fr ds w\/(fr ds (1 - w)=fr ds w/\xs.idxOf (w:Ab) < xs.idxOf ((1 - w:Ae):Ab))
theorem Ip {xs:Ac Ab} (pm:xs.Perm (ups 2)):xs=[0,1]\/xs=[1,0]:=by
 have e:ups 2=[0,1]:=rfl;rw [e] at pm;have l:=pm.length_eq
 match xs,l with
 | [a,b],_ =>
   have ha:=pm.mem_iff.mp (AV:a∈[a,b]);have hb:=pm.mem_iff.mp (Bc _ (AV:b∈[b]));have nd:([a,b]:Ac Ab).Nodup:=pm.nodup_iff.mpr (by decide);simp only [Ef,Bm,Gm] at ha hb;rcases ha with rfl | rfl <;> rcases hb with rfl | rfl
   ·exact Aw nd (by decide)
   ·exact .inl rfl
   ·exact .inr rfl
   ·exact Aw nd (by decide)
theorem Adm {ds:Ds} {xs:Ac Ab} (pm:xs.Perm (ups 2)):∃w,w < 2/\DR ds xs w:=by
 rcases Ip pm with rfl | rfl
 ·rcases (by omega:fr ds 1<=fr ds 0\/fr ds 0 < fr ds 1) with c | c
  ·rcases (by omega:fr ds 1 < fr ds 0\/fr ds 1=fr ds 0) with c | c
   ·exact ⟨0,by decide,.inl c⟩
   ·exact ⟨0,by decide,.inr ⟨c,by decide⟩⟩
  ·exact ⟨1,by decide,.inl c⟩
 ·rcases (by omega:fr ds 0<=fr ds 1\/fr ds 1 < fr ds 0) with c | c
  ·rcases (by omega:fr ds 0 < fr ds 1\/fr ds 0=fr ds 1) with c | c
   ·exact ⟨1,by decide,.inl c⟩
   ·exact ⟨1,by decide,.inr ⟨c,by decide⟩⟩
  ·exact ⟨0,by decide,.inl c⟩
theorem JE {ds:Ds} (k:∀q∈ds,q.1∈S6) {w:Ae} (w2:w < 2):at0 (suR ds) (w:Ab)=(fr ds w:Ap)+(tot ds [3]:Ap) / 2:=by
 rw [Ack k];rcases (by omega:w=0\/w=1) with rfl | rfl <;> rfl
theorem Gs:∀j,bit 3 j=Af->j < 2:=fun j b=>by
 rcases (by omega:j < 2\/2<=j) with c | c
 ·exact c
 ·have:(2:Ab) ^ 2<=2 ^ j:=by
   have:=GJ (show 0 < 2 by decide) c
   exact_mod_cast this
  rw [Je (by decide) (by omega)] at b
  cases b
theorem YA {ds:Ds} {xs:Ac Ab} {q:Ab} {w:Ae} (k:∀q∈ds,q.1∈S6) (pm:xs.Perm (ups 2)) (w2:w < 2) (win:DR ds xs w):Dh xs (suR ds) 3 1 q=.seat w\/Dh xs (suR ds) 3 1 q=.out (1 - w):=by
 have a:=JE k w2;have b:=JE k (w:=1 - w) (by omega);have hb:∀j,bit 3 j=Af->((j:Ae):Ab)∈xs:=fun j h=>pm.mem_iff.mpr (JJ.mpr ⟨by omega,by have:=Gs j h;omega⟩);have key:=fun {hd:Ae} (h:bit 3 hd=Af)=>Y9 (su:=suR ds) (q:=q) (pl:=1) (pm.nodup_iff.mpr (AcZ 2)) (fun x m=>(JJ.mp (pm.mem_iff.mp m)).1) hb (by decide +kernel) (by decide) h;have b3:∀j,j < 2->bit 3 j=Af:=by decide +kernel
 have ge:at0 (suR ds) ((1 - w:Ae):Ab)<=at0 (suR ds) (w:Ab):=by
  rw [a,b];rcases win with c | ⟨c,_⟩
  ·have:((fr ds (1 - w):Ab):Ap)<=(fr ds w:Ab):=Rat.intCast_le_intCast.mpr (by omega)
   grind
  ·rw [c];exact DL
 have gt:¬ xs.idxOf (w:Ab) < xs.idxOf ((1 - w:Ae):Ab)->at0 (suR ds) ((1 - w:Ae):Ab) < at0 (suR ds) (w:Ab):=fun n=>by
  rw [a,b];rcases win with c | ⟨_,c⟩
  ·have:((fr ds (1 - w):Ab):Ap) < (fr ds w:Ab):=Rat.intCast_lt_intCast.mpr c
   grind
  ·exact Aw c n
 have two:∀j,bit 3 j=Af->j≠w->j=1 - w:=fun j h n=>by have:=Gs j h;omega
 have ord:∀z:Ae,z < 2->∀y:Ae,y < 2->y≠z->(xs.idxOf (y:Ab) < xs.idxOf (z:Ab)↔¬ xs.idxOf (z:Ab) < xs.idxOf (y:Ab)):=by
  rcases Ip pm with rfl | rfl <;> decide +kernel
 by_cases c:(q:Ap)<=at0 (suR ds) (w:Ab)
 ·refine .inl ((key (b3 w w2)).1.mpr ⟨c,fun j h n=>?_⟩);obtain rfl:=two j h n
  split
  ·rename_i lt
   exact gt ((ord w w2 (1 - w) (by omega) (by omega)).mp lt)
  ·exact ge
 ·have c':at0 (suR ds) (w:Ab) < (q:Ap):=Rat.not_le.mp c;refine .inr ((key (b3 (1 - w) (by omega))).2.mpr ⟨fun j h=>?_,fun j h n=>?_⟩)
  ·by_cases e:j=w
   ·rw [e];exact c'
   ·rw [two j h e]
    grind
  ·have e:j=w:=by have:=Gs j h;omega
   subst e
   split
   ·rename_i lt
    exact gt ((ord j w2 (1 - j) (by omega) (by omega)).mp lt)
   ·exact ge
noncomputable def CT (w:Ae):Ac Ab:=[1 - (w:Ab),(w:Ab)]
theorem JH {ds:Ds} {xs:Ac Ab} {w:Ae} (k:∀q∈ds,q.1∈S6) (pm:xs.Perm (ups 2)) (w2:w < 2) (win:DR ds xs w):Hl 2 ((E6 ds 2 xs 1).map fun r=>r.2.2)=CT w:=by
 unfold E6;generalize (AZ ds).fdiv (((1:Ae):Ab)+1)+1=q;have d:=YA (q:=q) k pm w2 win;have e0:(DE ds 2 xs q (CA ds.length 2) (2 ^ 2 - 1) 1).2.2=Dh xs (suR ds) 3 1 q:=rfl;have ls:∀z:Ae,z < 2->(hands 12 (bit (2 ^ 2 - 1 - 2 ^ z))).length=1:=by decide +kernel
 rcases d with d | d
 ·rw [d] at e0;rw [Dx,e0];show Hl 2 (_ :: ((Dx ds 2 xs q 2 _ (2 ^ 2 - 1 - 2 ^ w) 0).map _))=_
  have e1:(DE ds 2 xs q (En ds (CA ds.length 2) (2 ^ 2 - 1) w q) (2 ^ 2 - 1 - 2 ^ w) 0).2.2=.fin:=by
   show Dh _ _ _ _ _=_;unfold Dh;rw [Ao (by rw [ls w w2];decide),Ar rfl]
  rw [Dx,e1];show Hl 2 [(DE ds 2 xs q (CA ds.length 2) (2 ^ 2 - 1) 1).2.2,(DE ds 2 xs q (En ds (CA ds.length 2) (2 ^ 2 - 1) w q) (2 ^ 2 - 1 - 2 ^ w) 0).2.2]=_;rw [e0,e1];rcases (by omega:w=0\/w=1) with rfl | rfl <;> decide +kernel
 ·rw [d] at e0;rw [Dx,e0];show Hl 2 (_ :: ((Dx ds 2 xs q 2 _ (2 ^ 2 - 1 - 2 ^ (1 - w)) 1).map _))=_
  have e1:(DE ds 2 xs q (CA ds.length 2) (2 ^ 2 - 1 - 2 ^ (1 - w)) 1).2.2=.rest:=by
   show Dh _ _ _ _ _=_;unfold Dh;rw [Ar (by rw [ls (1 - w) (by omega)];decide)]
  rw [Dx,e1];show Hl 2 [(DE ds 2 xs q (CA ds.length 2) (2 ^ 2 - 1) 1).2.2,(DE ds 2 xs q (CA ds.length 2) (2 ^ 2 - 1 - 2 ^ (1 - w)) 1).2.2]=_;rw [e0,e1];rcases (by omega:w=0\/w=1) with rfl | rfl <;> decide +kernel
theorem sgn {z p:Ap} (p0:0 < p):(0 < z↔0 < z*p)/\(0<=z↔0<=z*p):=by
 refine ⟨⟨fun h=>Rat.mul_pos h p0,fun h=>?_⟩,⟨fun h=>HG h (IP p0),fun h=>?_⟩⟩
 ·rcases (Pk:z<=0\/0<=z) with c | c
  ·have:=HG (a:=-z) (by grind) (IP p0)
   grind
  ·by_cases e:z=0
   ·rw [e] at h;grind
   ·grind
 ·by_cases c:0<=z
  ·exact c
  ·have:=Rat.mul_pos (a:=-z) (by grind) p0
   grind
theorem RP (x:Ap):x*((pr x).2:Ab)=((pr x).1:Ab):=by
 have e:=Xf x
 have n:((x.den:Ab):Ap)≠0:=fun z=>by
  have:=x.den_pos;have:(x.den:Ab)=0:=by exact_mod_cast z
  omega
 rw [Pg] at e;show x*((x.den:Ab):Ap)=((x.num:Ab):Ap)
 grind
theorem QU {f k:Ab} {x y:Ap} {ab:AI} (f1:1<=f):lf f (pr x).1 (pr x).2 (pr y).1 (pr y).2 ab<=k↔if ab=Af then x < y+((f*k:Ab):Ap) else x<=y+((f*k:Ab):Ap):=by
 have h:0 < f*(pr x).2*(pr y).2:=D1 (D1 (by omega) (Cf x)) (Cf y);rw [ZC h];have hx:=RP x;have hy:=RP y;have p0:(0:Ap) < (((pr x).2*(pr y).2:Ab):Ap):=Rat.intCast_pos.mpr (D1 (Cf x) (Cf y))
 have e:(y+((f*k:Ab):Ap) - x)*(((pr x).2*(pr y).2:Ab):Ap)=((k*(f*(pr x).2*(pr y).2) - ((pr x).1*(pr y).2 - (pr y).1*(pr x).2):Ab):Ap):=by
  simp only [Cb,Pi]
  grind
 have s:=sgn (z:=y+((f*k:Ab):Ap) - x) p0;rw [e,Rat.intCast_pos,Rat.intCast_nonneg] at s
 cases ab
 ·rw [Ao (by decide),Ao (by decide)];refine ⟨fun h=>?_,fun h=>?_⟩
  ·have:=s.2.mpr (by omega);grind
  ·have:=s.2.mp (by grind);omega
 ·rw [Ar rfl,Ar rfl];refine ⟨fun h=>?_,fun h=>?_⟩
  ·have:=s.1.mpr (by omega);grind
  ·have:=s.1.mp (by grind);omega
noncomputable def K0 (xs:Ac Ab) (su:Ac Ap) (m q:Ab) (hd:Ae) (k:Ab):Prop:=(q:Ap)<=at0 su hd+((1*k:Ab):Ap)/\∀j:Ae,bit m j=Af->j≠hd->if xs.idxOf (j:Ab) < xs.idxOf (hd:Ab) then at0 su j < at0 su hd+((2*k:Ab):Ap) else at0 su j<=at0 su hd+((2*k:Ab):Ap)
noncomputable def Kz (xs:Ac Ab) (su:Ac Ap) (m q:Ab) (hd:Ae) (k:Ab):Prop:=(∀j:Ae,bit m j=Af->at0 su j < (q:Ap)+((1*k:Ab):Ap))/\∀j:Ae,bit m j=Af->j≠hd->if xs.idxOf (hd:Ab) < xs.idxOf (j:Ab) then at0 su hd < at0 su j+((2*k:Ab):Ap) else at0 su hd<=at0 su j+((2*k:Ab):Ap)
noncomputable def B3 (ds:Ds) (xs:Ac Ab) (w:Ae):Ab:=if xs.idxOf (w:Ab) < xs.idxOf ((1 - w:Ae):Ab) then (fr ds w - fr ds (1 - w)) / 2+1 else (fr ds w - fr ds (1 - w)+1) / 2
theorem Nj {ds:Ds} {xs:Ac Ab} {w:Ae} (k6:∀q∈ds,q.1∈S6) (w2:w < 2) (k:Ab):(if xs.idxOf (w:Ab) < xs.idxOf ((1 - w:Ae):Ab) then at0 (suR ds) (w:Ab) < at0 (suR ds) ((1 - w:Ae):Ab)+((2*k:Ab):Ap) else at0 (suR ds) (w:Ab)<=at0 (suR ds) ((1 - w:Ae):Ab)+((2*k:Ab):Ap))↔B3 ds xs w<=k:=by
 rw [JE k6 w2,JE k6 (show 1 - w < 2 by omega)];unfold B3
 have lt:((fr ds w:Ab):Ap)+(tot ds [3]:Ap) / 2 < (fr ds (1 - w):Ap)+(tot ds [3]:Ap) / 2+((2*k:Ab):Ap)↔fr ds w < fr ds (1 - w)+2*k:=by
  rw [<- Rat.intCast_lt_intCast,GQ]
  constructor <;> intro h <;> grind
 have le:((fr ds w:Ab):Ap)+(tot ds [3]:Ap) / 2<=(fr ds (1 - w):Ap)+(tot ds [3]:Ap) / 2+((2*k:Ab):Ap)↔fr ds w<=fr ds (1 - w)+2*k:=by
  rw [<- Rat.intCast_le_intCast,GQ]
  constructor <;> intro h <;> grind
 by_cases c:xs.idxOf (w:Ab) < xs.idxOf ((1 - w:Ae):Ab)
 ·rw [Ar c,Ar c,lt];omega
 ·rw [Ao c,Ao c,le];omega
theorem Nh {ds:Ds} {xs:Ac Ab} {w:Ae} (win:DR ds xs w):1<=B3 ds xs w:=by
 unfold B3;rcases win with c | ⟨c,d⟩
 ·split <;> omega
 ·rw [Ar d];omega
theorem Aah {ds:Ds} {xs:Ac Ab} {w:Ae} {f q:Ab} (k6:∀q∈ds,q.1∈S6) (w2:w < 2) (hf:∀k,f<=k↔0<=k/\K0 xs (suR ds) 3 q (1 - w) k):B3 ds xs w<=f:=by
 obtain ⟨_,_,h⟩:=(hf f).mp (Dy _);exact (Nj k6 w2 f).mp (h w ((by decide +kernel:∀j,j < 2->bit 3 j=Af) w w2) (by omega))
theorem Aag {ds:Ds} {xs:Ac Ab} {w:Ae} {f N:Ab} (k6:∀q∈ds,q.1∈S6) (w2:w < 2) (win:DR ds xs w) (t3:0<=tot ds [3]) (all:fr ds 0+fr ds 1+tot ds [3]<=N) (hf:∀k,f<=k↔0<=k/\Kz xs (suR ds) 3 (N.fdiv 2+1) w k):f=B3 ds xs w:=by
 have b3:∀j,j < 2->bit 3 j=Af:=by decide +kernel
 have dp:=Nh win
 have key:∀k,f<=k↔B3 ds xs w<=k:=fun k=>by
  rw [hf]
  constructor
  ·rintro ⟨_,_,h⟩;exact (Nj k6 w2 k).mp (h (1 - w) (b3 _ (by omega)) (by omega))
  ·intro h;refine ⟨by omega,fun j b=>?_,fun j b n=>?_⟩
   ·rw [JE k6 (Gs j b),<- GQ];have e:N.fdiv 2=N / 2:=DH N (by decide)
    have i:2*fr ds j+tot ds [3] < 2*(N.fdiv 2+1+1*k):=by
     rw [e]
     have d:fr ds w - fr ds (1 - w)<=2*k:=by
      unfold B3 at h
      split at h <;> omega
     have a2:fr ds w+fr ds (1 - w)+tot ds [3]<=N:=by
      rcases (by omega:w=0\/w=1) with rfl | rfl
      ·exact all
      ·have:fr ds 1+fr ds (1 - 1)+tot ds [3]=fr ds 0+fr ds 1+tot ds [3]:=by show fr ds 1+fr ds 0+_=_;omega
       omega
     have jw:fr ds j<=fr ds w:=by
      have:j=w\/j=1 - w:=by have:=Gs j b;omega
      rcases this with rfl | rfl
      ·exact Dy _
      ·rcases win with c | ⟨c,_⟩ <;> omega
     omega
    have:=Rat.intCast_lt_intCast.mpr i;simp only [Cb,GQ] at this ⊢
    grind
   ·obtain rfl:j=1 - w:=by have:=Gs j b;omega
    exact (Nj k6 w2 k).mpr h
 have a:=(key f).mp (Dy _);have b:=(key (B3 ds xs w)).mpr (Dy _);omega
theorem Vc (p:Ac Ab->AI) (ts:Ac Ab):∀ds:Ds,tot (ds.filter fun q=>p q.1) ts=if p ts=Af then tot ds ts else 0
 | []=>by split <;> rfl
 | q :: ds=>by
   have ih:=Vc p ts ds;have e:tot (q :: ds) ts=(if q.1=ts then q.2 else 0)+tot ds ts:=rfl;rw [Ht,e];by_cases c:p q.1=Af
   ·rw [Ar c];show (if q.1=ts then q.2 else 0)+tot _ ts=_;rw [ih];by_cases z:q.1=ts
    ·rw [<- z,c];rfl
    ·rw [Ao z];split <;> omega
   ·rw [Ao c,ih];by_cases z:q.1=ts
    ·rw [<- z,Ao c,Ao c]
    ·rw [Ao z];split <;> omega
theorem Lu {ts:Ac Ab}:∀(l:Ds) {m:Ab},0<=m->(∀q∈l,0<=q.2)->0<=tot (Bb l m) ts/\tot (Bb l m) ts<=tot l ts
 | [],_,_,_=>⟨Dy _,Dy _⟩
 | q :: l,m,h,k=>by
   have q0:=k q (AV ..);obtain ⟨a,b⟩:=Lu (ts:=ts) l (m:=m - min q.2 m) (by omega) fun q m=>k q (Bc _ m)
   have e:tot (Bb (q :: l) m) ts=(if q.1=ts then min q.2 m else 0)+tot (Bb l (m - min q.2 m)) ts:=by
    show tot ((if 0 < min q.2 m then [(q.1,min q.2 m)] else [])++Bb l (m - min q.2 m)) ts=_;rw [Io]
    congr 1
    by_cases c:0 < min q.2 m
    ·rw [Ar c];show (if q.1=ts then min q.2 m else 0)+0=_;omega
    ·rw [Ao c];show (0:Ab)=_;have:min q.2 m=0:=by omega
     rw [this]
     split <;> rfl
   have e2:tot (q :: l) ts=(if q.1=ts then q.2 else 0)+tot l ts:=rfl;rw [e,e2]
   split <;> omega
theorem Vb:∀(l:Ds) {m:Ab},0<=m->(∀q∈l,0<=q.2)->Bw (Bb l m)=min m (Bw l)/\EW l m=m - Bw (Bb l m)/\0<=Bw l
 | [],m,h,_=>⟨by show (0:Ab)=min m 0;omega,by show m=m - 0;omega,Dy _⟩
 | q :: l,m,h,k=>by
   have q0:=k q (AV ..);obtain ⟨a,b,c⟩:=Vb l (m:=m - min q.2 m) (by omega) fun q m=>k q (Bc _ m)
   have e:Bw (Bb (q :: l) m)=min q.2 m+Bw (Bb l (m - min q.2 m)):=by
    show Bw ((if 0 < min q.2 m then [(q.1,min q.2 m)] else [])++Bb l (m - min q.2 m))=_;unfold Bw;rw [AK,Wq]
    congr 1
    by_cases c:0 < min q.2 m
    ·rw [Ar c];show min q.2 m+0=_;omega
    ·rw [Ao c];show (0:Ab)=_;omega
   have e3:EW (q :: l) m=EW l (m - min q.2 m):=rfl;rw [e,Ln,e3,b];omega
theorem Lr:∀(l:Ds) {m:Ab},∀q∈Bb l m,0 < q.2/\∃p∈l,p.1=q.1
 | [],_,q,h=>nomatch h
 | p :: l,m,q,h=>by
   rcases mem_append.mp (show q∈(if 0 < min p.2 m then [(p.1,min p.2 m)] else [])++Bb l (m - min p.2 m) from h) with h | h
   ·split at h
    ·rename_i c
     rw [mem_singleton.mp h];exact ⟨c,p,AV ..,rfl⟩
    ·cases h
   ·obtain ⟨a,r,rm,e⟩:=Lr l q h;exact ⟨a,r,Bc _ rm,e⟩
theorem F1 {ds:Ds} (k:∀q∈ds,q.1∈S6):Bw ds=tot ds []+fr ds 0+fr ds 1+tot ds [3]:=by
 rw [<- UQ (K:=S6) (by decide) k];show tot ds []+(tot ds [1]+(tot ds [1,2]+(tot ds [2]+(tot ds [2,1]+(tot ds [3]+0)))))=tot ds []+(tot ds [1]+tot ds [1,2])+(tot ds [2]+tot ds [2,1])+tot ds [3];omega
theorem AcM {a b:Ds} (p:a.Perm b) (ts:Ac Ab):tot a ts=tot b ts:=by
 induction p with
 | nil=>rfl
 | cons x _ ih=>show _+_=_+_;rw [ih]
 | swap x y l=>show (_:Ab)+(_+_)=_+(_+_);omega
 | trans _ _ h1 h2=>exact h1.trans h2
structure Ky (ds:Ds) (w:Ae) (L:Ds):Prop where
 pm:L.Perm (ds.filter fun q=>!decide (q.1=[2 ^ (1 - w)]))
 srt:L.Pairwise fun a b=>Cp a.1 w (1 - w)<=Cp b.1 w (1 - w)
theorem Nm {w:Ae} (w2:w < 2) (q:Ac Ab × Ab) (h:q.1∈S6) (l:Ds):fr (q :: l) w=(if Cp q.1 w (1 - w)=0 then q.2 else 0)+fr l w:=by
 have d:∀w < 2,∀t∈S6,(Cp t w (1 - w)=0↔t=[2 ^ w]\/t=[2 ^ w,2 ^ (1 - w)])/\¬(t=[2 ^ w]/\t=[2 ^ w,2 ^ (1 - w)]):=by decide +kernel
 obtain ⟨a,b⟩:=d w w2 q.1 h;show (if q.1=[2 ^ w] then q.2 else 0)+tot l [2 ^ w]+((if q.1=[2 ^ w,2 ^ (1 - w)] then q.2 else 0)+tot l [2 ^ w,2 ^ (1 - w)])=_+(tot l [2 ^ w]+tot l [2 ^ w,2 ^ (1 - w)]);simp only [a];by_cases x:q.1=[2 ^ w]
 ·rw [Ar x,Ao fun y=>b ⟨x,y⟩,Ar (.inl x)];omega
 ·rw [Ao x];simp only [x,false_or];omega
theorem Qz {w:Ae} (w2:w < 2):∀l:Ds,(∀q∈l,q.1∈S6/\Cp q.1 w (1 - w)≠0)->fr l w=0
 | [],_=>rfl
 | q :: l,k=>by
   have kq:=k q (AV ..);rw [Nm w2 q kq.1,Ao kq.2,Qz w2 l fun q m=>k q (Bc _ m)];rfl
theorem U' {w:Ae} (w2:w < 2):∀(L:Ds) {m:Ab},0<=m->(∀q∈L,q.1∈S6/\0<=q.2)->L.Pairwise (fun a b=>Cp a.1 w (1 - w)<=Cp b.1 w (1 - w))->fr (Bb L m) w=min m (fr L w)/\0<=fr L w
 | [],m,m0,_,_=>⟨by show (0:Ab)=min m 0;omega,Dy _⟩
 | q :: l,m,m0,k,s=>by
   obtain ⟨s1,s2⟩:=pairwise_cons.mp s;have kq:=k q (AV ..);have kl:=fun q m=>k q (Bc _ m);obtain ⟨a,b⟩:=U' w2 l (m:=m - min q.2 m) (by omega) kl s2
   have e:fr (Bb (q :: l) m) w=(if Cp q.1 w (1 - w)=0 then min q.2 m else 0)+fr (Bb l (m - min q.2 m)) w:=by
    show fr ((if 0 < min q.2 m then [(q.1,min q.2 m)] else [])++_) w=_;by_cases c:0 < min q.2 m
    ·rw [Ar c];exact Nm w2 (q.1,min q.2 m) kq.1 _
    ·rw [Ao c,(by omega:min q.2 m=0)];rw [Wo];split <;> omega
   rw [e,a,Nm w2 q kq.1];by_cases t:Cp q.1 w (1 - w)=0
   ·rw [Ar t,Ar t];omega
   ·rw [Ao t,Ao t,Qz w2 l fun p pm=>⟨(kl p pm).1,by have:=s1 p pm;have:=AcP q.1 w (1 - w);omega⟩];omega
theorem Ny {ds L:Ds} {w:Ae} {m:Ab} (o:Ky ds w L) (k:∀q∈ds,q.1∈S6) (n0:∀q∈ds,0<=q.2) (w2:w < 2) (m0:0<=m) (mf:m<=Bw ds - tot ds [2 ^ (1 - w)]) :
 fr (Bb L m) w=min m (fr ds w)/\tot (Bb L m) [2 ^ (1 - w)]=0/\Bw (Bb L m)=m/\tot (Bb L m) [2 ^ (1 - w),2 ^ w]<=m - min m (fr ds w)/\∀ts,0<=tot (Bb L m) ts/\tot (Bb L m) ts<=tot ds ts:=by
 have kL:∀q∈L,q.1∈S6/\0<=q.2:=fun q h=>have x:=(mem_filter.mp (o.pm.mem_iff.mp h)).1;⟨k q x,n0 q x⟩;have tl:∀ts,tot L ts=if (!decide (ts=[2 ^ (1 - w)]))=Af then tot ds ts else 0:=fun ts=>by rw [AcM o.pm,Vc fun ts=>!decide (ts=[2 ^ (1 - w)])]
 have tn:∀{ts},ts≠[2 ^ (1 - w)]->tot L ts=tot ds ts:=fun h=>by rw [tl,Ar (by rw [AS h];rfl)]
 have tz:tot L [2 ^ (1 - w)]=0:=by rw [tl,Ao (by rw [AT rfl];decide)]
 have tk:=fun ts=>Lu (ts:=ts) L m0 fun q h=>(kL q h).2;have t0:∀ts,0<=tot ds ts:=fun ts=>by have:=Lu (ts:=ts) ds (m:=0) (Dy _) n0;omega
 have up:∀ts,0<=tot (Bb L m) ts/\tot (Bb L m) ts<=tot ds ts:=fun ts=>⟨(tk ts).1,by
  by_cases c:ts=[2 ^ (1 - w)]
  ·have:=tk ts;have:=t0 ts;rw [c] at *;omega
  ·rw [<- tn c];exact (tk ts).2⟩
 obtain ⟨a1,a2⟩:=U' w2 L m0 kL o.srt;obtain ⟨b1,_,_⟩:=Vb L m0 fun q h=>(kL q h).2;have ne:∀w < 2,[2 ^ w]≠([2 ^ (1 - w)]:Ac Ab):=by decide +kernel
 have fe:fr L w=fr ds w:=by unfold fr;rw [tn (ne w w2),tn (by simp)]
 have p1:=F1 k;have p2:=F1 fun q h=>(kL q h).1
 have p3:=F1 (ds:=Bb L m) fun q h=>by
  obtain ⟨_,p,pm,e⟩:=Lr L q h;rw [<- e];exact (kL p pm).1
 have x1:=up [];have x2:=up [3];have x3:=up [2 ^ (1 - w)];have y1:=tn (ts:=[]) (by intro h;cases h);have y2:=tn (ts:=[3]) (by rcases (by omega:w=0\/w=1) with rfl | rfl <;> decide);have y3:tot L [2 ^ (1 - w),2 ^ w]=tot ds [2 ^ (1 - w),2 ^ w]:=tn (by simp)
 have z:∀l:Ds,fr l 0+fr l 1=fr l w+(tot l [2 ^ (1 - w)]+tot l [2 ^ (1 - w),2 ^ w]):=fun l=>by
  rcases (by omega:w=0\/w=1) with rfl | rfl
  ·rfl
  ·exact Int.add_comm ..
 have z1:=z ds;have z2:=z L;have z3:=z (Bb L m);have x4:=(tk [2 ^ (1 - w)]).2;rw [fe] at a1;exact ⟨a1,by omega,by omega,by omega,up⟩
theorem Ve (put:Ac Ab):∀(T:Ds) (ts:Ac Ab),tot (Er (T.map fun q=>(q.1,put,q.2))) ts=if put=ts then Bw T else 0
 | [],ts=>by split <;> rfl
 | q :: T,ts=>by
   have ih:=Ve put T ts;show (if put=ts then q.2 else 0)+tot (Er (T.map fun q=>(q.1,put,q.2))) ts=_;rw [ih,Ln]
   split <;> omega
theorem Ob (put:Ac Ab):∀(T:Ds) (ts:Ac Ab),tot (Dj (T.map fun q=>(q.1,put,q.2))) ts=-tot T ts
 | [],ts=>rfl
 | q :: T,ts=>by
   have ih:=Ob put T ts;show (if q.1=ts then -q.2 else 0)+tot (Dj (T.map fun q=>(q.1,put,q.2))) ts=-((if q.1=ts then q.2 else 0)+tot T ts);rw [ih]
   split <;> omega
theorem Z_ {ds es L:Ds} {xs:Ac Ab} {w:Ae} {m:Ab} (o:Ky ds w L) (pm:xs.Perm (ups 2)) (k:∀q∈ds,q.1∈S6) (n0:∀q∈ds,0<=q.2) (w2:w < 2) (win:DR ds xs w) (m0:0<=m) (mf:m<=Bw ds - tot ds [2 ^ (1 - w)])
 (e:∀ts,tot es ts=tot ds ts - tot (Bb L m) ts+if [2 ^ (1 - w)]=ts then m else 0):(m < B3 ds xs w->DR es xs w)/\(B3 ds xs w<=m->DR es xs (1 - w)):=by
 obtain ⟨f1,f2,_,f4,f5⟩:=Ny o k n0 w2 m0 mf;have t0:∀ts,0<=tot ds ts:=fun ts=>by have:=f5 ts;omega
 have ord:xs.idxOf ((1 - w:Ae):Ab) < xs.idxOf (w:Ab)↔¬ xs.idxOf (w:Ab) < xs.idxOf ((1 - w:Ae):Ab):=by
  rcases Ip pm with rfl | rfl <;> rcases (by omega:w=0\/w=1) with rfl | rfl <;> decide +kernel
 have ww:1 - (1 - w)=w:=by omega
 have ne1:([2 ^ (1 - w)]:Ac Ab)≠[2 ^ w]:=by rcases (by omega:w=0\/w=1) with rfl | rfl <;> decide
 have g1:fr es w=fr ds w - min m (fr ds w):=by
  rw [<- f1];unfold fr;rw [e,e,Ao ne1,Ao (by simp)];omega
 have g2:fr es (1 - w)=fr ds (1 - w)+m - tot (Bb L m) [2 ^ (1 - w),2 ^ w]:=by
  unfold fr;rw [ww,e,e,Ar rfl,Ao (by simp),f2];omega
 have a1:=f5 [2 ^ (1 - w),2 ^ w];have a2:=t0 [2 ^ (1 - w)];have a3:=t0 [2 ^ w];have a4:=t0 [2 ^ w,2 ^ (1 - w)];have a5:fr ds (1 - w)=tot ds [2 ^ (1 - w)]+tot ds [2 ^ (1 - w),2 ^ w]:=by unfold fr;rw [ww]
 have a6:0<=fr ds w:=by unfold fr;omega
 unfold DR at win ⊢;rw [ww,ord,g1,g2];unfold B3;by_cases c:xs.idxOf (w:Ab) < xs.idxOf ((1 - w:Ae):Ab)
 ·rw [Ar c]
  constructor
  ·intro h;by_cases z:fr ds (1 - w)+m - tot (Bb L m) [2 ^ (1 - w),2 ^ w] < fr ds w - min m (fr ds w)
   ·exact .inl z
   ·exact .inr ⟨by omega,c⟩
  ·intro h;exact .inl (by omega)
 ·rw [Ao c]
  have win:fr ds (1 - w) < fr ds w:=by
   rcases win with d | d
   ·exact d
   ·exact Aw d.2 c
  constructor
  ·intro h;exact .inl (by omega)
  ·intro h;by_cases z:fr ds w - min m (fr ds w) < fr ds (1 - w)+m - tot (Bb L m) [2 ^ (1 - w),2 ^ w]
   ·exact .inl z
   ·exact .inr ⟨by omega,c⟩
theorem Qk {ds:Ds} {xs:Ac Ab} {w:Ae} (k:∀q∈ds,q.1∈S6) (t0:∀ts,0<=tot ds ts) (w2:w < 2) (win:DR ds xs w) (N1:1<=Bw ds):B3 ds xs w<=Bw ds - tot ds [2 ^ (1 - w)]:=by
 have p:=F1 k;have b1:=t0 [];have b2:=t0 [3];have b3:=t0 [2 ^ (1 - w),2 ^ w];have a2:=t0 [2 ^ (1 - w)];have a3:=t0 [2 ^ w];have a4:=t0 [2 ^ w,2 ^ (1 - w)];have ww:1 - (1 - w)=w:=by omega
 have a5:fr ds (1 - w)=tot ds [2 ^ (1 - w)]+tot ds [2 ^ (1 - w),2 ^ w]:=by unfold fr;rw [ww]
 have a6:0<=fr ds w:=by unfold fr;omega
 have a7:fr ds 0+fr ds 1=fr ds w+fr ds (1 - w):=by
  rcases (by omega:w=0\/w=1) with rfl | rfl
  ·rfl
  ·show fr ds 0+fr ds 1=fr ds 1+fr ds 0;omega
 unfold B3;rcases win with c | ⟨c,d⟩
 ·split <;> omega
 ·rw [Ar d];omega
noncomputable def G7 (out:Ac Ab) (x j:Ae):Ac (Ab × Ab):=((Bo j).filter fun y=>decide (out.getD y 0=0)).map fun y:Ae=>((x:Ab),(y:Ab))
theorem S1 (out:Ac Ab) (x j:Ae):G7 out x (j+1)=G7 out x j++if out.getD j 0=0 then [((x:Ab),(j:Ab))] else []:=by
 unfold G7;rw [Hw,EG,AK];by_cases c:out.getD j 0=0
 ·rw [Ar c,LR (by simpa using c)];rfl
 ·rw [Ao c,LQ (by simpa using c)];rfl
theorem NR (out:Ac Ab) (x j:Ae):(G7 out x j).length<=j:=by
 unfold G7;rw [At];have:=EH (fun y=>decide (out.getD y 0=0)) (Bo j);rw [D6] at this;exact this
noncomputable def Ie (out:Ac Ab) (i:Ae):Ac (Ab × Ab):=((Bo i).filter fun x=>decide (0 < out.getD x 0)).flatMap fun x:Ae=>G7 out x out.length
theorem NE (out:Ac Ab) (i:Ae):Ie out (i+1)=Ie out i++if 0 < out.getD i 0 then G7 out i out.length else []:=by
 unfold Ie;rw [Hw,EG,We];by_cases c:0 < out.getD i 0
 ·rw [Ar c,LR (by simpa using c)];simp
 ·rw [Ao c,LQ (by simpa using c)];rfl
theorem RC (out:Ac Ab):∀i,(Ie out i).length<=i*out.length
 | 0=>Br _
 | i+1=>by
   rw [NE,Bj,Nat.succ_mul];have:=RC out i;have:=NR out i out.length
   split
   ·omega
   ·show _+0<=_;omega
noncomputable def RB (out:Ac Ab):Ac (Ab × Ab):=Ie out out.length
theorem Ys {K:A8} {a:Ad} {zs:Ac V} {tt:TT} {te:TE} {σ:St} {H1:Hp} {Q:Ad->Hp->Prop} {n m:Ae} (hn:n=σ.length) (hm:m=σ.length+1) (hz:zs.length<=AB) (Pv:Ad->Ae->Ac V->Hp->Prop)
 (h0:∀D,H1 D=Ai->Pv D 0 [] (upd H1 D (.lst []))) (hD:∀D i ys H,Pv D i ys H->H D=Aa (.lst ys)/\ys.length<=i) (hl:∀D i ys H,H1 D=Ai->Pv D i ys H->SqL K H a zs)
 (hs:∀D i x ys H T (K1:VK) (K2:Hp->Prop),H1 D=Ai->zs[i]?=Aa x->Pv D i ys H->H T=Ai->(∀y H5,H5 D=Aa (.lst ys)->Pv D (i+1) (ys++[y]) (upd H5 D (.lst (ys++[y])))->K1 y H5)->(∀H4,Pv D (i+1) ys H4->K2 H4) ->
  tt (σ++[Aa (.int (i:Ab)),Aa x]) (upd H T (.tup [.int (i:Ab),x])) fun b H4=>if b=Af then te (σ++[Aa (.int (i:Ab)),Aa x]) H4 K1 else K2 H4)
 (hd:∀D ys H,H1 D=Ai->Pv D zs.length ys H->Q D H) :
 ∀D,H1 D=Ai->∃W:Ae->Ae->Ac V->Hp->Prop,(∃m,W 0 m [] (upd H1 D (.lst [])))/\∀i k ys H2,W i k ys H2 ->
  H2 D=Aa (.lst ys)/\(((Ite K a).stop i H2/\Q D H2)\/((Ite K a).go i H2/\ys.length < AB/\∀x H3,(Ite K a).yld i H2 x H3->∀os:St,os.length=2->EQ K 2 (C7 (BS n) (C7 (BS m) Fn)) x (σ++os) H3 fun σ4 H4=>(∃os':St,σ4=σ++os'/\os'.length=2)/\tt σ4 H4 fun b H5=>if b=Af then te σ4 H5 fun y H6=>H6 D=Aa (.lst ys)/\∃m',m' < k/\W (i+1) m' (ys++[y]) (upd H6 D (.lst (ys++[y])))
   else ∃m',m' < k/\W (i+1) m' ys H5)):=by
 intro D hDn;subst hn hm;refine ⟨fun i m ys H=>m=zs.length - i/\i<=zs.length/\Pv D i ys H,⟨zs.length,rfl,Br _,h0 D hDn⟩,?_⟩;rintro i m ys H2 ⟨rfl,hi,p⟩;obtain ⟨e,l⟩:=hD D i ys H2 p;have q:=hl D i ys H2 hDn p;refine ⟨e,?_⟩;by_cases hlt:i < zs.length
 ·refine .inr ⟨⟨zs,zs[i],q,by simp [hlt]⟩,Dn l (B' hlt hz),fun x H3 y os ho=>?_⟩;obtain ⟨t,w,rfl,ht,rfl,y⟩:=y;have q5:=hs D i w ys _ t (fun y H6=>H6 D=Aa (.lst ys)/\∃m',m' < zs.length - i/\m'=zs.length - (i+1)/\i+1<=zs.length/\Pv D (i+1) (ys++[y]) (upd H6 D (.lst (ys++[y])))) (fun H5=>∃m',m' < zs.length - i/\m'=zs.length - (i+1)/\i+1<=zs.length/\Pv D (i+1) ys H5) hDn (y zs q) p ht (fun y H5 h5 p5=>⟨h5,zs.length - (i+1),by omega,rfl,hlt,p5⟩) fun H4 p4=>⟨zs.length - (i+1),by omega,rfl,hlt,p4⟩
  match os,ho with
  | [o1,o2],_ =>
    have e2:((σ++[o1,o2]).set σ.length (Aa (.int (i:Ab)))).set (σ.length+1) (Aa w)=σ++[Aa (.int (i:Ab)),Aa w]:=by
     rw [Eg _ _ (A1 _),EI,Eg _ _ (Dl _)];rw [show (BM σ+1) - BM σ=1 by omega];rfl
    refine ⟨t,[.int (i:Ab),w],rfl,SqT.of Az,rfl,.int (i:Ab),[w],rfl,w,[],rfl,rfl,?_⟩;refine ⟨⟨[Aa (.int (i:Ab)),Aa w],e2,rfl⟩,?_⟩;rw [e2];exact q5
 ·have ei:i=zs.length:=by omega
  subst ei;exact .inl ⟨⟨zs,q,A1 _⟩,hd D ys H2 hDn p⟩
noncomputable def IsM (C:Ad) (H:Hp) (g a:Ad):Prop:=∃dx,H g=Aa (.ins C dx [("way",.ref a)])
theorem IsM.same {C:Ad} {H H':Hp} {g a:Ad} (s:Ax H H') (m:IsM C H g a):IsM C H' g a:=let ⟨dx,h⟩:=m;⟨dx,s _ _ h⟩
theorem IsM.sm {C:Ad} {H H':Hp} {g a:Ad} (s:Sm H H') (m:IsM C H g a):IsM C H' g a:=let ⟨dx,h⟩:=m;⟨dx,s.keep _ _ h rfl⟩
theorem Abv (x:V):Bz "way" x []=([("way",x)]:Ac (Ak × V)):=rfl
inductive Ui (K:A8) (vs:Ac V) (H:Hp) (Q:VK) (E:XK):Prop
 | mk (g C dx a:Ad):vs=[.ref g,.ref a]->H g=Aa (.ins C dx [])->Cls K C->Cc K C "way"->(∀H':Hp,Ax (off H g) H'->H' g=Aa (.ins C dx [("way",.ref a)])->Q .non H')->Ui K vs H Q E
abbrev Pq:=Ac (Ad × Ab × Ab)
noncomputable def vpq (ps:Pq):Ac V:=ps.map fun q=>.ref q.1
noncomputable def EN (H:Hp) (ps:Pq):Prop:=∀q∈ps,H q.1=Aa (.tup [.int q.2.1,.int q.2.2])
theorem EN.upd {H:Hp} {ps:Pq} {l:Ad} {xs:Ac V} {o:HO} (e:H l=Aa (.lst xs)) (g:EN H ps):EN (L2.upd H l o) ps:=fun q m=>by
 rw [AF (Ce (g q m) e (fun z=>by cases z))];exact g q m
theorem EN.same {H H':Hp} {ps:Pq} (s:Ax H H') (g:EN H ps):EN H' ps:=fun q m=>s _ _ (g q m)
theorem Ly (ps:Pq):(vpq ps).length=ps.length:=At _
inductive Up (vs:Ac V) (H:Hp) (Q:VK) (E:XK):Prop
 | mk (o:Ad) (out:Ac Ab):vs=[.ref o]->H o=Aa (.lst (out.map V.int))->out.length<=12->(∀(l:Ad) (ps:Pq) (H':Hp),H l=Ai->Ax H H'->H' l=Aa (.lst (vpq ps))->EN H' ps->ps.map (·.2)=RB out->Q (.ref l) H')->Up vs H Q E
inductive U1 (vs:Ac V) (H:Hp) (Q:VK) (E:XK):Prop
 | mk (g:Ad) (x y:Ae):vs=[.ref g,.int (x:Ab),.int (y:Ab)]->y < 12->(∀(t:Ad) (H':Hp),H t=Ai->Ax H H'->H' t=Aa (.tup ([(2:Ab) ^ y].map V.int))->Q (.ref t) H')->U1 vs H Q E
inductive Us (M C:Ad) (vs:Ac V) (H:Hp) (Q:VK) (E:XK):Prop
 | mk (g a l:Ad) (h s:Ab) (xs:Ac Ab) (ls:Ls):vs=[.ref g,.ref l]->IsM M H g a->IsS C H a h s xs->H l=Aa (.lst (vls ls))->By H ls->ls.length<=60->(∀H':Hp,Ax H H'->Q (.bl (decide (0 < Bw (Am ls)) && decide (s < h))) H')->Us M C vs H Q E
structure Cz where
 a:Ad
 dt:Ad
 st:Ad
 ds:Ac (Ad × Dd)
 m:Ab
 pl:Ab
 nd:Ab
noncomputable def fsC (dt:Ad) (m pl nd:Ab) (st:Ad):Ac (Ak × V):=[("deeds",.ref dt),("standing",.int m),("places",.int pl),("needed",.int nd),("state",.ref st)]
structure CzG (C:Ad) (H:Hp) (z:Cz):Prop where
 o:∃dx,H z.a=Aa (.ins C dx (fsC z.dt z.m z.pl z.nd z.st))
 t:H z.dt=Aa (.tup (z.ds.map fun d=>V.ref d.1))
 d:∀d∈z.ds,H d.1=Aa (.tup [.str d.2.word,d.2.who])
theorem CzG.same {C:Ad} {H H':Hp} {z:Cz} (s:Ax H H') (g:CzG C H z):CzG C H' z:=⟨let ⟨dx,h⟩:=g.o;⟨dx,s _ _ h⟩,s _ _ g.t,fun d m=>s _ _ (g.d d m)⟩
inductive TK (K:A8) (vs:Ac V) (H:Hp) (Q:VK) (E:XK):Prop
 | mk (g C dx dt st:Ad) (m pl nd:Ab):vs=[.ref g,.ref dt,.int m,.int pl,.int nd,.ref st]->H g=Aa (.ins C dx [])->Cls K C->Cc K C "deeds"->Cc K C "standing"->Cc K C "places"->Cc K C "needed"->Cc K C "state"->(∀H':Hp,Ax (off H g) H'->H' g=Aa (.ins C dx (fsC dt m pl nd st))->Q .non H')->TK K vs H Q E
noncomputable def Ha (m pl:Ab):AI:=decide (((hands 12 (bit m)).length:Ab)<=pl) || decide (pl=0)
inductive TW (C:Ad) (vs:Ac V) (H:Hp) (Q:VK) (E:XK):Prop
 | mk (z:Cz):vs=[.ref z.a]->CzG C H z->0<=z.m->z.m < 4096->(∀H',Ax H H'->Q (.bl (Ha z.m z.pl)) H')->TW C vs H Q E
noncomputable def Fx (z:Cz):Ac Ae:=Cv (z.ds.map (·.2))++if ((hands 12 (bit z.m)).length:Ab)<=z.pl then (Bo 12).filter (bit z.m) else []
noncomputable def F2 (h:Ae) (z:Cz):Ac Ab:=(Bo h).map fun j=>if j∈Fx z then 1 else 0
inductive U8 (C:Ad) (vs:Ac V) (H:Hp) (Q:VK) (E:XK):Prop
 | mk (z:Cz) (h:Ae):vs=[.ref z.a,.int (h:Ab)]->CzG C H z->0<=z.m->z.m < 4096->h<=12->z.ds.length<=12->(∀(l:Ad) (H':Hp),H l=Ai->Ax H H'->H' l=Aa (.lst ((F2 h z).map V.int))->Q (.ref l) H')->U8 C vs H Q E
inductive U3 (C:Ad) (vs:Ac V) (H:Hp) (Q:VK) (E:XK):Prop
 | mk (a l:Ad) (z:Cz):vs=[.ref a,.ref l,.ref z.a]->CzG C H z->z.ds=[]->(∀H',Ax H H'->Q (.ref z.st) H')->U3 C vs H Q E
inductive Ud (vs:Ac V) (H:Hp) (Q:VK) (E:XK):Prop
 | mk (f:Ab) (p r:Ad) (x y:Ap) (ab:AI):vs=[.int f,.ref p,.ref r,.bl ab]->1<=f->f<=2->FqG H (p,pr x)->FqG H (r,pr y)->Sz 4700 (pr x).1->Sz 4700 (pr x).2->Sz 4700 (pr y).1->Sz 4700 (pr y).2->(∀z:Ab,(∀k:Ab,z<=k↔if ab=Af then x < y+((f*k:Ab):Ap) else x<=y+((f*k:Ab):Ap))->Q (.int z) H)->Ud vs H Q E
inductive NZ (C:Ad) (seat:AI) (vs:Ac V) (H:Hp) (Q:VK) (E:XK):Prop
 | mk (a l:Ad) (h s:Ab) (xs:Ac Ab) (m q:Ab) (hd:Ae) (fs:Ac Fq) (su:Ac Ap):vs=[.ref a,.int q,.ref l,.int m,.int (hd:Ab)]->IsS C H a h s xs->SuZ H l fs su->0<=m->m < 4096->bit m hd=Af->hd < 12->(∀j,bit m j=Af->(j:Ab)∈xs/\j < su.length)->1<=q->Sz 64 q->(∀(f:Ab) (H':Hp),Ax H H'->(∀k:Ab,f<=k↔0<=k/\if seat=Af then K0 xs su m q hd k else Kz xs su m q hd k)->Q (.int f) H')->NZ C seat vs H Q E
inductive Ul (C:Ad) (vs:Ac V) (H:Hp) (Q:VK) (E:XK):Prop
 | mk (a l d:Ad) (h s:Ab) (xs:Ac Ab) (m n:Ab) (hd:Ae) (fs:Ac Fq) (su:Ac Ap) (seat:AI):vs=[.ref a,.int n,.ref l,.int m,.ref d]->H d=Aa (.tup [.str (if seat=Af then "seat" else "out"),.int (hd:Ab)])->IsS C H a h s xs->1<=s->s<=6->SuZ H l fs su->0<=m->m < 4096->bit m hd=Af->hd < 12->(∀j,bit m j=Af->(j:Ab)∈xs/\j < su.length)->1<=n.fdiv (s+1)+1->Sz 64 (n.fdiv (s+1)+1)->(∀(f:Ab) (H':Hp),Ax H H'->(∀k:Ab,f<=k↔0<=k/\if seat=Af then K0 xs su m (n.fdiv (s+1)+1) hd k else Kz xs su m (n.fdiv (s+1)+1) hd k)->Q (.int f) H')->Ul C vs H Q E
theorem Aa4 {y:Ae} (h:y < 12):Iz 0 ((1:Ab)*2 ^ y)=2 ^ y:=(by decide +kernel:∀y:Fin 12,Iz 0 ((1:Ab)*2 ^ y.val)=2 ^ y.val) ⟨y,h⟩
theorem Re {ns:Ac Ab} {M k:Ab} (m:M∈ns) (a:∀x∈ns,x<=M):M<=k↔∀x∈ns,x<=k:=⟨fun h x xm=>by have:=a x xm;omega,fun h=>h M m⟩
theorem Yv {K:A8} {a:Ad} {zs:Ac V} {tt:TT} {te:TE} {σ:St} {H1:Hp} {Q:Ad->Hp->Prop} {n m:Ae} (hn:n=σ.length) (hm:m=σ.length+1) (hz:zs.length<=AB) (Pv:Ad->Ae->Ac V->Hp->Prop)
 (h0:∀D,H1 D=Ai->Pv D 0 [] (upd H1 D (.lst []))) (hD:∀D i ys H,Pv D i ys H->H D=Aa (.lst ys)/\ys.length<=i) (hl:∀D i ys H,H1 D=Ai->Pv D i ys H->SqT K H a zs)
 (hs:∀D i x ys H (K1:VK) (K2:Hp->Prop),H1 D=Ai->zs[i]?=Aa x->Pv D i ys H->(∀y H5,H5 D=Aa (.lst ys)->Pv D (i+1) (ys++[y]) (upd H5 D (.lst (ys++[y])))->K1 y H5)->(∀H4,Pv D (i+1) ys H4->K2 H4) ->
  ∃t v w,x=.ref t/\SqT K H t [v,w]/\tt (σ++[Aa v,Aa w]) H fun b H4=>if b=Af then te (σ++[Aa v,Aa w]) H4 K1 else K2 H4)
 (hd:∀D ys H,H1 D=Ai->Pv D zs.length ys H->Q D H) :
 ∀D,H1 D=Ai->∃W:Ae->Ae->Ac V->Hp->Prop,(∃m,W 0 m [] (upd H1 D (.lst [])))/\∀i k ys H2,W i k ys H2 ->
  H2 D=Aa (.lst ys)/\(((Itt K a).stop i H2/\Q D H2)\/((Itt K a).go i H2/\ys.length < AB/\∀x H3,(Itt K a).yld i H2 x H3->∀os:St,os.length=2->EQ K 2 (C7 (BS n) (C7 (BS m) Fn)) x (σ++os) H3 fun σ4 H4=>(∃os':St,σ4=σ++os'/\os'.length=2)/\tt σ4 H4 fun b H5=>if b=Af then te σ4 H5 fun y H6=>H6 D=Aa (.lst ys)/\∃m',m' < k/\W (i+1) m' (ys++[y]) (upd H6 D (.lst (ys++[y])))
   else ∃m',m' < k/\W (i+1) m' ys H5)):=by
 intro D hDn;subst hn hm;refine ⟨fun i m ys H=>m=zs.length - i/\i<=zs.length/\Pv D i ys H,⟨zs.length,rfl,Br _,h0 D hDn⟩,?_⟩;rintro i m ys H2 ⟨rfl,hi,p⟩;obtain ⟨e,l⟩:=hD D i ys H2 p;have q:=hl D i ys H2 hDn p;refine ⟨e,?_⟩;by_cases hlt:i < zs.length
 ·refine .inr ⟨⟨zs,zs[i],q,by simp [hlt]⟩,Dn l (B' hlt hz),fun x H3 y os ho=>?_⟩;obtain ⟨e1,y⟩:=y;subst e1;obtain ⟨t,v,w,rfl,ht,q5⟩:=hs D i x ys _ (fun y H6=>H6 D=Aa (.lst ys)/\∃m',m' < zs.length - i/\m'=zs.length - (i+1)/\i+1<=zs.length/\Pv D (i+1) (ys++[y]) (upd H6 D (.lst (ys++[y])))) (fun H5=>∃m',m' < zs.length - i/\m'=zs.length - (i+1)/\i+1<=zs.length/\Pv D (i+1) ys H5) hDn (y zs q) p (fun y H5 h5 p5=>⟨h5,zs.length - (i+1),by omega,rfl,hlt,p5⟩) fun H4 p4=>⟨zs.length - (i+1),by omega,rfl,hlt,p4⟩
  match os,ho with
  | [o1,o2],_ =>
    have e2:((σ++[o1,o2]).set σ.length (Aa v)).set (σ.length+1) (Aa w)=σ++[Aa v,Aa w]:=by
     rw [Eg _ _ (A1 _),EI,Eg _ _ (Dl _)];rw [show (BM σ+1) - BM σ=1 by omega];rfl
    refine ⟨t,[v,w],rfl,ht,rfl,v,[w],rfl,w,[],rfl,rfl,?_⟩;refine ⟨⟨[Aa v,Aa w],e2,rfl⟩,?_⟩;rw [e2];exact q5
 ·have ei:i=zs.length:=by omega
  subst ei;exact .inl ⟨⟨zs,q,A1 _⟩,hd D ys H2 hDn p⟩
theorem Abk (dt st:Ad) (m pl nd:Ab):Bz "deeds" (.ref dt) []=([("deeds",.ref dt)]:Ac (Ak × V)):=by
 rfl
theorem Abl (dt st:Ad) (m pl nd:Ab):Bz "standing" (.int m) [("deeds",.ref dt)]=([("deeds",.ref dt),("standing",.int m)]:Ac (Ak × V)):=by
 unfold Bz;rw [Ao (by decide)];rfl
theorem Abm (dt st:Ad) (m pl nd:Ab):Bz "places" (.int pl) [("deeds",.ref dt),("standing",.int m)]=([("deeds",.ref dt),("standing",.int m),("places",.int pl)]:Ac (Ak × V)):=by
 unfold Bz;rw [Ao (by decide)];unfold Bz;rw [Ao (by decide)];rfl
theorem Abn (dt st:Ad) (m pl nd:Ab):Bz "needed" (.int nd) [("deeds",.ref dt),("standing",.int m),("places",.int pl)]=([("deeds",.ref dt),("standing",.int m),("places",.int pl),("needed",.int nd)]:Ac (Ak × V)):=by
 unfold Bz;rw [Ao (by decide)];unfold Bz;rw [Ao (by decide)];unfold Bz;rw [Ao (by decide)];rfl
theorem Abo (dt st:Ad) (m pl nd:Ab):Bz "state" (.ref st) [("deeds",.ref dt),("standing",.int m),("places",.int pl),("needed",.int nd)]=([("deeds",.ref dt),("standing",.int m),("places",.int pl),("needed",.int nd),("state",.ref st)]:Ac (Ak × V)):=by
 unfold Bz;rw [Ao (by decide)];unfold Bz;rw [Ao (by decide)];unfold Bz;rw [Ao (by decide)];unfold Bz;rw [Ao (by decide)];rfl
inductive TZ (C M:Ad) (vs:Ac V) (H:Hp) (Q:VK) (E:XK):Prop
 | mk (a l:Ad) (h s:Ae) (xs:Ac Ab) (ls:Ls):vs=[.ref a,.ref l]->IsS C H a (h:Ab) (s:Ab) xs->h<=12->H l=Aa (.lst (vls ls))->ls.length<=60->(∀(z:Cz) (yh:Ac Sh) (H':Hp),H z.a=Ai->Ax H H'->CzG M H' z->z.ds=[]->z.m=2 ^ h - 1->z.pl=s->z.nd=0->H' z.st=Aa (.lst (shv yh))->(∀x∈yh,ShG H' x/\x.2.1.2=(1,1)/\x.2.2.2.map (·.2)=Cy h (0,1))->yh.length=ls.length->Q (.ref z.a) H')->TZ C M vs H Q E
structure Bhd (xs:Ac Ab) (su:Ac Ap) (q:Ab) (z z':Cz) (d:Ad) (seat:AI) (hd:Ae):Prop where
 ds:z'.ds=z.ds++[(d,if seat=Af then .seat hd else .out hd)]
 m:z'.m=z.m - 2 ^ hd
 pl:z'.pl=if seat=Af then z.pl - 1 else z.pl
 nd:∃f:Ab,z'.nd=max z.nd f/\∀k:Ab,f<=k↔0<=k/\if seat=Af then K0 xs su z.m q hd k else Kz xs su z.m q hd k
inductive TJ (C M:Ad) (vs:Ac V) (H:Hp) (Q:VK) (E:XK):Prop
 | mk (a l d st:Ad) (h s:Ab) (xs:Ac Ab) (n:Ab) (hd:Ae) (fs:Ac Fq) (su:Ac Ap) (seat:AI) (z:Cz):vs=[.ref a,.int n,.ref l,.ref st,.ref z.a,.ref d]->H d=Aa (.tup [.str (if seat=Af then "seat" else "out"),.int (hd:Ab)])->IsS C H a h s xs->1<=s->s<=6->SuZ H l fs su->CzG M H z->z.ds=[]->0<=z.m->z.m < 4096->bit z.m hd=Af->hd < 12->(∀j,bit z.m j=Af->(j:Ab)∈xs/\j < su.length)->1<=n.fdiv (s+1)+1->Sz 64 (n.fdiv (s+1)+1)->(∀(z':Cz) (H':Hp),H z'.a=Ai->Ax H H'->CzG M H' z'->Bhd xs su (n.fdiv (s+1)+1) z z' d seat hd->Q (.ref z'.a) H')->TJ C M vs H Q E
inductive UK (C M N:Ad) (vs:Ac V) (H:Hp) (Q:VK) (E:XK):Prop
 | mk (g a oc:Ad) (h:Ae) (s:Ab) (xs out:Ac Ab) (low:Ab) (z:Cz):vs=[.ref g,.ref oc,.int low,.ref z.a]->IsM N H g a->IsS C H a (h:Ab) s xs->h<=12->H oc=Aa (.lst (out.map V.int))->CzG M H z->0<=z.m->z.m < 4096->z.ds.length<=12->(∀(x:Ak) (H':Hp),Ax H H'->Q (.str x) H')->UK C M N vs H Q E
abbrev Wr:=(Ab × Ab) × Ad × Ac Cz
noncomputable def wkv (W:Ac Wr):Ac (Ac Key × V):=W.map fun w=>([AH w.1.1,AH w.1.2],.ref w.2.1)
noncomputable def zrf (zs:Ac Cz):Ac V:=zs.map fun z=>.ref z.a
noncomputable def bag (W:Ac Wr):Ac Cz:=W.flatMap fun w=>w.2.2
structure Wt (M:Ad) (B H:Hp) (d:Ad) (W:Ac Wr):Prop where
 b:Ax B H
 bd:B d=Ai
 d:H d=Aa (.dT (wkv W))
 l:∀w∈W,H w.2.1=Aa (.lst (zrf w.2.2))/\B w.2.1=Ai/\w.2.2≠[]
 ad:W.Pairwise fun v w=>v.2.1≠w.2.1
 c:∀w∈W,∀z∈w.2.2,CzG M B z/\w.1=(z.nd,-(z.ds.length:Ab))
theorem DZ (V W:Ac Wr):bag (V++W)=bag V++bag W:=We
theorem Fl (w:Wr) (W:Ac Wr):bag (w :: W)=w.2.2++bag W:=flatMap_cons
theorem MW {M:Ad} {B H:Hp} {d:Ad} {W:Ac Wr} (g:Wt M B H d W):W.length<=(bag W).length:=by
 have k:∀V:Ac Wr,(∀w∈V,w.2.2≠[])->V.length<=(bag V).length:=fun V=>by
  induction V with
  | nil=>exact fun _=>Br _
  | cons w V ih =>
    intro h;have:=ih fun x m=>h x (Bc _ m);have n:=length_pos_iff.mpr (h w (AV ..));rw [Fl,Bj,BP];omega
 exact k W fun w m=>(g.l w m).2.2
theorem Lz (key:Ab × Ab):∀W:Ac Wr,((∃V w U,W=V++w :: U/\w.1=key/\A' (wkv W) [AH key.1,AH key.2]=Aa (.ref w.2.1))\/A' (wkv W) [AH key.1,AH key.2]=Ai/\∀w∈W,w.1≠key)
 | []=>.inr ⟨rfl,fun _ m=>Aw m Bm⟩
 | w :: W=>by
   have e:([AH w.1.1,AH w.1.2]:Ac Key)=[AH key.1,AH key.2]↔w.1=key:=by
    simp [Prod.ext_iff]
   by_cases c:w.1=key
   ·exact .inl ⟨[],w,W,rfl,c,Ev (e.mpr c)⟩
   ·have n:A' (wkv (w :: W)) [AH key.1,AH key.2]=A' (wkv W) [AH key.1,AH key.2]:=Eu (fun z=>c (e.mp z));rcases Lz key W with ⟨V,x,U,e1,e2,e3⟩ | ⟨e1,e2⟩
    ·exact .inl ⟨w :: V,x,U,by rw [e1];rfl,e2,by rw [n];exact e3⟩
    ·refine .inr ⟨by rw [n];exact e1,fun x m=>?_⟩;rcases mem_cons.mp m with rfl | m
     ·exact c
     ·exact e2 x m
theorem Wt.swap {M:Ad} {B H H':Hp} {d:Ad} {V U:Ac Wr} {w:Wr} {zs:Ac Cz} (g:Wt M B H d (V++w :: U)) (s:Ax (off H w.2.1) H') (e:H' w.2.1=Aa (.lst (zrf zs))) (ne:zs≠[]) (c:∀z∈zs,CzG M B z/\w.1=(z.nd,-(z.ds.length:Ab))):Wt M B H' d (V++(w.1,w.2.1,zs) :: U):=by
 obtain ⟨p1,p2,p3⟩:=pairwise_append.mp g.ad;obtain ⟨p4,p5⟩:=pairwise_cons.mp p2;have wl:=g.l w (B8 _ (AV ..));refine ⟨fun a o h=>s _ _ (Du (g.b _ _ h) fun e=>by rw [e,wl.2.1] at h;cases h),g.bd,?_,fun x m=>?_,pairwise_append.mpr ⟨p1,pairwise_cons.mpr ⟨p4,p5⟩,fun x xm y ym=>?_⟩,fun x m z zm=>?_⟩
 ·rw [s _ _ (Du g.d fun e=>by have:=g.d;rw [e,wl.1] at this;cases this)];unfold wkv;rw [AK,AK];rfl
 ·rcases mem_append.mp m with m | m
  ·have:=g.l x (CB _ m);exact ⟨s _ _ (Du this.1 (p3 x m w (AV ..))),this.2⟩
  ·rcases mem_cons.mp m with rfl | m
   ·exact ⟨e,wl.2.1,ne⟩
   ·have:=g.l x (B8 _ (Bc _ m));exact ⟨s _ _ (Du this.1 (BF (p4 x m))),this.2⟩
 ·rcases mem_cons.mp ym with rfl | ym
  ·exact p3 x xm w (AV ..)
  ·exact p3 x xm y (Bc _ ym)
 ·rcases mem_append.mp m with m | m
  ·exact g.c x (CB _ m) z zm
  ·rcases mem_cons.mp m with rfl | m
   ·exact c z zm
   ·exact g.c x (B8 _ (Bc _ m)) z zm
theorem Wt.drop {M:Ad} {B H H':Hp} {d:Ad} {V U:Ac Wr} {w:Wr} (g:Wt M B H d (V++w :: U)) (s:Ax (off H w.2.1) H'):Wt M B (upd H' d (.dT (wkv (V++U)))) d (V++U):=by
 obtain ⟨p1,p2,p3⟩:=pairwise_append.mp g.ad;obtain ⟨p4,p5⟩:=pairwise_cons.mp p2;have wl:=g.l w (B8 _ (AV ..))
 have sub:∀x∈V++U,x∈V++w :: U:=fun x m=>by
  rcases mem_append.mp m with m | m
  ·exact CB _ m
  ·exact B8 _ (Bc _ m)
 refine ⟨Bs (fun a o h=>s _ _ (Du (g.b _ _ h) fun e=>by rw [e,wl.2.1] at h;cases h)) g.bd,g.bd,Az,fun x m=>?_,pairwise_append.mpr ⟨p1,p5,fun x xm y ym=>p3 x xm y (Bc _ ym)⟩,fun x m=>g.c x (sub x m)⟩;have:=g.l x (sub x m)
 have xw:x.2.1≠w.2.1:=by
  rcases mem_append.mp m with m | m
  ·exact p3 x m w (AV ..)
  ·exact BF (p4 x m)
 exact ⟨by rw [AF (fun e=>by have:=g.d;rw [<- e,(g.l x (sub x m)).1] at this;cases this)];exact s _ _ (Du this.1 xw),this.2⟩
theorem Wt.new {M:Ad} {B H:Hp} {d l:Ad} {W:Ac Wr} {z:Cz} (g:Wt M B H d W) (hl:H l=Ai) (c:CzG M B z) (no:∀w∈W,w.1≠(z.nd,-(z.ds.length:Ab))) :
 Wt M B (upd (upd (upd H l (.lst [])) d (.dT (B6 (wkv W) [AH z.nd,AH (-(z.ds.length:Ab))] (.ref l)))) l (.lst (zrf [z]))) d (W++[((z.nd,-(z.ds.length:Ab)),l,[z])]):=by
 have bl:B l=Ai:=none_of g.b hl;have ld:l≠d:=fun e=>by have:=g.d;rw [<- e,hl] at this;cases this
 have pk:B6 (wkv W) [AH z.nd,AH (-(z.ds.length:Ab))] (.ref l)=wkv (W++[((z.nd,-(z.ds.length:Ab)),l,[z])]):=by
  unfold B6
  rw [Ao (fun e=>by
   obtain ⟨x,xm,xe⟩:=any_eq_true.mp e;obtain ⟨w,wm,rfl⟩:=mem_map.mp xm;have:=CK xe;simp at this;exact no w wm (FG this.1 this.2))]
  unfold wkv;rw [AK];rfl
 rw [pk];have xl:∀w∈W,w.2.1≠l:=fun w m e=>by have:=(g.l w m).1;rw [e,hl] at this;cases this
 refine ⟨Bs (Bs (Bs g.b bl) g.bd) bl,g.bd,by rw [AF (BF ld)];exact Az,fun x m=>?_,pairwise_append.mpr ⟨g.ad,pairwise_cons.mpr ⟨(fun _ m=>Aw m Bm),LO⟩,fun x xm y ym=>by rw [mem_singleton.mp ym];exact xl x xm⟩,fun x m y ym=>?_⟩
 ·rcases mem_append.mp m with m | m
  ·have:=g.l x m;exact ⟨by rw [AF (xl x m),AF (fun e=>by have q:=g.d;rw [<- e,this.1] at q;cases q),AF (xl x m)];exact this.1,this.2⟩
  ·rw [mem_singleton.mp m];exact ⟨Az,bl,fun e=>nomatch e⟩
 ·rcases mem_append.mp m with m | m
  ·exact g.c x m y ym
  ·rw [mem_singleton.mp m] at ym ⊢;rw [mem_singleton.mp ym];exact ⟨c,rfl⟩
theorem Wt.same {M:Ad} {B H H':Hp} {d:Ad} {W:Ac Wr} (s:Ax H H') (g:Wt M B H d W):Wt M B H' d W:=⟨g.b.trans s,g.bd,s _ _ g.d,fun w m=>⟨s _ _ (g.l w m).1,(g.l w m).2⟩,g.ad,g.c⟩
inductive Ut (M:Ad) (vs:Ac V) (H:Hp) (Q:VK) (E:XK):Prop
 | mk (B:Hp) (d:Ad) (W:Ac Wr) (z:Cz):vs=[.ref d,.ref z.a]->Wt M B H d W->CzG M B z->(bag W).length<=900->(∀(W':Ac Wr) (H':Hp),Wt M B H' d W'->(∀y,y∈bag W'↔y∈bag W\/y=z)->(bag W').length=(bag W).length+1->Q .non H')->Ut M vs H Q E
inductive U6 (M:Ad) (vs:Ac V) (H:Hp) (Q:VK) (E:XK):Prop
 | mk (B:Hp) (d:Ad) (W:Ac Wr):vs=[.ref d]->Wt M B H d W->W≠[]->(bag W).length<=900->(∀(z:Cz) (W':Ac Wr) (H':Hp),Wt M B H' d W'->z∈bag W->(∀y∈bag W,z.nd<=y.nd)->(∀y∈bag W,y=z\/y∈bag W')->(∀y∈bag W',y∈bag W)->(bag W').length+1=(bag W).length->(∀b u,H b=Aa u->b≠d->(∀v∈W,v.2.1≠b)->H' b=Aa u)->Q (.ref z.a) H')->U6 M vs H Q E
theorem Ach {yh:Ac Sh} {n h:Ae} (g:∀x∈yh,x.2.1.2=(1,1)/\x.2.2.2.map (·.2)=Cy h (0,1)) (l:yh.length=n):yh.map shV=(CA n h).map C2:=by
 unfold CA;rw [L'];refine JV fun i=>?_;rw [Ba,LW];by_cases c:i < n
 ·obtain ⟨x,hx'⟩:∃x,yh[i]?=Aa x:=⟨_,Cm (by omega)⟩;obtain ⟨a1,a2⟩:=g x (Bt hx');rw [hx',Ar c];show Aa (shV x)=Aa (C2 (1,Cy h 0));unfold shV C2;rw [a1,a2,L'];rfl
 ·rw [FB (by omega),Ao c];rfl
theorem AbG {ls:Ls} {h:Ae} {st:Ac Sr} {m M:Ab} {rs:Ac Rw} (si:StI M h st) (vr:(rs.map fun x=>x.2.map (·.2))=(BZ (Am ls) st m).map fun r=>r.map pr):∀x∈rs,x.2.length=h+1/\∀f∈x.2,FqM (M*27720) f.2:=fun x k=>by
 have:x.2.map (·.2)∈(BZ (Am ls) st m).map (fun r=>r.map pr):=by rw [<- vr];exact mem_map.mpr ⟨x,k,rfl⟩
 obtain ⟨y,ym,e⟩:=mem_map.mp this;obtain ⟨yl,yz⟩:=J9 (ds:=Am ls) (s:=m) si y ym;refine ⟨?_,fun f fm=>?_⟩
 ·have:=Bx BM e;rw [At,At,yl] at this;exact this.symm
 ·have:f.2∈y.map pr:=by rw [e];exact mem_map.mpr ⟨f,fm,rfl⟩
  obtain ⟨z,zm,ez⟩:=mem_map.mp this;rw [<- ez];exact K9 (yz z zm).1 (yz z zm).2.1 (yz z zm).2.2
theorem AcK {ls:Ls} {h:Ae} {st:Ac Sr} {m M:Ab} {rs:Ac Rw} {fs:Ac Fq} (si:StI M h st) (hn:∀p∈Am ls,0<=p.2) (vr:(rs.map fun x=>x.2.map (·.2))=(BZ (Am ls) st m).map fun r=>r.map pr) (fl:fs.length=h+1) (wm:∀j f,fs[j]?=Aa f->WM (M*27720) ls (Dt rs j) f.2) :
 fs.map (·.2)=(Et (Am ls) (BZ (Am ls) st m) h).map pr:=by
 have colv:∀j,(Dt rs j).map (·.2)=((BZ (Am ls) st m).map fun r=>r.getD j 0).map pr:=fun j=>by
  have e1:(Dt rs j).map (·.2)=(rs.map fun x=>x.2.map (·.2)).map fun vs=>vs.getD j (0,1):=by
   unfold Dt;rw [Bf,Bf];refine E1 fun r _=>?_;show (r.2.getD j (0,0,1)).2=(r.2.map (·.2)).getD j (0,1);rw [BI,BI,Ba]
   cases r.2[j]? <;> rfl
  rw [e1,vr,Bf,Bf];refine E1 fun r _=>?_;show (r.map pr).getD j (0,1)=pr (r.getD j 0);rw [BI,BI,Ba]
  cases r[j]? <;> rfl
 have coln:∀j,∀r∈(BZ (Am ls) st m).map fun r=>r.getD j 0,0<=r:=fun j r k=>by
  obtain ⟨y,ym,rfl⟩:=mem_map.mp k;obtain ⟨yl,yz⟩:=J9 (ds:=Am ls) (s:=m) si y ym;rw [BI]
  cases e:y[j]? with
  | none=>exact DL
  | some z=>exact (yz z (Bt e)).1
 refine JV fun j=>?_;unfold Et;rw [Ba,Ba,Ba];by_cases c:j < h+1
 ·obtain ⟨f,hf⟩:∃f,fs[j]?=Aa f:=⟨_,Cm (by omega)⟩;rw [hf,LV c];show Aa f.2=Aa (pr _);rw [Oi (wm j f hf) (colv j) hn (coln j)]
 ·rw [FB (by omega),FB (by rw [D6];omega)];rfl
structure Sc (C:Ad) (H:Hp) (a l:Ad) (xs:Ac Ab) (ls:Ls):Prop where
 is:IsS C H a 2 1 xs
 pm:xs.Perm (ups 2)
 l:H l=Aa (.lst (vls ls))
 g:By H ls
 k6:∀q∈Am ls,q.1∈S6
 n1:∀q∈Am ls,1<=q.2
 len:ls.length<=6
 tot:AZ (Am ls) < 2 ^ 40
theorem Sc.same {C:Ad} {H H':Hp} {a l:Ad} {xs:Ac Ab} {ls:Ls} (s:Ax H H') (g:Sc C H a l xs ls):Sc C H' a l xs ls:=⟨g.is.same s,g.pm,s _ _ g.l,g.g.same s,g.k6,g.n1,g.len,g.tot⟩
theorem ok6:∀ts∈S6,OkT 2 ts:=fun ts m=>by
 have:∀ts∈S6,(∀x∈ts,0 < x/\x < 4)/\ts.length<=12:=by decide
 exact this ts m
theorem Jp {ds:Lq} (n1:∀q∈ds,1<=q.2):0<=AZ ds/\∀q∈ds,q.2<=AZ ds:=by
 induction ds with
 | nil=>exact ⟨Dy _,fun _ m=>Aw m Bm⟩
 | cons p ds ih =>
   obtain ⟨a,b⟩:=ih fun q m=>n1 q (Bc _ m);have c:=n1 p (AV ..);have e:AZ (p :: ds)=p.2+AZ ds:=by unfold AZ;rw [Bg,D7]
   rw [e];refine ⟨by omega,fun q m=>?_⟩;rcases mem_cons.mp m with rfl | m
   ·omega
   ·have:=b q m;omega
theorem Sc.ok {C:Ad} {H:Hp} {a l:Ad} {xs:Ac Ab} {ls:Ls} (g:Sc C H a l xs ls):∀q∈ls,OkT 2 q.2.2.1/\0<=q.2.2.2/\Sz 64 q.2.2.2:=fun q k=>by
 have m:(q.2.2.1,q.2.2.2)∈Am ls:=mem_map.mpr ⟨q,k,rfl⟩;have a:=g.n1 _ m;have b:=(Jp g.n1).2 _ m;have c:=g.tot;have e:(2:Ab) ^ 40=1099511627776:=rfl;have a:1<=q.2.2.2:=a;have b:q.2.2.2<=AZ (Am ls):=b;exact ⟨ok6 _ (g.k6 _ m),by omega,B_ (by omega) (by omega)⟩
theorem CzG.upd {C:Ad} {H:Hp} {z:Cz} {l:Ad} {xs:Ac V} {o:HO} (e:H l=Aa (.lst xs)) (g:CzG C H z):CzG C (L2.upd H l o) z:=⟨let ⟨dx,h⟩:=g.o;⟨dx,by rw [AF (Ce h e (fun z=>by cases z))];exact h⟩,by rw [AF (Ce g.t e (fun z=>by cases z))];exact g.t,fun d m=>by rw [AF (Ce (g.d d m) e (fun z=>by cases z))];exact g.d d m⟩
structure Kx (xs:Ac Ab) (ds:Ds) (q:Ab) (z:Cz) (zs:Ac Cz):Prop where
 len:zs.length=4
 all:∀y∈zs,∃d seat hd,hd < 2/\Bhd xs (suR ds) q z y d seat hd
 ex:∀seat hd,hd < 2->∃y∈zs,∃d,Bhd xs (suR ds) q z y d seat hd
inductive TL (C M:Ad) (vs:Ac V) (H:Hp) (Q:VK) (E:XK):Prop
 | mk (a l:Ad) (xs:Ac Ab) (ls:Ls) (z:Cz) (yh:Ac Sh):vs=[.ref a,.ref l,.ref z.a]->Sc C H a l xs ls->CzG M H z->z.ds=[]->z.m=3->z.pl=1->H z.st=Aa (.lst (shv yh))->(∀x∈yh,ShG H x/\x.2.1.2=(1,1)/\x.2.2.2.map (·.2)=Cy 2 (0,1))->yh.length=ls.length->(∀(b:Ad) (zs:Ac Cz) (H':Hp),H b=Ai->Ax H H'->H' b=Aa (.lst (zrf zs))->(∀y∈zs,CzG M H' y)->Kx xs (Am ls) ((AZ (Am ls)).fdiv 2+1) z zs->Q (.ref b) H')->TL C M vs H Q E
noncomputable def CzB (z:Cz):Prop:=0<=z.m/\z.m < 4096/\z.ds.length<=12
theorem K4 {xs:Ac Ab} {su:Ac Ap} {q:Ab} {z y:Cz} {d:Ad} {seat:AI} {hd:Ae} (b:Bhd xs su q z y d seat hd) (h2:hd < 2) (ed:z.ds=[]) (em:z.m=3) (ep:z.pl=1):Ha y.m y.pl=Af/\CzB y/\F2 2 y=if seat=Af then CT hd else CT (1 - hd):=by
 have bd:=b.ds;have bm:=b.m;have bp:=b.pl;rw [ed] at bd;rw [em] at bm;rw [ep] at bp;have bl:y.ds.length=1:=by rw [bd];rfl
 have bd:y.ds.map (·.2)=[if seat=Af then .seat hd else .out hd]:=by rw [bd];rfl
 unfold Ha CzB F2 Fx;rw [bd,bm,bp,bl];clear bd bm bp bl b
 cases seat <;> rcases (by omega:hd=0\/hd=1) with rfl | rfl <;> decide +kernel
theorem YK {xs:Ac Ab} {ds:Ds} {z:Cz} {zs:Ac Cz} {w:Ae} (f:Kx xs ds ((AZ ds).fdiv 2+1) z zs) (ed:z.ds=[]) (em:z.m=3) (ep:z.pl=1) (en:z.nd=0) (k6:∀q∈ds,q.1∈S6) (n1:∀q∈ds,1<=q.2) (w2:w < 2) (win:DR ds xs w) :
 (∀y∈zs,Ha y.m y.pl=Af/\CzB y)/\(∃y∈zs,F2 2 y≠CT w/\y.nd=B3 ds xs w)/\∀y∈zs,F2 2 y≠CT w->B3 ds xs w<=y.nd:=by
 have dp:=Nh win
 have t0:∀ts,0<=tot ds ts:=fun ts=>by
  have:=Lu (ts:=ts) ds (m:=0) (Dy _) fun q m=>by have:=n1 q m;omega
  omega
 have s6:AZ ds=tot ds []+fr ds 0+fr ds 1+tot ds [3]:=F1 k6
 have out:∀{y:Cz} {d:Ad},Bhd xs (suR ds) ((AZ ds).fdiv 2+1) z y d Aq w->y.nd=B3 ds xs w:=fun {y d} b=>by
  obtain ⟨f,e,hf⟩:=b.nd;rw [em] at hf;have:=Aag (f:=f) k6 w2 win (t0 [3]) (N:=AZ ds) (by have:=t0 [];omega) fun k=>by have:=hf k;rw [Ao (by decide)] at this;exact this
  rw [e,en,this];omega
 refine ⟨fun y m=>?_,?_,fun y m ne=>?_⟩
 ·obtain ⟨d,seat,hd,h2,b⟩:=f.all y m;exact ⟨(K4 b h2 ed em ep).1,(K4 b h2 ed em ep).2.1⟩
 ·obtain ⟨y,m,d,b⟩:=f.ex Aq w w2;refine ⟨y,m,?_,out b⟩;rw [(K4 b w2 ed em ep).2.2,Ao (by decide)];rcases (by omega:w=0\/w=1) with rfl | rfl <;> decide
 ·obtain ⟨d,seat,hd,h2,b⟩:=f.all y m;rw [(K4 b h2 ed em ep).2.2] at ne
  cases seat with
  | true =>
    have e:hd=1 - w:=by
     have:hd≠w:=fun z=>ne (by rw [z];rfl);omega
    subst e;obtain ⟨f,e,hf⟩:=b.nd;rw [em] at hf;have:=Aah (f:=f) k6 w2 fun k=>by have:=hf k;rw [Ar rfl] at this;exact this
    omega
  | false =>
    have e:hd=w:=by
     have:1 - hd≠w:=fun z=>ne (by rw [<- z];rfl);omega
    subst e;rw [out b];exact Dy _
theorem Adk {c:TT} {tb:TS} {D:D8} {σ:St} {H:Hp} (Pv:Ae->St->Hp->Prop) (n:Ae) (h0:Pv n σ H)
 (hs:∀m σ H,Pv m σ H->c σ H fun b H1=>if b=Af then tb { D with nx:=fun σ' H'=>∃m',m' < m/\Pv m' σ' H',ct:=fun σ' H'=>∃m',m' < m/\Pv m' σ' H',bk:=D.nx } σ H1 else D.nx σ H1)
 (mono:∀σ H Q Q',(∀b H1,Q b H1->Q' b H1)->c σ H Q->c σ H Q'):Oa c tb D σ H:=by
 refine ⟨Pv,⟨n,h0⟩,fun m σ H p=>mono σ H _ _ (fun b H1 q=>?_) (hs m σ H p)⟩
 cases b with
 | true=>exact ⟨_,fun σ' H' h=>h,q⟩
 | false=>exact q
abbrev Op:=Ad × Cz × Ad × Ac Cz
structure OpG (M:Ad) (H:Hp) (o:Op):Prop where
 t:H o.1=Aa (.tup [.ref o.2.1.a,.ref o.2.2.1])
 z:CzG M H o.2.1
 l:H o.2.2.1=Aa (.lst (zrf o.2.2.2))
 c:∀y∈o.2.2.2,CzG M H y/\CzB y
 n:o.2.2.2.length<=24
theorem OpG.same {M:Ad} {H H':Hp} {o:Op} (s:Ax H H') (g:OpG M H o):OpG M H' o:=⟨s _ _ g.t,g.z.same s,s _ _ g.l,fun y m=>⟨(g.c y m).1.same s,(g.c y m).2⟩,g.n⟩
inductive Uq (C M N:Ad) (vs:Ac V) (H:Hp) (Q:VK) (E:XK):Prop
 | mk (g a oc op:Ad) (h:Ae) (s:Ab) (xs out:Ac Ab) (low:Ab) (z:Cz) (os:Ac Op):vs=[.ref g,.ref oc,.int low,.ref z.a,.ref op]->IsM N H g a->IsS C H a (h:Ab) s xs->h<=12->H oc=Aa (.lst (out.map V.int))->CzG M H z->CzB z->H op=Aa (.lst (os.map fun o=>V.ref o.1))->(∀o∈os,OpG M H o)->os.length<=30->(∀(l:Ad) (H':Hp),H l=Ai->Ax H H'->Q (.ref l) H')->Uq C M N vs H Q E
inductive Ue (C M N:Ad) (vs:Ac V) (H:Hp) (Q:VK) (E:XK):Prop
 | mk (g a l:Ad) (xs:Ac Ab) (ls:Ls) (w:Ae):vs=[.ref g,.ref l]->IsM N H g a->Sc C H a l xs ls->w < 2->DR (Am ls) xs w->(∀(t p:Ad) (H':Hp),Ax H H'->H' t=Aa (.tup [.int (B3 (Am ls) xs w),.ref p])->Q (.ref t) H')->Ue C M N vs H Q E
noncomputable def XN (M:Ad) (B0:Hp) (xs:Ac Ab) (ds:Ds) (w:Ae) (z:Cz) (d op:Ad) (m:Ae) (J:Hp):Prop :=
 (m=10/\∃W,Wt M B0 J d W/\(∀y,y∈bag W↔y=z)/\(bag W).length=1/\B0 op=Ai/\J op=Aa (.lst [])/\∀v∈W,v.2.1≠op) \/
 (m<=4/\∃B W o,Ax B0 B/\Wt M B J d W/\B op=Aa (.lst [V.ref o.1])/\OpG M B o/\o.2.1=z/\Kx xs ds ((AZ ds).fdiv 2+1) z o.2.2.2/\(∀y∈bag W,y∈o.2.2.2)/\(∀y∈o.2.2.2,F2 2 y≠CT w->y∈bag W)/\(bag W).length=m)
theorem CzG.off {C:Ad} {H:Hp} {z:Cz} {d:Ad} {kvs:Ac (Ac Key × V)} (e:H d=Aa (.dT kvs)) (g:CzG C H z):CzG C (Law.off H d) z:=⟨let ⟨dx,h⟩:=g.o;⟨dx,Du h (Ce h e (fun z=>by cases z))⟩,Du g.t (Ce g.t e (fun z=>by cases z)),fun x m=>Du (g.d x m) (Ce (g.d x m) e (fun z=>by cases z))⟩
theorem PH {W:Ac Wr} {y:Cz} (m:y∈bag W):W≠[]:=fun e=>by rw [e] at m;cases m
theorem X' {M:Ad} {B H:Hp} {d:Ad} {W:Ac Wr} (g:Wt M B H d W) (e:(bag W).length=0):W=[]:=length_eq_zero_iff.mp (by have:=MW g;omega)
inductive Uz (P:Ad) (vs:Ac V) (H:Hp) (Q:VK) (E:XK):Prop
 | mk (l sl:Ad) (ls:Ls) (put:Ac Ab) (x y:Ae) (m:Ab):vs=[.ref l,.int (x:Ab),.int (y:Ab),.ref sl,.int m]->H l=Aa (.lst (vls ls))->By H ls->(∀q∈Am ls,∀a∈q.1,0 < a/\a < 2 ^ 12)->ls.length<=13->H sl=Aa (.tup (put.map V.int))->x < 12->y < 12->LT P H->(∀(r:Ad) (rs:Rz) (H':Hp),H r=Ai->Sm H H'->LT P H'->H' r=Aa (.lst (vrz rs))->DY sl H' rs->(∃L:Ds,L.Perm ((Am ls).filter fun q=>!decide (q.1=put))/\L.Pairwise (fun a b=>Cp a.1 x y<=Cp b.1 x y)/\rs.map (·.2.2)=Bb L m)->Q (.ref r) H')->Uz P vs H Q E
theorem Sc.sm {C:Ad} {H H':Hp} {a l:Ad} {xs:Ac Ab} {ls:Ls} (s:Sm H H') (g:Sc C H a l xs ls):Sc C H' a l xs ls:=⟨let ⟨dx,lo,h1,h2⟩:=g.is;⟨dx,lo,s.keep _ _ h1 rfl,s.lst h2⟩,g.pm,s.lst g.l,fun q m=>⟨s.tup (g.g q m).1,s.tup (g.g q m).2⟩,g.k6,g.n1,g.len,g.tot⟩
inductive U0 (P N:Ad) (vs:Ac V) (H:Hp) (Q:VK) (E:XK):Prop
 | mk (g a l p:Ad) (ls:Ls) (x y:Ae) (m:Ab):vs=[.ref g,.ref l,.ref p,.int m]->IsM N H g a->H p=Aa (.tup [.int (x:Ab),.int (y:Ab)])->H l=Aa (.lst (vls ls))->By H ls->(∀q∈Am ls,∀a∈q.1,0 < a/\a < 2 ^ 12)->ls.length<=13->x < 12->y < 12->LT P H->(∀(r sl:Ad) (rs:Rz) (H':Hp),H r=Ai->Sm H H'->LT P H'->H' r=Aa (.lst (vrz rs))->DY sl H' rs->H' sl=Aa (.tup ([(2:Ab) ^ y].map V.int))->(∃L:Ds,L.Perm ((Am ls).filter fun q=>!decide (q.1=[(2:Ab) ^ y]))/\L.Pairwise (fun a b=>Cp a.1 x y<=Cp b.1 x y)/\rs.map (·.2.2)=Bb L m)->Q (.ref r) H')->U0 P N vs H Q E
inductive TX (C P N:Ad) (vs:Ac V) (H:Hp) (Q:VK) (E:XK):Prop
 | mk (g a l oc p:Ad) (xs:Ac Ab) (ls:Ls) (w:Ae) (be:Ab):vs=[.ref g,.ref l,.ref oc,.ref p,.int be]->IsM N H g a->Sc C H a l xs ls->w < 2->DR (Am ls) xs w->H oc=Aa (.lst ((CT w).map V.int))->H p=Aa (.tup [.int (w:Ab),.int ((1 - w:Ae):Ab)])->AZ (Am ls) < be->1<=AZ (Am ls)->LT P H->(∀H':Hp,Sm H H'->LT P H'->Q (.int (B3 (Am ls) xs w)) H')->TX C P N vs H Q E
inductive Ua (C P N:Ad) (vs:Ac V) (H:Hp) (Q:VK) (E:XK):Prop
 | mk (g a l:Ad) (xs:Ac Ab) (ls:Ls) (w:Ae):vs=[.ref g,.ref l]->IsM N H g a->Sc C H a l xs ls->w < 2->DR (Am ls) xs w->1<=AZ (Am ls)->LT P H->(∀(t r p:Ad) (H':Hp),Sm H H'->LT P H'->H' t=Aa (.tup [.int (B3 (Am ls) xs w),.ref r,.ref p])->Q (.ref t) H')->Ua C P N vs H Q E
inductive UA (C P N:Ad) (vs:Ac V) (H:Hp) (Q:VK) (E:XK):Prop
 | mk (g a l:Ad) (xs:Ac Ab) (ls:Ls):vs=[.ref g,.ref l]->IsM N H g a->Sc C H a l xs ls->LT P H->(ls=[]->∀H',Sm H H'->LT P H'->Q .non H')->(∀w,w < 2->DR (Am ls) xs w->ls≠[]->∀(t k r:Ad) (H':Hp),Sm H H'->LT P H'->H' t=Aa (.tup [.int (B3 (Am ls) xs w),.int (B3 (Am ls) xs w),.ref k,.ref r])->Q (.ref t) H')->UA C P N vs H Q E
theorem S3:∀ts∈S6,∀a∈ts,0 < a/\a < 2 ^ 12:=by decide
theorem ZZ {ds es L:Ds} {w:Ae} {m:Ab} (o:Ky ds w L) (k:∀q∈ds,q.1∈S6) (n1:∀q∈ds,1<=q.2) (w2:w < 2) (m0:0<=m) (mf:m<=Bw ds - tot ds [2 ^ (1 - w)])
 (sh:DQ (ds++Dj ((Bb L m).map fun q=>(q.1,[2 ^ (1 - w)],q.2))++Er ((Bb L m).map fun q=>(q.1,[2 ^ (1 - w)],q.2))) es) :
 (∀ts,tot es ts=tot ds ts - tot (Bb L m) ts+if [2 ^ (1 - w)]=ts then m else 0)/\(∀q∈es,q.1∈S6)/\(∀q∈es,1<=q.2)/\es.length<=6/\AZ es=AZ ds:=by
 obtain ⟨_,_,f3,_,f5⟩:=Ny o k (fun q m=>by have:=n1 q m;omega) w2 m0 mf
 have e:∀ts,tot (ds++Dj ((Bb L m).map fun q=>(q.1,[2 ^ (1 - w)],q.2))++Er ((Bb L m).map fun q=>(q.1,[2 ^ (1 - w)],q.2))) ts=tot ds ts - tot (Bb L m) ts+if [2 ^ (1 - w)]=ts then m else 0:=fun ts=>by
  rw [Io,Io,Ob,Ve,f3];omega
 have nn:∀ts,0<=tot (ds++Dj ((Bb L m).map fun q=>(q.1,[2 ^ (1 - w)],q.2))++Er ((Bb L m).map fun q=>(q.1,[2 ^ (1 - w)],q.2))) ts:=fun ts=>by
  rw [e];have:=f5 ts
  split <;> omega
 have pu:([2 ^ (1 - w)]:Ac Ab)∈S6:=by rcases (by omega:w=0\/w=1) with rfl | rfl <;> decide
 have mk:∀q∈Bb L m,q.1∈S6:=fun q h=>by
  obtain ⟨_,p,pm,e⟩:=Lr _ q h;rw [<- e];exact k p (mem_filter.mp (o.pm.mem_iff.mp pm)).1
 have kk:∀q∈ds++Dj ((Bb L m).map fun q=>(q.1,[2 ^ (1 - w)],q.2))++Er ((Bb L m).map fun q=>(q.1,[2 ^ (1 - w)],q.2)),q.1∈S6:=fun q h=>by
  rcases mem_append.mp h with h | h
  ·rcases mem_append.mp h with h | h
   ·exact k q h
   ·unfold Dj at h;rw [Bf] at h;obtain ⟨p,pm,rfl⟩:=mem_map.mp h;exact mk p pm
  ·unfold Er at h;rw [Bf] at h;obtain ⟨p,pm,rfl⟩:=mem_map.mp h;exact pu
 have te:∀ts,tot es ts=tot ds ts - tot (Bb L m) ts+if [2 ^ (1 - w)]=ts then m else 0:=fun ts=>by rw [sh.tot' nn,e]
 have ke:=sh.keys kk;refine ⟨te,ke,sh.pos,sh.len kk,?_⟩;have a1:AZ es=Bw es:=rfl;have a2:AZ ds=Bw ds:=rfl;have mn:∀q∈Bb L m,q.1∈S6:=mk;have a3:=F1 mn;rw [a1,a2,F1 ke,F1 k];rw [f3] at a3;unfold fr at a3 ⊢;rw [te,te,te,te,te,te];rcases (by omega:w=0\/w=1) with rfl | rfl
 all_goals simp at a3 ⊢
 all_goals omega
noncomputable def MoE (t:TE):Prop:=∀σ H (Q Q':VK),(∀v H1,Q v H1->Q' v H1)->t σ H Q->t σ H Q'
noncomputable def MoT (t:TT):Prop:=∀σ H (Q Q':AI->Hp->Prop),(∀v H1,Q v H1->Q' v H1)->t σ H Q->t σ H Q'
theorem KR {i:Ae}:MoE (Im i):=fun _ _ _ _ f ⟨v,e,q⟩=>⟨v,e,f _ _ q⟩
theorem Rh {v:V}:MoE (tC v):=fun _ _ _ _ f q=>f _ _ q
theorem KQ {g:Ab->Ab->V} {ta tb:TE} (ha:MoE ta) (hb:MoE tb):MoE (tOp (rI0 g) ta tb):=fun _ _ _ _ f h=>ha _ _ _ _ (fun _ _ h1=>hb _ _ _ _ (fun _ _ hq_=>by obtain ⟨i,j,e1,e2,q⟩:=hq_;exact ⟨i,j,e1,e2,f _ _ q⟩) h1) h
theorem Ri {t:TE} (h:MoE t):MoT (Lp t):=fun _ _ _ _ f k=>h _ _ _ _ (fun _ _ hq_=>by obtain ⟨c,e,q⟩:=hq_;exact ⟨c,e,f _ _ q⟩) k
theorem ZX {t u:TT} (ht:MoT t) (hu:MoT u):MoT (UR t u):=fun _ _ _ _ f k=>ht _ _ _ _ (fun c _ q=>by
 cases c
 ·exact f _ _ q
 ·exact hu _ _ _ _ f q) k
theorem Aa6 {w:Ae} (w2:w < 2):RB (CT w)=[((w:Ab),((1 - w:Ae):Ab))]:=by
 rcases (by omega:w=0\/w=1) with rfl | rfl <;> decide
inductive U2 (K:A8) (vs:Ac V) (H:Hp) (Q:VK) (E:XK):Prop
 | mk (p:Ad) (ns:Ac Ab) (m:Ae) (most:Ab):vs=[.ref p,.int (m:Ab),.int most]->SqL K H p (ns.map V.int)->ns.length<=63->1<=m->m<=6->1<=most->most<=10 ^ 9->(∀(l:Ad) (ls:Ls) (H':Hp),H l=Ai->Ax H H'->H' l=Aa (.lst (vls ls))->By H' ls->(∀q∈Am ls,q.1∈S6)->(∀q∈Am ls,1<=q.2)->ls.length<=6->ls≠[]->AZ (Am ls) < 2 ^ 40->Q (.ref l) H')->U2 K vs H Q E
inductive T' (vs:Ac V) (H:Hp) (Q:VK) (E:XK):Prop
 | mk (l:Ad) (ls:Ls) (w:Ae):vs=[.ref l,.int (2 ^ w)]->H l=Aa (.lst (vls ls))->By H ls->(∀q∈Am ls,q.1∈S6)->ls.length<=60->w < 2->(∀H':Hp,Ax H H'->Q (.int (fr (Am ls) w)) H')->T' vs H Q E
noncomputable def frB (w:Ae) (ts:Ac Ab):AI:=!decide (ts=[]) && decide (ts.head?=Aa (2 ^ w))
theorem Q0 {w:Ae} (w2:w < 2):∀{ds:Ds},(∀q∈ds,q.1∈S6)->((ds.filter fun q=>frB w q.1).map (·.2)).sum=fr ds w
 | [],_=>rfl
 | q :: ds,k=>by
   have ih:=Q0 w2 (ds:=ds) fun p m=>k p (Bc _ m);have m:=k q (AV ..);obtain ⟨ts,n⟩:=q
   have e:fr ((ts,n) :: ds) w=(if frB w ts=Af then n else 0)+fr ds w:=by
    unfold S6 at m;simp only [Ef,Bm,Gm] at m;rcases (by omega:w=0\/w=1) with rfl | rfl <;> rcases m with rfl | rfl | rfl | rfl | rfl | rfl <;> simp [fr,tot,frB] <;> omega
   rw [e,Ht];by_cases c:frB w ts=Af
   ·rw [Ar c,Ar c,Bg,D7,ih]
   ·rw [Ao c,Ao c,ih,F9]
theorem Acl {most:Ab} {ds:Ds} (h:∀q∈ds,q.2<=most):Bw ds<=(ds.length:Ab)*most:=by
 induction ds with
 | nil=>show (0:Ab)<=0*most;omega
 | cons q ds ih =>
   have a:=h q (AV ..);have b:=ih fun p m=>h p (Bc _ m);have e:(((q :: ds).length:Ae):Ab)*most=(ds.length:Ab)*most+most:=by rw [BP,Int.natCast_add,LF];show _+1*most=_;omega
   rw [Ln,e];omega
def top (i:Ae):AC:=PySem.Challenge.pw_pollproof_k78_two_hands_exactly.main.body.getD i (.Pass ⟨0,0,0,0⟩)
abbrev s_s:AC:=top 8
abbrev SB:AC:=top 9
abbrev Tk:AC:=top 10
abbrev Tl:AC:=top 11
abbrev s_n:AC:=top 13
abbrev s_x:AC:=top 15
abbrev s_l:AC:=top 16
abbrev S5:AC:=top 17
abbrev Ti:AC:=top 18
abbrev SF:AC:=top 20
abbrev NW:AC:=top 21
abbrev NS:AC:=top 22
abbrev NV:AC:=top 23
abbrev SG:AC:=top 29
abbrev s_o:AC:=top 32
abbrev SO:AC:=top 35
abbrev Th:AC:=top 41
abbrev s_v:AC:=top 43
abbrev Tj:AC:=top 52
abbrev Tb:AC:=top 66
abbrev Tf:AC:=top 67
abbrev SC:AC:=top 80
abbrev SD:AC:=top 81
abbrev s_y:AC:=top 83
abbrev NU:AC:=top 85
abbrev SI:AC:=Ct (top 33) 0
abbrev s_i:AC:=Ct (top 61) 0
abbrev Tw:AC:=Ct (top 75) 1
abbrev Tv:AC:=Ct (top 78) 1
abbrev s_j:AC:=Ct (top 78) 7
abbrev SH:AC:=top 12
abbrev S4:AC:=top 24
abbrev SA:AC:=top 27
abbrev s_g:AC:=top 28
abbrev S9:AC:=top 37
abbrev S7:AC:=top 44
abbrev SK:AC:=top 47
abbrev SE:AC:=top 57
abbrev s_t:AC:=top 72
abbrev s_u:AC:=top 73
abbrev s_k:AC:=top 74
abbrev SN:AC:=top 82
abbrev s_m:AC:=top 84
abbrev To:AC:=Ct (top 33) 1
abbrev Tq:AC:=Ct (top 33) 7
abbrev NY:AC:=Ct (top 78) 2
abbrev s_e:AC:=top 25
abbrev SZ:AC:=top 38
abbrev Tg:AC:=top 39
abbrev Ta:AC:=top 40
abbrev SR:AC:=top 45
abbrev s_p:AC:=top 48
abbrev Tc:AC:=top 50
abbrev SQ:AC:=top 58
abbrev s_z:AC:=top 59
abbrev S8:AC:=top 62
abbrev s_h:AC:=Ct (top 61) 1
abbrev Ll:AC:=Ct (top 61) 2
abbrev s_r:AC:=Ct (top 75) 0
abbrev SV:AC:=Ct (top 78) 3
abbrev SW:AC:=Ct (top 78) 4
abbrev s_d:AC:=top 30
abbrev NX:AC:=top 46
abbrev Lk:AC:=top 49
abbrev S':AC:=top 51
abbrev S_:AC:=top 60
abbrev Ts:AC:=Ct (top 68) 2
abbrev SJ:AC:=Ct (top 78) 0
abbrev Tu:AC:=Ct (top 78) 5
abbrev s_f:AC:=top 53
abbrev SX:AC:=top 64
abbrev Tp:AC:=Ct (top 33) 8
abbrev s_q:AC:=Ct (top 68) 1
abbrev Td:AC:=top 54
abbrev Te:AC:=top 63
abbrev Tt:AC:=Ct (top 78) 6
abbrev s_w:AC:=top 65
abbrev SY:AC:=Ct (top 75) 4
abbrev Tn:AC:=Ct (top 33) 9
abbrev SU:AC:=Ct (top 68) 0
abbrev SS:AC:=Ct (top 33) 10
abbrev Tr:AC:=Ct (top 33) 4
abbrev SM:AC:=top 86
local macro_rules | `(tactic| ac_nf)=>`(tactic| exact ⟨rfl,rfl,rfl,by decide +kernel,rfl,by decide +kernel,by decide +kernel⟩)
theorem sc_s:AM ["hands"] ["hands"] (A7 s_s):=by ac_nf
theorem sc_a6:AM ["mask","hand"] ["mask","hand"] (A7 SB):=by ac_nf
theorem sc_bn:AM ["mask","hand"] ["mask","hand"] (A7 Tk):=by ac_nf
theorem sc_bo:AM ["mask","hand"] ["mask","hand"] (A7 Tl):=by ac_nf
theorem sc_n:AM ["mask"] ["mask"] (A7 s_n):=by ac_nf
theorem sc_x:AM ["thing"] ["thing"] (A7 s_x):=by ac_nf
theorem sc_l:AM ["one","other","great","small","rest"] ["one","other"] (A7 s_l):=by ac_nf
theorem sc_a1:AM ["top","bottom"] ["top","bottom"] (A7 S5):=by ac_nf
theorem sc_bl:AM ["top","bottom"] ["top","bottom"] (A7 Ti):=by ac_nf
theorem sc_aa:AM ["lines","numbers","slip","number"] ["lines"] (A7 SF):=by ac_nf
theorem sc_ap:AM ["numbers"] ["numbers"] (A7 NW):=by ac_nf
theorem sc_ah:AM ["sheet"] ["sheet"] (A7 NS):=by ac_nf
theorem sc_ao:AM ["sheet","slip"] ["sheet","slip"] (A7 NV):=by ac_nf
theorem sc_ab:AM ["lines","slip","many","rows","wanted","old","number","taken"] ["lines","slip","many"] (A7 SG):=by ac_nf
theorem sc_o:AM ["outcome","pairs","x","seats"] ["outcome"] (A7 s_o):=by ac_nf
theorem sc_am:AM ["slip","standing","tier"] ["slip","standing"] (A7 SO):=by ac_nf
theorem sc_bk:AM ["one","other"] ["one","other"] (A7 Th):=by ac_nf
theorem sc_v:AM ["sheet","hands"] ["sheet","hands"] (A7 s_v):=by ac_nf
theorem sc_bm:AM ["kept","hand","given","new"] ["kept","hand","given"] (A7 Tj):=by ac_nf
theorem sc_be:AM ["waiting","case"] ["waiting","case"] (A7 Tb):=by ac_nf
theorem sc_bi:AM ["waiting","first","case"] ["waiting"] (A7 Tf):=by ac_nf
theorem sc_a7:AM ["_law_script","_law_k","_law_number"] ["_law_script","_law_k"] (A7 SC):=by ac_nf
theorem sc_a8:AM ["_law_cell_here","_law_by","_law_step"] ["_law_cell_here","_law_by"] (A7 SD):=by ac_nf
theorem sc_y:AM ["_law_found"] ["_law_found"] (A7 s_y):=by ac_nf
theorem sc_ak:AM ["_law_sheet","_law_mask"] ["_law_sheet","_law_mask"] (A7 NU):=by ac_nf
theorem sc_af:AM ["self","way"] ["self","way"] (A7 SI):=by ac_nf
theorem sc_i:AM ["self","deeds","standing","places","needed","state"] ["self","deeds","standing","places","needed","state"] (A7 s_i):=by ac_nf
theorem sc_bz:AM ["self","one","other"] ["self","one","other"] (A7 Tw):=by ac_nf
theorem sc_bx:AM ["self","ballots"] ["self","ballots"] (A7 Tv):=by ac_nf
theorem sc_j:AM ["self","paper","seated","named"] ["self","paper"] (A7 s_j):=by ac_nf
theorem sc_ac:AM ["mask"] ["mask"] (A7 SH):=by ac_nf
theorem sc_a0:AM ["old","new","number"] ["old","new","number"] (A7 S4):=by ac_nf
theorem sc_a5:AM ["sheet","slip"] ["sheet","slip"] (A7 SA):=by ac_nf
theorem sc_g:AM ["slip","x","y"] ["slip","x","y"] (A7 s_g):=by ac_nf
theorem sc_a4:AM ["top","bottom","common"] ["top","bottom"] (A7 S9):=by ac_nf
theorem sc_a2:AM ["free","many","common"] ["free","many"] (A7 S7):=by ac_nf
theorem sc_ai:AM ["bottoms","common","bottom"] ["bottoms"] (A7 SK):=by ac_nf
theorem sc_a9:AM ["factor","one","other","above","top","bottom"] ["factor","one","other","above"] (A7 SE):=by ac_nf
theorem sc_t:AM ["thing"] ["thing"] (A7 s_t):=by ac_nf
theorem sc_u:AM ["thing"] ["thing"] (A7 s_u):=by ac_nf
theorem sc_k:AM ["thing","hands"] ["thing","hands"] (A7 s_k):=by ac_nf
theorem sc_al:AM ["_law_cell_here","_law_hands","_law_number","_law_left","_law_lots_here","_law_k"] ["_law_cell_here","_law_hands"] (A7 SN):=by ac_nf
theorem sc_m:AM ["_law_script","_law_lines","_law_most","_law_slips_here","_law_start","_law_some","_law_many","_law_k","_law_slip"] ["_law_script","_law_lines","_law_most"] (A7 s_m):=by ac_nf
theorem sc_bq:AM ["self","sheet"] ["self","sheet"] (A7 To):=by ac_nf
theorem sc_bs:AM ["self","x","y"] ["self","x","y"] (A7 Tq):=by ac_nf
theorem sc_ay:AM ["self","standing"] ["self","standing"] (A7 NY):=by ac_nf
theorem sc_e:AM ["sheet","change","old","new","number","left"] ["sheet","change"] (A7 s_e):=by ac_nf
theorem sc_ba:AM ["one","other"] ["one","other"] (A7 SZ):=by ac_nf
theorem sc_bj:AM ["one","other"] ["one","other"] (A7 Tg):=by ac_nf
theorem sc_bd:AM ["one","other"] ["one","other"] (A7 Ta):=by ac_nf
theorem sc_ar:AM ["slip","free","kept","standing","row","where","part","hand"] ["slip","free","kept","standing"] (A7 SR):=by ac_nf
theorem sc_p:AM ["sheet","shares","tops","line","share","common"] ["sheet","shares"] (A7 s_p):=by ac_nf
theorem sc_bf:AM ["slip","free","standing","hand","where"] ["slip","free","standing","hand"] (A7 Tc):=by ac_nf
theorem sc_an:AM ["way","quota","sums","standing","hand","needs","x"] ["way","quota","sums","standing","hand"] (A7 SQ):=by ac_nf
theorem sc_z:AM ["way","quota","sums","standing","hand","needs","x"] ["way","quota","sums","standing","hand"] (A7 s_z):=by ac_nf
theorem sc_a3:AM ["way","sheet"] ["way","sheet"] (A7 S8):=by ac_nf
theorem sc_h:AM ["self"] ["self"] (A7 s_h):=by ac_nf
theorem sc_ae:AM ["self","hands","seated"] ["self","hands"] (A7 Ll):=by ac_nf
theorem sc_r:AM ["self","hands","seats","lots"] ["self","hands","seats","lots"] (A7 s_r):=by ac_nf
theorem sc_aw:AM ["self","sums","standing","by_lots","best","hand"] ["self","sums","standing"] (A7 SV):=by ac_nf
theorem sc_ax:AM ["self","sums","standing","by_lots","worst","hand"] ["self","sums","standing"] (A7 SW):=by ac_nf
theorem sc_d:AM ["sheet","x","y","slip","many","others"] ["sheet","x","y","slip","many"] (A7 s_d):=by ac_nf
theorem sc_aq:AM ["sheet","state","standing"] ["sheet","state","standing"] (A7 NX):=by ac_nf
theorem sc_ad:AM ["sheet","rows","hands"] ["sheet","rows","hands"] (A7 Lk):=by ac_nf
theorem sc_bc:AM ["tally","quota"] ["tally","quota"] (A7 S'):=by ac_nf
theorem sc_bb:AM ["way","ballots","sums","standing","deed"] ["way","ballots","sums","standing","deed"] (A7 S_):=by ac_nf
theorem sc_bu:AM ["self","outcome","low","case"] ["self","outcome","low","case"] (A7 Ts):=by ac_nf
theorem sc_ag:AM ["self","hands","seats","lots"] ["self","hands","seats","lots"] (A7 SJ):=by ac_nf
theorem sc_bw:AM ["self","sums","standing","places","quota","best"] ["self","sums","standing","places","quota"] (A7 Tu):=by ac_nf
theorem sc_f:AM ["sheet","state","standing","hand","quota","shares","part","reckoned","behind","one","share","asked","given"] ["sheet","state","standing","hand","quota"] (A7 s_f):=by ac_nf
theorem sc_az:AM ["way","ballots","sums","state","case","deed","places","needed"] ["way","ballots","sums","state","case","deed"] (A7 SX):=by ac_nf
theorem sc_br:AM ["self","sheet","pair","many"] ["self","sheet","pair","many"] (A7 Tp):=by ac_nf
theorem sc_q:AM ["self","outcome","low","start","opened","cases","case","behind"] ["self","outcome","low","start","opened"] (A7 s_q):=by ac_nf
theorem sc_bg:AM ["sheet","state","standing","deed","quota"] ["sheet","state","standing","deed","quota"] (A7 Td):=by ac_nf
theorem sc_bh:AM ["way","sheet","case","deed","quota"] ["way","sheet","case"] (A7 Te):=by ac_nf
theorem sc_bv:AM ["self","sheet","quota","state","standing","places","rounds","rows","sums","deed"] ["self","sheet"] (A7 Tt):=by ac_nf
theorem sc_w:AM ["way","sheet","case","ballots","state","sums","behind","hand","word"] ["way","sheet","case"] (A7 s_w):=by ac_nf
theorem sc_b0:AM ["self","sheet"] ["self","sheet"] (A7 SY):=by ac_nf
theorem sc_bp:AM ["self","sheet","outcome","pair","below","low","high","middle"] ["self","sheet","outcome","pair","below"] (A7 Tn):=by ac_nf
theorem sc_av:AM ["self","sheet","outcome","start","waiting","opened","case","behind","one"] ["self","sheet"] (A7 SU):=by ac_nf
theorem sc_au:AM ["self","sheet","outcome","best","best_pair","pair","many"] ["self","sheet"] (A7 SS):=by ac_nf
theorem sc_bt:AM ["self","sheet","least","high"] ["self","sheet"] (A7 Tr):=by ac_nf
theorem sc_aj:AM ["_law_script","_law_lots_here","_law_lines","_law_sheet","_law_way","_law_margin","_law_lent","_law_found","_law_gap","_law_first","_law_due"] ["_law_script"] (A7 SM):=by ac_nf
set_option genInjectivity false in
set_option genSizeOf false in
structure Ads where
 f_s:Ad
 d_s:AE
 f_a6:Ad
 d_a6:AE
 f_bn:Ad
 d_bn:AE
 f_bo:Ad
 d_bo:AE
 f_n:Ad
 d_n:AE
 f_x:Ad
 d_x:AE
 f_l:Ad
 d_l:AE
 f_a1:Ad
 d_a1:AE
 f_bl:Ad
 d_bl:AE
 f_aa:Ad
 d_aa:AE
 f_ap:Ad
 d_ap:AE
 f_ah:Ad
 d_ah:AE
 f_ao:Ad
 d_ao:AE
 f_ab:Ad
 d_ab:AE
 f_o:Ad
 d_o:AE
 f_am:Ad
 d_am:AE
 f_bk:Ad
 d_bk:AE
 f_v:Ad
 d_v:AE
 f_bm:Ad
 d_bm:AE
 f_be:Ad
 d_be:AE
 f_bi:Ad
 d_bi:AE
 f_a7:Ad
 d_a7:AE
 f_a8:Ad
 d_a8:AE
 f_y:Ad
 d_y:AE
 f_ak:Ad
 d_ak:AE
 f_af:Ad
 d_af:AE
 f_i:Ad
 d_i:AE
 f_bz:Ad
 d_bz:AE
 f_bx:Ad
 d_bx:AE
 f_j:Ad
 d_j:AE
 f_ac:Ad
 d_ac:AE
 f_a0:Ad
 d_a0:AE
 f_a5:Ad
 d_a5:AE
 f_g:Ad
 d_g:AE
 f_a4:Ad
 d_a4:AE
 f_a2:Ad
 d_a2:AE
 f_ai:Ad
 d_ai:AE
 f_a9:Ad
 d_a9:AE
 f_t:Ad
 d_t:AE
 f_u:Ad
 d_u:AE
 f_k:Ad
 d_k:AE
 f_al:Ad
 d_al:AE
 f_m:Ad
 d_m:AE
 f_bq:Ad
 d_bq:AE
 f_bs:Ad
 d_bs:AE
 f_ay:Ad
 d_ay:AE
 f_e:Ad
 d_e:AE
 f_ba:Ad
 d_ba:AE
 f_bj:Ad
 d_bj:AE
 f_bd:Ad
 d_bd:AE
 f_ar:Ad
 d_ar:AE
 f_p:Ad
 d_p:AE
 f_bf:Ad
 d_bf:AE
 f_an:Ad
 d_an:AE
 f_z:Ad
 d_z:AE
 f_a3:Ad
 d_a3:AE
 f_h:Ad
 d_h:AE
 f_ae:Ad
 d_ae:AE
 f_r:Ad
 d_r:AE
 f_aw:Ad
 d_aw:AE
 f_ax:Ad
 d_ax:AE
 f_d:Ad
 d_d:AE
 f_aq:Ad
 d_aq:AE
 f_ad:Ad
 d_ad:AE
 f_bc:Ad
 d_bc:AE
 f_bb:Ad
 d_bb:AE
 f_bu:Ad
 d_bu:AE
 f_ag:Ad
 d_ag:AE
 f_bw:Ad
 d_bw:AE
 f_f:Ad
 d_f:AE
 f_az:Ad
 d_az:AE
 f_br:Ad
 d_br:AE
 f_q:Ad
 d_q:AE
 f_bg:Ad
 d_bg:AE
 f_bh:Ad
 d_bh:AE
 f_bv:Ad
 d_bv:AE
 f_w:Ad
 d_w:AE
 f_b0:Ad
 d_b0:AE
 f_bp:Ad
 d_bp:AE
 f_av:Ad
 d_av:AE
 f_au:Ad
 d_au:AE
 f_bt:Ad
 d_bt:AE
 f_aj:Ad
 d_aj:AE
 c_b:Ad
 c_ca:Ad
 c_b7:Ad
 c_c:Ad
 c_a:Ad
 t_MOST_HANDS:Do
 t_MOST_SEATS:Do
 t_MOST_PLACES:Do
 t_MOST_OPENED:Do
 lc:Ad
 lP:Ad
structure Tx (K:A8) (mg:Ak->A5 Ah) (base:AD) (a:Ads):Prop where
 m_s:mg "all_of"=Aa (.ref a.f_s)
 m_a6:mg "holds"=Aa (.ref a.f_a6)
 m_bn:mg "with_one"=Aa (.ref a.f_bn)
 m_bo:mg "without"=Aa (.ref a.f_bo)
 m_n:mg "members"=Aa (.ref a.f_n)
 m_x:mg "is_whole"=Aa (.ref a.f_x)
 m_l:mg "divisor"=Aa (.ref a.f_l)
 m_a1:mg "down"=Aa (.ref a.f_a1)
 m_bl:mg "up"=Aa (.ref a.f_bl)
 m_aa:mg "numbers_by_slip"=Aa (.ref a.f_aa)
 m_ap:mg "sheet_from"=Aa (.ref a.f_ap)
 m_ah:mg "ballots_in"=Aa (.ref a.f_ah)
 m_ao:mg "number_of"=Aa (.ref a.f_ao)
 m_ab:mg "rows_to"=Aa (.ref a.f_ab)
 m_o:mg "pairs_by_seats"=Aa (.ref a.f_o)
 m_am:mg "lies"=Aa (.ref a.f_am)
 m_bk:mg "under"=Aa (.ref a.f_bk)
 m_v:mg "begin"=Aa (.ref a.f_v)
 m_bm:mg "with_kept"=Aa (.ref a.f_bm)
 m_be:mg "put_waiting"=Aa (.ref a.f_be)
 m_bi:mg "take_waiting"=Aa (.ref a.f_bi)
 m_a7:mg "_law_cell"=Aa (.ref a.f_a7)
 m_a8:mg "_law_mixed"=Aa (.ref a.f_a8)
 m_y:mg "_law_whole"=Aa (.ref a.f_y)
 m_ak:mg "_law_front"=Aa (.ref a.f_ak)
 m_ac:mg "size"=Aa (.ref a.f_ac)
 m_a0:mg "check_row"=Aa (.ref a.f_a0)
 m_a5:mg "free_for"=Aa (.ref a.f_a5)
 m_g:mg "turn_of"=Aa (.ref a.f_g)
 m_a4:mg "fraction"=Aa (.ref a.f_a4)
 m_a2:mg "even_part"=Aa (.ref a.f_a2)
 m_ai:mg "common_bottom"=Aa (.ref a.f_ai)
 m_a9:mg "least_filling"=Aa (.ref a.f_a9)
 m_t:mg "are_hands"=Aa (.ref a.f_t)
 m_u:mg "are_seats"=Aa (.ref a.f_u)
 m_k:mg "are_lots"=Aa (.ref a.f_k)
 m_al:mg "_law_lots"=Aa (.ref a.f_al)
 m_m:mg "_law_slips"=Aa (.ref a.f_m)
 m_e:mg "changed"=Aa (.ref a.f_e)
 m_ba:mg "minus"=Aa (.ref a.f_ba)
 m_bj:mg "times"=Aa (.ref a.f_bj)
 m_bd:mg "parted"=Aa (.ref a.f_bd)
 m_ar:mg "table_row"=Aa (.ref a.f_ar)
 m_p:mg "weighed"=Aa (.ref a.f_p)
 m_bf:mg "share_at"=Aa (.ref a.f_bf)
 m_an:mg "need_of_seat"=Aa (.ref a.f_an)
 m_z:mg "need_of_out"=Aa (.ref a.f_z)
 m_a3:mg "first_case"=Aa (.ref a.f_a3)
 m_d:mg "shift"=Aa (.ref a.f_d)
 m_aq:mg "table"=Aa (.ref a.f_aq)
 m_ad:mg "tallies"=Aa (.ref a.f_ad)
 m_bc:mg "part_kept"=Aa (.ref a.f_bc)
 m_bb:mg "need"=Aa (.ref a.f_bb)
 m_f:mg "kept_by"=Aa (.ref a.f_f)
 m_az:mg "case_behind"=Aa (.ref a.f_az)
 m_bg:mg "state_behind"=Aa (.ref a.f_bg)
 m_bh:mg "state_of"=Aa (.ref a.f_bh)
 m_w:mg "cases_behind"=Aa (.ref a.f_w)
 m_aj:mg "law"=Aa (.ref a.f_aj)
 z_cf:mg "abs"=Ai
 z_cu:mg "all"=Ai
 z_cv:mg "any"=Ai
 z_cm:mg "bool"=Ai
 z_co:mg "enumerate"=Ai
 z_cp:mg "int"=Ai
 z_cc:mg "isinstance"=Ai
 z_b9:mg "len"=Ai
 z_b4:mg "list"=Ai
 z_ch:mg "max"=Ai
 z_cl:mg "min"=Ai
 z_b2:mg "range"=Ai
 z_cd:mg "sorted"=Ai
 z_cj:mg "sum"=Ai
 z_cx:mg "tuple"=Ai
 z_ck:mg "zip"=Ai
 k_cq:mg "MOST_HANDS"=Aa (.int 12 a.t_MOST_HANDS)
 k_ct:mg "MOST_SEATS"=Aa (.int 60 a.t_MOST_SEATS)
 k_cs:mg "MOST_PLACES"=Aa (.int 6 a.t_MOST_PLACES)
 k_cr:mg "MOST_OPENED"=Aa (.int 100 a.t_MOST_OPENED)
 m_b:mg "Seats"=Aa (.ref a.c_b)
 cl_b:Cls K a.c_b
 mk_b:Mk K a.c_b a.f_ag
 me_b_cy:C1 K a.c_b "ahead" a.f_bz
 me_b_c9:C1 K a.c_b "quota" a.f_bx
 me_b_dc:C1 K a.c_b "standing_by_lots" a.f_ay
 me_b_c2:C1 K a.c_b "greatest" a.f_aw
 me_b_c5:C1 K a.c_b "lowest" a.f_ax
 me_b_c0:C1 K a.c_b "deed_due" a.f_bw
 me_b_cz:C1 K a.c_b "counted" a.f_bv
 me_b_df:C1 K a.c_b "told_by" a.f_j
 me_b_c6:C1 K a.c_b "outcome" a.f_b0
 na_b_b1:Cc K a.c_b "hands"
 na_b_ce:Cc K a.c_b "seats"
 na_b_cg:Cc K a.c_b "lots"
 m_ca:mg "Way"=Aa (.ref a.c_ca)
 cl_ca:Cls K a.c_ca
 cf_ca_cw:CFn K a.c_ca "__init__" a.f_r
 m_b7:mg "Margin"=Aa (.ref a.c_b7)
 cl_b7:Cls K a.c_b7
 m_c:mg "SeatsMargin"=Aa (.ref a.c_c)
 cl_c:Cls K a.c_c
 mk_c:Mk K a.c_c a.f_af
 me_c_c8:C1 K a.c_c "possible" a.f_bq
 me_c_c4:C1 K a.c_c "least" a.f_av
 me_c_de:C1 K a.c_c "told" a.f_bt
 me_c_db:C1 K a.c_c "slip_for" a.f_bs
 me_c_da:C1 K a.c_c "shifted" a.f_br
 me_c_c1:C1 K a.c_c "enough" a.f_bp
 me_c_c3:C1 K a.c_c "high" a.f_au
 me_c_c7:C1 K a.c_c "paper_of" a.f_q
 me_c_dg:C1 K a.c_c "word_of" a.f_bu
 na_c_b6:Cc K a.c_c "way"
 ia_c_b7:P7 K a.c_c a.c_b7
 m_a:mg "Case"=Aa (.ref a.c_a)
 cl_a:Cls K a.c_a
 mk_a:Mk K a.c_a a.f_i
 me_a_cn:C1 K a.c_a "ended" a.f_h
 me_a_dd:C1 K a.c_a "tells" a.f_ae
 na_a_b8:Cc K a.c_a "deeds"
 na_a_b3:Cc K a.c_a "standing"
 na_a_cb:Cc K a.c_a "places"
 na_a_b5:Cc K a.c_a "needed"
 na_a_ci:Cc K a.c_a "state"
 lam:EO base mg a.lc a.lP
 lcode:a.d_d.code=.ref a.lc
 F_s:Fun K "all_of" "all_of" s_s a.f_s a.d_s
 b_s:AJ K a.d_s ["hands"] []
 F_a6:Fun K "holds" "holds" SB a.f_a6 a.d_a6
 b_a6:AJ K a.d_a6 ["mask","hand"] []
 F_bn:Fun K "with_one" "with_one" Tk a.f_bn a.d_bn
 b_bn:AJ K a.d_bn ["mask","hand"] []
 F_bo:Fun K "without" "without" Tl a.f_bo a.d_bo
 b_bo:AJ K a.d_bo ["mask","hand"] []
 F_n:Fun K "members" "members" s_n a.f_n a.d_n
 b_n:AJ K a.d_n ["mask"] []
 F_x:Fun K "is_whole" "is_whole" s_x a.f_x a.d_x
 b_x:AJ K a.d_x ["thing"] []
 F_l:Fun K "divisor" "divisor" s_l a.f_l a.d_l
 b_l:AJ K a.d_l ["one","other"] []
 F_a1:Fun K "down" "down" S5 a.f_a1 a.d_a1
 b_a1:AJ K a.d_a1 ["top","bottom"] []
 F_bl:Fun K "up" "up" Ti a.f_bl a.d_bl
 b_bl:AJ K a.d_bl ["top","bottom"] []
 F_aa:Fun K "numbers_by_slip" "numbers_by_slip" SF a.f_aa a.d_aa
 b_aa:AJ K a.d_aa ["lines"] []
 F_ap:Fun K "sheet_from" "sheet_from" NW a.f_ap a.d_ap
 b_ap:AJ K a.d_ap ["numbers"] []
 F_ah:Fun K "ballots_in" "ballots_in" NS a.f_ah a.d_ah
 b_ah:AJ K a.d_ah ["sheet"] []
 F_ao:Fun K "number_of" "number_of" NV a.f_ao a.d_ao
 b_ao:AJ K a.d_ao ["sheet","slip"] []
 F_ab:Fun K "rows_to" "rows_to" SG a.f_ab a.d_ab
 b_ab:AJ K a.d_ab ["lines","slip","many"] []
 F_o:Fun K "pairs_by_seats" "pairs_by_seats" s_o a.f_o a.d_o
 b_o:AJ K a.d_o ["outcome"] []
 F_am:Fun K "lies" "lies" SO a.f_am a.d_am
 b_am:AJ K a.d_am ["slip","standing"] []
 F_bk:Fun K "under" "under" Th a.f_bk a.d_bk
 b_bk:AJ K a.d_bk ["one","other"] []
 F_v:Fun K "begin" "begin" s_v a.f_v a.d_v
 b_v:AJ K a.d_v ["sheet","hands"] []
 F_bm:Fun K "with_kept" "with_kept" Tj a.f_bm a.d_bm
 b_bm:AJ K a.d_bm ["kept","hand","given"] []
 F_be:Fun K "put_waiting" "put_waiting" Tb a.f_be a.d_be
 b_be:AJ K a.d_be ["waiting","case"] []
 F_bi:Fun K "take_waiting" "take_waiting" Tf a.f_bi a.d_bi
 b_bi:AJ K a.d_bi ["waiting"] []
 F_a7:Fun K "_law_cell" "_law_cell" SC a.f_a7 a.d_a7
 b_a7:AJ K a.d_a7 ["_law_script","_law_k"] []
 F_a8:Fun K "_law_mixed" "_law_mixed" SD a.f_a8 a.d_a8
 b_a8:AJ K a.d_a8 ["_law_cell_here","_law_by"] []
 F_y:Fun K "_law_whole" "_law_whole" s_y a.f_y a.d_y
 b_y:AJ K a.d_y ["_law_found"] []
 F_ak:Fun K "_law_front" "_law_front" NU a.f_ak a.d_ak
 b_ak:AJ K a.d_ak ["_law_sheet","_law_mask"] []
 F_af:Fun K "__init__" "Margin.__init__" SI a.f_af a.d_af
 b_af:AJ K a.d_af ["self","way"] []
 F_i:Fun K "__init__" "Case.__init__" s_i a.f_i a.d_i
 b_i:AJ K a.d_i ["self","deeds","standing","places","needed","state"] []
 F_bz:Fun K "ahead" "Way.ahead" Tw a.f_bz a.d_bz
 b_bz:AJ K a.d_bz ["self","one","other"] []
 F_bx:Fun K "quota" "Seats.quota" Tv a.f_bx a.d_bx
 b_bx:AJ K a.d_bx ["self","ballots"] []
 F_j:Fun K "told_by" "Seats.told_by" s_j a.f_j a.d_j
 b_j:AJ K a.d_j ["self","paper"] []
 F_ac:Fun K "size" "size" SH a.f_ac a.d_ac
 b_ac:AJ K a.d_ac ["mask"] []
 F_a0:Fun K "check_row" "check_row" S4 a.f_a0 a.d_a0
 b_a0:AJ K a.d_a0 ["old","new","number"] []
 F_a5:Fun K "free_for" "free_for" SA a.f_a5 a.d_a5
 b_a5:AJ K a.d_a5 ["sheet","slip"] []
 F_g:Fun K "turn_of" "turn_of" s_g a.f_g a.d_g
 b_g:AJ K a.d_g ["slip","x","y"] []
 F_a4:Fun K "fraction" "fraction" S9 a.f_a4 a.d_a4
 b_a4:AJ K a.d_a4 ["top","bottom"] []
 F_a2:Fun K "even_part" "even_part" S7 a.f_a2 a.d_a2
 b_a2:AJ K a.d_a2 ["free","many"] []
 F_ai:Fun K "common_bottom" "common_bottom" SK a.f_ai a.d_ai
 b_ai:AJ K a.d_ai ["bottoms"] []
 F_a9:Fun K "least_filling" "least_filling" SE a.f_a9 a.d_a9
 b_a9:AJ K a.d_a9 ["factor","one","other","above"] []
 F_t:Fun K "are_hands" "are_hands" s_t a.f_t a.d_t
 b_t:AJ K a.d_t ["thing"] []
 F_u:Fun K "are_seats" "are_seats" s_u a.f_u a.d_u
 b_u:AJ K a.d_u ["thing"] []
 F_k:Fun K "are_lots" "are_lots" s_k a.f_k a.d_k
 b_k:AJ K a.d_k ["thing","hands"] []
 F_al:Fun K "_law_lots" "_law_lots" SN a.f_al a.d_al
 b_al:AJ K a.d_al ["_law_cell_here","_law_hands"] []
 F_m:Fun K "_law_slips" "_law_slips" s_m a.f_m a.d_m
 b_m:AJ K a.d_m ["_law_script","_law_lines","_law_most"] []
 F_bq:Fun K "possible" "Margin.possible" To a.f_bq a.d_bq
 b_bq:AJ K a.d_bq ["self","sheet"] []
 F_bs:Fun K "slip_for" "Margin.slip_for" Tq a.f_bs a.d_bs
 b_bs:AJ K a.d_bs ["self","x","y"] []
 F_ay:Fun K "standing_by_lots" "Seats.standing_by_lots" NY a.f_ay a.d_ay
 b_ay:AJ K a.d_ay ["self","standing"] []
 F_e:Fun K "changed" "changed" s_e a.f_e a.d_e
 b_e:AJ K a.d_e ["sheet","change"] []
 F_ba:Fun K "minus" "minus" SZ a.f_ba a.d_ba
 b_ba:AJ K a.d_ba ["one","other"] []
 F_bj:Fun K "times" "times" Tg a.f_bj a.d_bj
 b_bj:AJ K a.d_bj ["one","other"] []
 F_bd:Fun K "parted" "parted" Ta a.f_bd a.d_bd
 b_bd:AJ K a.d_bd ["one","other"] []
 F_ar:Fun K "table_row" "table_row" SR a.f_ar a.d_ar
 b_ar:AJ K a.d_ar ["slip","free","kept","standing"] []
 F_p:Fun K "weighed" "weighed" s_p a.f_p a.d_p
 b_p:AJ K a.d_p ["sheet","shares"] []
 F_bf:Fun K "share_at" "share_at" Tc a.f_bf a.d_bf
 b_bf:AJ K a.d_bf ["slip","free","standing","hand"] []
 F_an:Fun K "need_of_seat" "need_of_seat" SQ a.f_an a.d_an
 b_an:AJ K a.d_an ["way","quota","sums","standing","hand"] []
 F_z:Fun K "need_of_out" "need_of_out" s_z a.f_z a.d_z
 b_z:AJ K a.d_z ["way","quota","sums","standing","hand"] []
 F_a3:Fun K "first_case" "first_case" S8 a.f_a3 a.d_a3
 b_a3:AJ K a.d_a3 ["way","sheet"] []
 F_h:Fun K "ended" "Case.ended" s_h a.f_h a.d_h
 b_h:AJ K a.d_h ["self"] []
 F_ae:Fun K "tells" "Case.tells" Ll a.f_ae a.d_ae
 b_ae:AJ K a.d_ae ["self","hands"] []
 F_r:Ja K "__init__" "Way.__init__" s_r a.f_r a.d_r
 b_r:AJ K a.d_r ["self","hands","seats","lots"] []
 F_aw:Fun K "greatest" "Seats.greatest" SV a.f_aw a.d_aw
 b_aw:AJ K a.d_aw ["self","sums","standing"] []
 F_ax:Fun K "lowest" "Seats.lowest" SW a.f_ax a.d_ax
 b_ax:AJ K a.d_ax ["self","sums","standing"] []
 F_d:Fun K "shift" "shift" s_d a.f_d a.d_d
 b_d:AJ K a.d_d ["sheet","x","y","slip","many"] []
 F_aq:Fun K "table" "table" NX a.f_aq a.d_aq
 b_aq:AJ K a.d_aq ["sheet","state","standing"] []
 F_ad:Fun K "tallies" "tallies" Lk a.f_ad a.d_ad
 b_ad:AJ K a.d_ad ["sheet","rows","hands"] []
 F_bc:Fun K "part_kept" "part_kept" S' a.f_bc a.d_bc
 b_bc:AJ K a.d_bc ["tally","quota"] []
 F_bb:Fun K "need" "need" S_ a.f_bb a.d_bb
 b_bb:AJ K a.d_bb ["way","ballots","sums","standing","deed"] []
 F_bu:Fun K "word_of" "SeatsMargin.word_of" Ts a.f_bu a.d_bu
 b_bu:AJ K a.d_bu ["self","outcome","low","case"] []
 F_ag:Ja K "__init__" "Seats.__init__" SJ a.f_ag a.d_ag
 b_ag:AJ K a.d_ag ["self","hands","seats","lots"] []
 F_bw:Fun K "deed_due" "Seats.deed_due" Tu a.f_bw a.d_bw
 b_bw:AJ K a.d_bw ["self","sums","standing","places","quota"] []
 F_f:Fun K "kept_by" "kept_by" s_f a.f_f a.d_f
 b_f:AJ K a.d_f ["sheet","state","standing","hand","quota"] []
 F_az:Fun K "case_behind" "case_behind" SX a.f_az a.d_az
 b_az:AJ K a.d_az ["way","ballots","sums","state","case","deed"] []
 F_br:Fun K "shifted" "Margin.shifted" Tp a.f_br a.d_br
 b_br:AJ K a.d_br ["self","sheet","pair","many"] []
 F_q:Fun K "paper_of" "SeatsMargin.paper_of" s_q a.f_q a.d_q
 b_q:AJ K a.d_q ["self","outcome","low","start","opened"] []
 F_bg:Fun K "state_behind" "state_behind" Td a.f_bg a.d_bg
 b_bg:AJ K a.d_bg ["sheet","state","standing","deed","quota"] []
 F_bh:Fun K "state_of" "state_of" Te a.f_bh a.d_bh
 b_bh:AJ K a.d_bh ["way","sheet","case"] []
 F_bv:Fun K "counted" "Seats.counted" Tt a.f_bv a.d_bv
 b_bv:AJ K a.d_bv ["self","sheet"] []
 F_w:Fun K "cases_behind" "cases_behind" s_w a.f_w a.d_w
 b_w:AJ K a.d_w ["way","sheet","case"] []
 F_b0:Fun K "outcome" "Way.outcome" SY a.f_b0 a.d_b0
 b_b0:AJ K a.d_b0 ["self","sheet"] []
 F_bp:Fun K "enough" "Margin.enough" Tn a.f_bp a.d_bp
 b_bp:AJ K a.d_bp ["self","sheet","outcome","pair","below"] []
 F_av:Fun K "least" "SeatsMargin.least" SU a.f_av a.d_av
 b_av:AJ K a.d_av ["self","sheet"] []
 F_au:Fun K "high" "Margin.high" SS a.f_au a.d_au
 b_au:AJ K a.d_au ["self","sheet"] []
 F_bt:Fun K "told" "Margin.told" Tr a.f_bt a.d_bt
 b_bt:AJ K a.d_bt ["self","sheet"] []
 F_aj:Fun K "law" "law" SM a.f_aj a.d_aj
local macro_rules | `(tactic| trivial)=>`(tactic| refine Sz.neg (by trivial))
local macro_rules | `(tactic| trivial)=>`(tactic| refine Sz.fdiv (by trivial))
local macro_rules | `(tactic| trivial)=>`(tactic| refine Sz.sub (by trivial) (by trivial))
local macro_rules | `(tactic| trivial)=>`(tactic| refine Sz.add (by trivial) (by trivial))
local macro_rules | `(tactic| trivial)=>`(tactic| refine Sz.mul (by trivial) (by trivial))
local macro_rules | `(tactic| trivial)=>`(tactic| exact Acn _ (by first | decide | decide +kernel) (szd 200))
local macro_rules | `(tactic| trivial)=>`(tactic| first | assumption | exact szd 64 | exact szd 200 | exact szd 1000)
local macro_rules | `(tactic| symm)=>`(tactic| (repeat (first | refine ⟨_,rfl,?_⟩ | refine ⟨_,_,rfl,rfl,?_⟩ | refine ⟨rfl,?_⟩ | refine ⟨(by show (_:Ab)≠0;first | decide | decide +kernel),?_⟩ | refine ⟨⟨(by show (_:Ab)≠0;decide),szd 9000⟩,?_⟩ | refine ⟨(by show I_ _ _;exact ⟨by decide,by decide,by decide⟩),?_⟩ | refine ⟨(by show Kw _ _;refine ⟨_,_,(by trivial),(by trivial),?_⟩;decide +kernel),?_⟩ | refine ⟨_,_,_,_,rfl,rfl,SqL.of (by assumption),(by rfl),?_⟩ | refine ⟨_,_,_,_,rfl,rfl,SqT.of (by assumption),(by rfl),?_⟩ | refine ⟨_,_,rfl,.inl (SqL.of (by assumption)),?_⟩ | refine ⟨_,_,rfl,.inr (SqT.of (by assumption)),?_⟩)))
local macro_rules | `(tactic| nofun)=>`(tactic| first | exact .inl rfl | exact .inr rfl | assumption | exact ⟨rfl,by decide +kernel,by decide +kernel,rfl,by decide +kernel,rfl,by decide +kernel,rfl,by decide +kernel⟩)
local macro_rules | `($a *> $b)=>`(@Ag _ _ _ _ _ $a $b (by rfl))
local macro_rules | `(tactic| subst_eqs)=>`(tactic| (repeat (first | with_reducible refine AbO fun _ _=>?_ | refine ⟨_,rfl,?_⟩ | refine ⟨_,_,rfl,rfl,?_⟩ | refine ⟨rfl,?_⟩ | refine ⟨(by show (_:Ab)≠0;first | decide | decide +kernel),?_⟩ | refine ⟨⟨(by show (_:Ab)≠0;decide),szd 9000⟩,?_⟩ | refine ⟨(by show I_ _ _;exact ⟨by decide,by decide,by decide⟩),?_⟩ | refine ⟨(by show Kw _ _;refine ⟨_,_,(by trivial),(by trivial),?_⟩;decide +kernel),?_⟩ | refine ⟨_,_,_,_,rfl,rfl,SqL.of (by assumption),(by rfl),?_⟩ | refine ⟨_,_,_,_,rfl,rfl,SqT.of (by assumption),(by rfl),?_⟩ | refine ⟨_,_,rfl,.inl (SqL.of (by assumption)),?_⟩ | refine ⟨_,_,rfl,.inr (SqT.of (by assumption)),?_⟩ | refine AcX (by assumption) ?_ | refine Vh (by assumption) ?_)))
local macro_rules | `(tactic| exists $a, $h, $H, $o, $n:ident, $s:ident, $e:ident) => `(tactic| (have $s:ident := AN $h $o; have $e:ident : (upd $H $a $o) $a = Aa $o := Az; generalize upd $H $a $o = $n:ident at $s:ident $e:ident ⊢))
local macro_rules | `(tactic| exists $a, $h, $H, $o, $n:ident, $s:ident, $e:ident, $v) => `(tactic| (have $s:ident := AN $h $o; have $e:ident : (upd $H $a $o) $a = Aa $v := Az; generalize upd $H $a $o = $n:ident at $s:ident $e:ident ⊢))
local macro_rules | `(tactic| exists $k, $a:ident, $h:ident, $H, $o, $n:ident, $s:ident, $e:ident, rfl) => `(tactic| (refine ⟨(by show $k ≤ AB; decide), fun $a $h => ?_⟩; exists $a, $h, $H, $o, $n, $s, $e))
local macro_rules | `(tactic| right)=>`(tactic| (refine DK (C8 ?_);simp only [CI,Vq,Ly,At,Bj,OD,length_drop,BP,DI];omega))
section
variable {P:A9} {w:A3} {K:A8} {mg:Ak->A5 Ah} {base:AD} {ad:Ads}
inductive Ex2 {α0 α1:Type} (p:α0->α1->Prop):Prop
 | mk (x0:α0) (x1:α1) (h:p x0 x1):Ex2 p
inductive Ex3 {α0 α1 α2:Type} (p:α0->α1->α2->Prop):Prop
 | mk (x0:α0) (x1:α1) (x2:α2) (h:p x0 x1 x2):Ex3 p
inductive Ex4 {α0 α1 α2 α3:Type} (p:α0->α1->α2->α3->Prop):Prop
 | mk (x0:α0) (x1:α1) (x2:α2) (x3:α3) (h:p x0 x1 x2 x3):Ex4 p
inductive Ex6 {α0 α1 α2 α3 α4 α5:Type} (p:α0->α1->α2->α3->α4->α5->Prop):Prop
 | mk (x0:α0) (x1:α1) (x2:α2) (x3:α3) (x4:α4) (x5:α5) (h:p x0 x1 x2 x3 x4 x5):Ex6 p
inductive P6 {α0 α1 α2 α3 α4 α5 α6 α7 α8 α9 α10:Type} (p:α0->α1->α2->α3->α4->α5->α6->α7->α8->α9->α10->Prop):Prop
 | mk (x0:α0) (x1:α1) (x2:α2) (x3:α3) (x4:α4) (x5:α5) (x6:α6) (x7:α7) (x8:α8) (x9:α9) (x10:α10) (h:p x0 x1 x2 x3 x4 x5 x6 x7 x8 x9 x10):P6 p
local macro_rules | `($f:ident <* $a)=>do
  let n:=f.getId.toString
  let i:=fun (s:DX)=>D5 (.str (.str .anonymous "T") s)
  `(@RE _ _ _ _ _ _ _ _ _ _ _ _ _ _ _ _ ($(D5 (.mkSimple ("ok_"++n))) $(D5 `T)) ($(D5 `hr.mono) (by decide)) rfl $(i ("m_"++n)) $(D5 (.str (.str (.str .anonymous "T") ("F_"++n)) "kp")) $(i ("b_"++n)) .nil Fs $a (by decide) (by rfl) (by rfl))
local macro_rules | `($e =<< ($f:ident >=> $a))=>do
  let i:=fun (s:DX)=>D5 (.str (.str .anonymous "T") s)
  match f.getId with
  | .str (.str (.str _ c) m) k=>`(AaM $e $(i ("cl_"++c)) $(i ("me_"++c++"_"++m)) ($(D5 (.mkSimple ("ok_"++k))) $(D5 `T)) ($(D5 `hr.mono) (by decide)) $(i ("b_"++k)) .nil Fs $a)
  | _=>Lean.Macro.throwUnsupported
local macro_rules | `($a ∩ ($b ∪ $c))=>`(@AaL _ _ _ _ _ _ _ $a $b $c (fun _ _=>rfl))
local macro_rules | `($a ⊂ ($b ∪ $c))=>`(@Jz _ _ _ _ _ _ _ _ $a $b $c (D_ _))
local macro_rules | `($a ⊆ ($b ∪ $c))=>`(@Abb _ _ _ _ _ _ _ _ $a $b $c)
local macro_rules | `(~~~$a)=>`(@AY _ _ _ (@Abc _ _ _ _ $a))
local macro_rules | `($n:num <$> $a)=>`(@RS _ _ $n _ _ _ _ $(D5 `nd) rfl (B2 rfl) $a (by rfl) (by nofun))
local macro_rules | `($n:num <=< $a)=>`(@RS _ _ $n _ _ _ _ $(D5 `nd) rfl (IL rfl) $a (by rfl) (by nofun))
local macro_rules | `(tactic| exists $f:ident)=>do
  let n:=f.getId.toString
  let i:=fun (s:DX)=>D5 (.mkSimple s)
  `(tactic| (refine $(D5 (.str (.str (.str .anonymous "T") ("F_"++n)) "ok")) $(i ("sc_"++n)) (fun $(i "vs") $(i "H") $(i "Q") $(i "E") $(i "h")=>?_) (fun $(i "cdv") $(i "A") $(i "outer") $(i "s") $(i "H") $(i "vs") $(i "Q") $(i "E") $(i "hr") $(i "h")=>?_);(next=>(cases $(i "h"):ident;subst_vars;rfl));have $(i "nd"):ident:=$(D5 (.str (.mkSimple ("sc_"++n)) "nd"))))
theorem ok_s (T:Tx K mg base ad):AG P w K mg base CX0 1 ad.f_s ad.d_s ["hands"] Ab':=by
 refine T.F_s.ok sc_s (fun vs H Q E h=>?_) (fun cdv A outer s H vs Q E hr h=>?_)
 ·obtain ⟨h,rfl,_⟩:=h;rfl
 obtain ⟨h,rfl,h0,h1,q⟩:=h;refine ⟨_,(~~~(@AA _ _ _ _ _ _ _ _ Ea (@AA _ _ _ _ _ _ _ _ NC As (pv 0)) As)),?_⟩;exact ⟨_,rfl,_,_,rfl,rfl,⟨h0,by omega,by decide⟩,_,_,rfl,rfl,q⟩
theorem ok_a6 (T:Tx K mg base ad):AG P w K mg base CX0 1 ad.f_a6 ad.d_a6 ["mask","hand"] Ub:=by
 exists a6
 obtain ⟨m,h,rfl,h0,q⟩:=h;refine ⟨_,(~~~(@Ep _ _ _ _ _ _ _ _ CU (@AA _ _ _ _ _ _ _ _ Jr (@AA _ _ _ _ _ _ _ _ R6 (pv 0) (pv 1)) As) As (D_ _))),?_⟩;refine ⟨_,rfl,_,rfl,_,_,rfl,rfl,h0,_,_,rfl,rfl,rfl,?_⟩;show Q (.bl (decide (V.int (CJ (m / 2 ^ h.toNat) 1)=V.int 1))) H;rw [Q7];exact q
theorem ok_bn (T:Tx K mg base ad):AG P w K mg base CX0 1 ad.f_bn ad.d_bn ["mask","hand"] UH:=by
 exists bn
 obtain ⟨m,h,rfl,h0,h1,q⟩:=h;refine ⟨_,(~~~(@AA _ _ _ _ _ _ _ _ Aa3 (pv 0) (@AA _ _ _ _ _ _ _ _ NC As (pv 1)))),?_⟩;exact ⟨_,rfl,_,rfl,_,_,rfl,rfl,⟨h0,by omega,by decide⟩,_,_,rfl,rfl,q⟩
theorem ok_bo (T:Tx K mg base ad):AG P w K mg base CX0 1 ad.f_bo ad.d_bo ["mask","hand"] UJ:=by
 exists bo
 obtain ⟨m,h,rfl,h0,h1,q⟩:=h;refine ⟨_,(~~~(@AA _ _ _ _ _ _ _ _ Jr (pv 0) (@Hg _ _ _ _ _ _ AcY (@AA _ _ _ _ _ _ _ _ NC As (pv 1))))),?_⟩;exact ⟨_,rfl,_,rfl,_,_,rfl,rfl,⟨h0,by omega,by decide⟩,_,rfl,_,_,rfl,rfl,q⟩
theorem ok_n (T:Tx K mg base ad):AG P w K mg base CX0 1 ad.f_n ad.d_n ["mask"] Ace:=by
 refine T.F_n.ok sc_n (fun vs H Q E h=>?_) (fun cdv A outer s H vs Q E hr h=>?_)
 ·obtain ⟨m,rfl,_⟩:=h;rfl
 obtain ⟨m,rfl,m0,m1,q⟩:=h;refine ⟨_,(~~~(DS (fsc:=A7 s_n) (N:=["mask"]) (Nc:=["mask","hand"]) rfl rfl (by nofun) rfl (FV rfl T.z_b2 ((NF PySem.F.plainAttrs_int PySem.F.slot_int_bit_length PySem.F.type_int_bit_length Aab (pv 0))*>Al)) (fun _ _ _ _=>(Fv (CU⊂((@AA _ _ _ _ _ _ _ _ Jr (@AA _ _ _ _ _ _ _ _ R6 (pv 0) (pv 1)) As)∪As)))) (fun _ _ _ _=>(pv 1)))),?_⟩;have hb:(Ed m)<=12:=intBits_le_iff.mpr (by show m.natAbs < 4096;omega);refine ⟨_,rfl,rfl,m,rfl,rfl,_,rfl,by omega,by omega,?_⟩;have en:((Ed m:Ae):Ab).toNat=Ed m:=by omega
 rw [en];refine GZ (C9 (by omega)) (fun D i ys H'=>ys=(hands i (bit m)).map V.int/\H'=upd H D (.lst ys)) (fun D hD=>⟨rfl,rfl⟩) (fun D i ys H' hq_=>by obtain ⟨e1,e2⟩:=hq_;rw [e2,e1];exact ⟨Az,by rw [At];exact FP i (bit m)⟩) ?_ ?_
 ·rintro D i ys H' K1 K2 hD hi ⟨e1,rfl⟩ k1 k2;have ei:(0+(i:Ab)).toNat=i:=by omega
  refine ⟨_,rfl,_,rfl,_,_,rfl,rfl,(by show (0:Ab)<=0+(i:Ab);omega),_,_,rfl,rfl,rfl,_,rfl,?_⟩
  try dsimp only
  rw [show decide (V.int (CJ (m / 2 ^ (0+(i:Ab)).toNat) 1)=V.int 1)=bit m i from by rw [Q7,ei]];have ms:=KB i (bit m)
  cases e:bit m i with
  | true =>
    rw [e,Ar rfl] at ms;refine Np ⟨_,rfl,?_⟩;refine k1 _ _ Az ⟨?_,by rw [DV]⟩;rw [ms,AK,e1,F9];rfl
  | false =>
    rw [e,Ao (by decide)] at ms;refine KD ?_;exact k2 _ ⟨by rw [ms];exact e1,rfl⟩
 ·rintro D ys H' hD ⟨rfl,rfl⟩;refine q D _ hD (AN hD _) ?_;rw [Az,Ye m0 m1]
theorem ok_x (T:Tx K mg base ad):AG P w K mg base CX0 1 ad.f_x ad.d_x ["thing"] UG:=by
 refine T.F_x.ok sc_x (fun vs H Q E h=>?_) (fun cdv A outer s H vs Q E hr h=>?_)
 ·obtain ⟨c,rfl,_⟩:=h;rfl
 obtain ⟨c,rfl,q⟩:=h;refine ⟨_,(~~~(@Ft _ _ _ _ _ _ _ (@B4 _ _ _ _ _ _ _ _ _ HR (by rfl) T.z_cc Hy ((pv 0)*>((Ig (v:=.ty "int") rfl T.z_cp WH rfl)*>Al)) (by decide) (by decide) (by rfl) (by rfl)) (@FT _ _ _ _ _ (@RL _ _ _ _ (@B4 _ _ _ _ _ _ _ _ _ HR (by rfl) T.z_cc Hy ((pv 0)*>((Ig (v:=.ty "bool") rfl T.z_cm WG rfl)*>Al)) (by decide) (by decide) (by rfl) (by rfl)))))),?_⟩;refine ⟨_,rfl,_,_,_,_,rfl,CS.int c,QL,_,rfl,?_⟩;refine Np ?_;exact ⟨_,rfl,_,_,_,_,rfl,CS.int c,QK,_,rfl,q⟩
theorem ok_l (T:Tx K mg base ad):AG P w K mg base CX0 1 ad.f_l ad.d_l ["one","other"] Aca:=by
 refine T.F_l.ok sc_l (fun vs H Q E h=>?_) (fun cdv A outer s H vs Q E hr h=>?_)
 ·obtain ⟨a,b,rfl,_⟩:=h;rfl
 obtain ⟨a,b,rfl,q⟩:=h;have nd:=sc_l.nd;refine ⟨_,(@Av _ _ _ _ _ (2<$>(@B4 _ _ _ _ _ _ _ _ _ K6 (by rfl) T.z_cf Mp ((pv 0)*>Al) (by decide) (by decide) (by rfl) (by rfl))) (@Av _ _ _ _ _ (3<$>(@B4 _ _ _ _ _ _ _ _ _ K6 (by rfl) T.z_cf Mp ((pv 1)*>Al) (by decide) (by decide) (by rfl) (by rfl))) (@Av _ _ _ _ _ (Lg Ci (FR⊂((pv 3)∪As)) (@Av _ _ _ _ _ (4<$>(@AA _ _ _ _ _ _ _ _ Dv (pv 2) (pv 3))) (@Av _ _ _ _ _ (2<$>(pv 3)) (@AY _ _ _ (3<$>(pv 4)))))) (~~~(pv 2))))),?_⟩;refine ⟨_,rfl,_,rfl,?_⟩;refine ⟨_,rfl,_,rfl,?_⟩;refine Oh (fun σ' H'=>Ex3 fun (x y:Ab) (v:A5 V)=>σ'=[Aa (.int a),Aa (.int b),Aa (.int x),Aa (.int y),v]/\H'=H/\0<=x/\0<=y/\Cw x y=Cw a b) (fun σ' _=>match σ' with | [_,_,_,Aa (.int y),_]=>y.toNat | _=>0) ⟨_,_,_,rfl,rfl,?_,?_,YN a b⟩ ?_ Adl
 ·rw [K3];omega
 ·rw [K3];omega
 rintro σ1 H1 ⟨x,y,v,rfl,rfl,x0,y0,g⟩;refine ⟨_,rfl,_,_,rfl,rfl,_,rfl,?_⟩;refine Jh (fun c=>?_) (fun c=>?_)
 ·have c':0 < y:=CK c;have m:=Di x c';refine ⟨_,rfl,_,rfl,_,_,rfl,rfl,E_ c',?_⟩;refine ⟨_,rfl,?_⟩;refine ⟨_,rfl,?_⟩;refine ⟨⟨y,x.fmod y,_,rfl,rfl,y0,m.1,(YQ x0 c').trans g⟩,?_⟩;show (x.fmod y).toNat < y.toNat;omega
 ·have c':¬ 0 < y:=fun e=>c (AT e);refine ⟨_,rfl,?_⟩;have e:=YO x0 y0 c';have e2:AW x y=AW a b:=by unfold AW;rw [g]
  rw [e,e2];exact q
theorem ok_a1 (T:Tx K mg base ad):AG P w K mg base CX0 1 ad.f_a1 ad.d_a1 ["top","bottom"] TU:=by
 exists a1
 obtain ⟨t,b,rfl,b0,szt,q⟩:=h;refine ⟨_,(~~~(@AA _ _ _ _ _ _ _ _ La (pv 0) (pv 1))),?_⟩;symm;refine ⟨⟨by omega,szt⟩,?_⟩;exact q
theorem ok_bl (T:Tx K mg base ad):AG P w K mg base CX0 1 ad.f_bl ad.d_bl ["top","bottom"] UD:=by
 exists bl
 obtain ⟨t,b,rfl,b0,szt,q⟩:=h;refine ⟨_,(~~~(@Hg _ _ _ _ _ _ Iq (@AA _ _ _ _ _ _ _ _ La (@Hg _ _ _ _ _ _ Iq (pv 0)) (pv 1)))),?_⟩;symm;refine ⟨⟨by omega,szt.neg⟩,?_⟩;symm;exact q
theorem ok_aa (T:Tx K mg base ad):AG P w K mg base CX0 1 ad.f_aa ad.d_aa ["lines"] Uk:=by
 exists aa
 obtain ⟨l,ls,p,rfl,hl,g,hp,p64,q⟩:=h;refine ⟨_,(@Av _ _ _ _ _ (1<$>NH) (@Av _ _ _ _ _ (C4 Ci rfl (BV (pv 0)) (EC rfl (BY (B5 (i:=2) sc_aa.nd rfl (B2 rfl)) (BY (B5 (i:=3) sc_aa.nd rfl (B2 rfl)) ED))) (@AY _ _ _ (Jy (u1 hr.units) (pv 1) (pv 2) (@AA _ _ _ _ _ _ _ _ C3 (Jv (u1 hr.units) (pv 1) (pv 2) As ⟨rfl,rfl,rfl,rfl⟩) (pv 3)) rfl))) (~~~(pv 1)))),?_⟩;intro d hd
 exists d,hd,H,(.dT []),H0,s0,e0
 refine ⟨_,rfl,l,rfl,⟨_,SqL.of (s0 _ _ hl)⟩,DC (xs:=vls ls) (fun i σ' H'=>Ex3 fun (v2 v3:A5 V) (kvs:Ac (Ac Key × V))=>σ'=[Aa (.ref l),Aa (.ref d),v2,v3]/\Ax H H'/\H' d=Aa (.dT kvs)/\DictOf (Am (ls.take i)) kvs) ⟨Ai,Ai,[],rfl,s0,e0,DictOf.nil⟩ (fun i σ' H' _ hq_=>by obtain ⟨_,_,_,_,e,_⟩:=hq_;exact SqL.of (e _ _ hl)) ?_ ?_⟩
 ·rintro i x σ' H' hx ⟨v2,v3,kvs,rfl,s1,e1,dk⟩;obtain ⟨f,hf,rfl,fm,et⟩:=F3 hx;obtain ⟨g1,g2⟩:=g f fm
  have sub:∀q∈Am (ls.take i),q.1∈p:=fun q m=>by
   obtain ⟨r,rm,rfl⟩:=mem_map.mp m;exact hp _ (mem_map.mpr ⟨r,Wn rm,rfl⟩)
  have lim:=dk.len sub;have kt:H' f.2.1=Aa (.tup ((f.2.2.1.map AH:Ac Key).map kV)):=by rw [G3];exact s1 _ _ g2
  refine ⟨f.1,_,rfl,SqT.of (s1 _ _ g1),rfl,_,_,rfl,_,_,rfl,rfl,?_⟩;refine ⟨_,rfl,d,rfl,.inr ⟨_,.inl e1⟩,_,rfl,_,Df.t e1 kt,?_⟩;rw [K_ dk];refine ⟨_,rfl,_,_,rfl,rfl,_,rfl,_,rfl,d,_,rfl,EM.t e1 kt (C8 (by omega)),?_⟩;refine ⟨_,_,_,rfl,Bs s1 hd,Az,?_⟩;rw [et,Gv];exact dk.put f.2.2.1 f.2.2.2
 ·rintro σ' H' ⟨v2,v3,kvs,rfl,s1,e1,dk⟩;rw [CI,Cn (A1 _)] at dk;exact ⟨_,rfl,q d kvs H' hd s1 e1 dk⟩
theorem ok_ap (T:Tx K mg base ad):AG P w K mg base CX0 1 ad.f_ap ad.d_ap ["numbers"] Uw:=by
 exists ap
 obtain ⟨d,kvs,rfl,hd,vd,k64,q⟩:=h;refine ⟨_,(~~~(DS (fsc:=A7 NW) (N:=["numbers"]) (Nc:=["numbers","slip"]) rfl rfl (by nofun) rfl (BV (@B4 _ _ _ _ _ _ _ _ _ (PY rfl hr.units) (by rfl) T.z_cd Mr ((pv 0)*>Al) (by decide) (by decide) (by rfl) (by rfl))) (fun _ _ _ _=>(Fv (FR⊂((Ju (u1 hr.units) (pv 0) (pv 1) (fun _ _=>rfl))∪As)))) (fun _ _ _ _=>(@Bq _ _ _ _ _ ((pv 1)*>((Ju (u1 hr.units) (pv 0) (pv 1) (fun _ _=>rfl))*>Al)))))),?_⟩;obtain ⟨ks,k1,k2,knd,kmem⟩:=vd.keys;refine ⟨_,rfl,d,kvs,ks,rfl,.inl hd,k1,by omega,fun l rs r1 r2 r3 hl=>?_⟩
 exists l,hl,H,(.lst (rs.map fun q=>V.ref q.1)),H1,sl,el
 have rl:rs.length=ks.length:=by
  have:=r2.length_eq;rw [At] at this;exact this
 have ov:∀r∈rs,A' kvs (r.2.map AH:Ac Key)=Aa (.int (EB kvs r.2)):=fun r m=>by
  obtain ⟨n,e⟩:=(kmem r.2).mp (r2.mem_iff.mp (mem_map.mpr ⟨r,m,rfl⟩));unfold EB;rw [e]
 refine ⟨l,rfl,⟨_,SqL.of el⟩,?_⟩;refine FL (xs:=rs.map fun q=>V.ref q.1) (by rw [At];exact C9 (by omega)) (fun D i ys H2=>∃ls:Ls,ys=vls ls/\ls.length<=i/\H2 D=Aa (.lst ys)/\Ax H1 H2/\By H2 ls/\Am ls=((rs.take i).filter fun r=>decide (0 < EB kvs r.2)).map fun r=>(r.2,EB kvs r.2)) (fun D hD=>⟨[],rfl,A1 _,Az,AN hD _,(fun _ m=>Aw m Bm),rfl⟩) (fun D i ys H2 hq_=>by obtain ⟨ls,f1,f2,f3,_⟩:=hq_;exact ⟨f3,by rw [f1,CI];exact f2⟩) (fun D i ys H2 hD hq_=>by obtain ⟨ls,_,_,_,f4,_⟩:=hq_;exact SqL.of (f4 _ _ el)) ?_ ?_
 ·rintro D i x ys H2 K1 K2 hD hx ⟨ls,rfl,f2,f3,f4,f5,f6⟩ kk1 kk2;rw [Ba] at hx
  cases er:rs[i]? with
  | none=>rw [er] at hx;cases hx
  | some r =>
    rw [er] at hx
    cases Bn hx
    have rm:=Bt er;have et:rs.take (i+1)=rs.take i++[r]:=by rw [Me,er];rfl
    have sH:=sl.trans f4;have ek:=sH _ _ (r1 r rm);have dg:=Df.t (k:=(r.2.map AH:Ac Key)) (sH _ _ hd) (by rw [G3];exact ek);rw [ov r rm] at dg;refine ⟨_,rfl,_,rfl,d,_,rfl,dg,?_⟩;subst_eqs;by_cases c:0 < EB kvs r.2
    ·refine ifT (AT c) ?_;refine ⟨_,rfl,_,rfl,_,rfl,d,_,rfl,dg,(by show 2<=AB;decide),fun t ht=>?_⟩;have s6:=AN ht (.tup [V.ref r.1,V.int (EB kvs r.2)]);refine kk1 _ _ (s6 _ _ f3) ⟨ls++[(t,r.1,r.2,EB kvs r.2)],by rw [Vo];rfl,by rw [Bj];exact IK f2,Az,Bs (f4.trans s6) hD,?_,?_⟩
     ·refine By.upd (s6 _ _ f3) ((f5.same s6).append fun q m=>?_);rw [mem_singleton.mp m];exact ⟨Az,s6 _ _ ek⟩
     ·rw [Gv,f6,et,EG,AK];simp [c,Am]
    ·refine ifF (AS c) ?_;refine kk2 _ ⟨ls,rfl,W4 f2,f3,f4,f5,?_⟩;rw [f6,et,EG,AK];simp [c]
 ·rintro D ys H2 hD ⟨ls,rfl,f2,f3,f4,f5,f6⟩;rw [At] at f2;rw [At,Cn (A1 _)] at f6;have rnd:(rs.map (·.2)).Nodup:=r2.nodup_iff.mpr knd;refine q D ls H2 (none_of sl hD) (sl.trans f4) f3 f5 ?_ (fun ts n=>?_) (by omega)
  ·rw [f6,Md]
   have st:rs.Pairwise (fun x y=>HT.lexLt x.2 y.2=Af):=by
    have nd2:rs.Pairwise (fun x y=>x.2≠y.2):=pairwise_map.mp rnd;refine (r3.and nd2).imp fun hq_=>?_;obtain ⟨h1,h2⟩:=hq_;exact Nv h1 h2
   exact st.filter _
  ·rw [f6]
   constructor
   ·intro m;obtain ⟨r,rm,e⟩:=mem_map.mp m;obtain ⟨rm1,rm2⟩:=mem_filter.mp rm;injection e with e1 e2
    subst e1;subst e2;exact ⟨ov r rm1,by simpa using rm2⟩
   ·rintro ⟨e,n0⟩;have tk:ts∈ks:=(kmem ts).mpr ⟨n,e⟩;obtain ⟨r,rm,rfl⟩:=mem_map.mp (r2.mem_iff.mpr tk);have o:=ov r rm;rw [e] at o;injection o with o
    injection o with o
    exact mem_map.mpr ⟨r,mem_filter.mpr ⟨rm,by rw [<- o];simpa using n0⟩,by rw [<- o]⟩
theorem ok_ah (T:Tx K mg base ad):AG P w K mg base CX0 1 ad.f_ah ad.d_ah ["sheet"] TB:=by
 exists ah
 obtain ⟨l,ls,rfl,hl,g,l900,q⟩:=h;refine ⟨_,(~~~(@B4 _ _ _ _ _ _ _ _ _ (K7 rfl) (by rfl) T.z_cj Ms ((Ih (fsc:=A7 NS) (N:=["sheet"]) (Nc:=["sheet","slip","number"]) rfl rfl ⟨rfl,by decide +kernel,by decide +kernel,by decide +kernel,by decide +kernel,rfl,by decide +kernel,rfl,by decide +kernel⟩ rfl (BV (pv 0)) (fun _ _ _ _=>DD) (fun _ _ _ _=>(pv 2)))*>Al) (by decide) (by decide) (by rfl) (by rfl))),?_⟩;refine ⟨_,rfl,l,rfl,⟨_,SqL.of hl⟩,?_⟩;refine Qa (zs:=vls ls) rfl rfl (by rw [CI];exact JC l900) (fun D i ys H'=>ys=((Am (ls.take i)).map (·.2)).map V.int/\H'=upd H D (.lst ys)) (fun D hD=>⟨rfl,rfl⟩) (fun D i ys H' hq_=>by obtain ⟨f1,f2⟩:=hq_;exact ⟨by rw [f2];exact Az,by rw [f1,At,At];unfold Am;rw [At];exact FD _ _⟩) (fun D i ys H' hD hq_=>by obtain ⟨_,f2⟩:=hq_;rw [f2];exact SqL.of (AN hD _ _ _ hl)) ?_ ?_
 ·rintro D i x ys H' K1 K2 hD hx ⟨f1,rfl⟩ k1 k2;obtain ⟨f,hf,rfl,fm,et⟩:=F3 hx;refine ⟨f.1,_,_,rfl,SqT.of (AN hD _ _ _ (g f fm).1),?_⟩;refine yes (ifT rfl ?_);refine ⟨_,rfl,?_⟩;refine k1 _ _ Az ⟨?_,by rw [DV]⟩;rw [et,Gv,AK,AK,f1];rfl
 rintro D ys H' hD ⟨rfl,rfl⟩;rw [CI,Cn (A1 _)];exact ⟨D,_,rfl,SqL.of Az,q _ (AN hD _)⟩
theorem ok_ao (T:Tx K mg base ad):AG P w K mg base CX0 1 ad.f_ao ad.d_ao ["sheet","slip"] Um:=by
 exists ao
 obtain ⟨l,t,ls,ts,rfl,hl,g,ht,l900,q⟩:=h;refine ⟨_,(~~~(@B4 _ _ _ _ _ _ _ _ _ (K7 rfl) (by rfl) T.z_cj Ms ((DS (fsc:=A7 NV) (N:=["sheet","slip"]) (Nc:=["sheet","slip","line"]) rfl rfl (by nofun) rfl (BV (pv 0)) (fun _ _ _ _=>(Fv ((Js (K:=K) hr.units)⊂(((Ek K)∩((pv 2)∪As))∪(pv 1))))) (fun _ _ _ _=>((Ek K)∩((pv 2)∪As))))*>Al) (by decide) (by decide) (by rfl) (by rfl))),?_⟩;refine ⟨_,rfl,l,rfl,⟨_,SqL.of hl⟩,?_⟩;refine FL (xs:=vls ls) (by rw [CI];exact JC l900) (fun D i ys H'=>ys=(((Am (ls.take i)).filter fun q=>decide (q.1=ts)).map (·.2)).map V.int/\H'=upd H D (.lst ys)) (fun D hD=>⟨rfl,rfl⟩) (fun D i ys H' ⟨f1,f2⟩=>⟨by rw [f2];exact Az,by rw [f1,At,At];refine BE (EH _ _) ?_;unfold Am;rw [At];exact FD _ _⟩) (fun D i ys H' hD hq_=>by obtain ⟨_,f2⟩:=hq_;rw [f2];exact SqL.of (AN hD _ _ _ hl)) ?_ ?_
 ·rintro D i x ys H' K1 K2 hD hx ⟨f1,rfl⟩ k1 k2;obtain ⟨f,hf,rfl,fm,et⟩:=F3 hx;have g1:=AN hD (.lst ys) _ _ (g f fm).1;have g2:=AN hD (.lst ys) _ _ (g f fm).2;have t2:=AN hD (.lst ys) _ _ ht;refine ⟨_,rfl,f.1,_,_,_,rfl,rfl,SqT.of g1,rfl,_,rfl,.tuple (f.2.2.1.map .int),.tuple (ts.map .int),.tup (SqT.of g2) (.ints _),.tup (SqT.of t2) (.ints _),(Fy _).1,(Fy _).1,_,rfl,?_⟩;rw [show FH (.tuple (f.2.2.1.map .int)) (.tuple (ts.map .int))=decide (f.2.2.1=ts) from HX _ _];by_cases c:f.2.2.1=ts
  ·refine ifT (AT c) ?_;refine ⟨_,rfl,f.1,_,_,_,rfl,rfl,SqT.of g1,rfl,?_⟩;refine k1 _ _ Az ⟨?_,by rw [DV]⟩;rw [et,Gv,EG,AK,AK,f1];simp [Am,c]
  ·refine ifF (AS c) ?_;refine k2 _ ⟨?_,rfl⟩;rw [et,Gv,EG,AK,AK,f1];simp [Am,c]
 ·rintro D ys H' hD ⟨rfl,rfl⟩;rw [CI,Cn (A1 _)];refine ⟨D,_,rfl,SqL.of Az,?_⟩;rw [Od];exact q _ (AN hD _)
theorem ok_ab (T:Tx K mg base ad):AG P w K mg base CX0 1 ad.f_ab ad.d_ab ["lines","slip","many"] Uv:=by
 exists ab
 obtain ⟨l,sl,ls,m,rfl,hl,gl,l60,q⟩:=h;refine ⟨_,(@Av _ _ _ _ _ (3<$>(@CV _ _ _ _ Al)) (@Av _ _ _ _ _ (4<$>(pv 2)) (@Av _ _ _ _ _ (C4 Ci rfl (BV (pv 0)) (EC rfl (BY (B5 (i:=5) sc_ab.nd rfl (B2 rfl)) (BY (B5 (i:=6) sc_ab.nd rfl (B2 rfl)) ED))) (@Av _ _ _ _ _ (7<$>(@B4 _ _ _ _ _ _ _ _ _ (PX rfl) (by rfl) T.z_cl OS ((pv 6)*>((pv 4)*>Al)) (by decide) (by decide) (by rfl) (by rfl))) (@Av _ _ _ _ _ ((FR⊂((pv 7)∪As))⊆((@AY _ _ _ (@CG _ _ _ _ (CN CP EJ PySem.F.type_list_append El (pv 3) ((@Bq _ _ _ _ _ ((pv 5)*>((pv 1)*>((pv 7)*>Al))))*>Al)) (by rfl)))∪Bp)) (@AY _ _ _ (4<$>(@AA _ _ _ _ _ _ _ _ Ea (pv 4) (pv 7))))))) (~~~(pv 3))))),?_⟩;subst_eqs;refine ⟨(by show 0<=AB;decide),fun r hr0=>?_⟩
 exists r,hr0,H,(.lst []),H1,s1,e1,(.lst (vrz []))
 subst_eqs;have hl1:=s1 _ _ hl;refine ⟨⟨_,SqL.of hl1⟩,DC (xs:=vls ls) (fun i σ' J=>Ex4 fun (v5 v6 v7:A5 V) (rs:Rz)=>σ'=[Aa (.ref l),Aa (.ref sl),Aa (.int m),Aa (.ref r),Aa (.int (EW (Am (ls.take i)) m)),v5,v6,v7]/\Ax H J/\J r=Aa (.lst (vrz rs))/\DY sl J rs/\rs.map (·.2.2)=Bb (Am (ls.take i)) m) ⟨Ai,Ai,Ai,[],rfl,s1,e1,(fun _ m=>Aw m Bm),rfl⟩ (fun i σ' J _ hq_=>by obtain ⟨_,_,_,_,_,e,_⟩:=hq_;exact SqL.of (e _ _ hl)) ?_ ?_⟩
 ·rintro i w σ' J hw ⟨v5,v6,v7,rs,rfl,sJ,eR,gr,er⟩;obtain ⟨f,hf,rfl,fm,et⟩:=F3 hw
  have rl:rs.length<=60:=by
   have a:=Bx BM er;rw [At] at a;have b:=Va (Am (ls.take i)) m;unfold Am at b;rw [At,OD] at b;unfold Am at a;omega
  obtain ⟨ta,tr⟩:=U_ (Am (ls.take i)) [(f.2.2.1,f.2.2.2)] m;have ed:Am (ls.take (i+1))=Am (ls.take i)++[(f.2.2.1,f.2.2.2)]:=by rw [et,Gv];rfl
  rw [ed,ta,tr];generalize EW (Am (ls.take i)) m=wn;generalize Bb (Am (ls.take i)) m=tk at er ⊢;show _;refine ⟨f.1,_,rfl,SqT.of (sJ _ _ (gl f fm).1),rfl,_,_,rfl,_,_,rfl,rfl,?_⟩;subst_eqs;refine ⟨_,_,rfl,?_⟩;have e2:=sJ _ _ (gl f fm).2;obtain ⟨k,ek⟩:∃k,k=min f.2.2.2 wn:=⟨_,rfl⟩;rw [show (if wn < f.2.2.2 then wn else f.2.2.2)=k from by rw [ek];split <;> omega,show EW [(f.2.2.1,f.2.2.2)] wn=wn - k from by rw [ek];rfl,show Bb [(f.2.2.1,f.2.2.2)] wn=if 0 < k then [(f.2.2.1,k)] else [] from by rw [ek];exact Ch _];subst_eqs;by_cases c:0 < k
  ·refine ifT (AT c) ?_;subst_eqs;refine ⟨.inl ⟨rfl,_,SqL.of eR⟩,?_⟩;subst_eqs
   exists 3,t,ht,J,(.tup [V.ref f.2.1,V.ref sl,V.int k]),J1,j1,et1,rfl
   have eR1:=j1 _ _ eR;refine ⟨r,_,_,rfl,rfl,eR1,(by rw [Vq];exact C8 (by omega)),?_⟩;subst_eqs;refine ⟨_,_,_,rs++[(t,f.2.1,f.2.2.1,k)],rfl,Bs (sJ.trans j1) hr0,by rw [Az];unfold vrz;rw [AK];rfl,DY.upd eR1 ((gr.same j1).push et1 (j1 _ _ e2)),by rw [AK,er,Ar c];rfl⟩
  ·refine ifF (AS c) ?_;subst_eqs;exact ⟨_,_,_,rs,rfl,sJ,eR,gr,by rw [er,Ao c,Ch]⟩
 ·rintro σ' J ⟨v5,v6,v7,rs,rfl,sJ,eR,gr,er⟩;rw [CI,OH] at er;subst_eqs;exact q r rs J hr0 sJ eR gr er
theorem ok_o (T:Tx K mg base ad):AG P w K mg base CX0 1 ad.f_o ad.d_o ["outcome"] Up:=by
 exists o
 obtain ⟨o,out,rfl,ho,l12,q⟩:=h;refine ⟨_,(@Av _ _ _ _ _ (1<$>(@CV _ _ _ _ Al)) (@Av _ _ _ _ _ (C4 Ci rfl (RN rfl T.z_co ((pv 0)*>Al)) (EC rfl (BY (B5 (i:=2) sc_o.nd rfl (IL rfl)) (BY (B5 (i:=3) sc_o.nd rfl (B2 rfl)) ED))) (@AY _ _ _ ((FR⊂((pv 3)∪As))⊆((@AY _ _ _ (@CG _ _ _ _ (CN CP Mu PySem.F.type_list_extend KS (pv 1) ((Ih (fsc:=A7 s_o) (N:=["outcome","pairs","x","seats"]) (Nc:=["outcome","pairs","x","seats","y","others"]) rfl rfl ⟨rfl,by decide +kernel,by decide +kernel,by decide +kernel,by decide +kernel,rfl,by decide +kernel,rfl,by decide +kernel⟩ rfl (RN rfl T.z_co ((pv 0)*>Al)) (fun _ _ _ _=>(Fv (CU⊂((pv 5)∪As)))) (fun _ _ _ _=>(@Bq _ _ _ _ _ ((pv 2)*>((pv 4)*>Al)))))*>Al)) (by rfl)))∪Bp)))) (~~~(pv 1)))),?_⟩;have ol:(out.map V.int).length=out.length:=At _;refine ⟨(by show 0<=AB;decide),fun l hl=>?_⟩;subst_eqs;refine ⟨⟨_,SqL.of (AN hl _ _ _ ho)⟩,YJ (xs:=out.map V.int) (fun i σ' J=>Ex3 fun (v2 v3:A5 V) (ps:Pq)=>σ'=[Aa (.ref o),Aa (.ref l),v2,v3]/\Ax H J/\J l=Aa (.lst (vpq ps))/\EN J ps/\ps.map (·.2)=Ie out i) ⟨Ai,Ai,[],rfl,AN hl _,Az,(fun _ m=>Aw m Bm),rfl⟩ (fun i σ' J _ hq_=>by obtain ⟨_,_,_,_,e,_⟩:=hq_;exact SqL.of (e _ _ ho)) ?_ ?_⟩
 ·rintro i x T0 σ' J hx ⟨v2,v3,ps,rfl,sJ,eL,gp,em⟩ hT;obtain ⟨z,hz,rfl⟩:=E8 hx;have hi:i < out.length:=(List.getElem?_eq_some_iff.mp hz).1;have gi:out.getD i 0=z:=by rw [BI,hz];rfl
  have pl:ps.length<=144:=by
   have a:=Bx BM em;rw [At] at a;have b:=RC out i;have c:=Nat.mul_le_mul (show i<=12 by omega) l12;omega
  exists T0,hT,J,(.tup [.int (i:Ab),.int z]),J1,s1,e1
  refine ⟨T0,_,rfl,SqT.of e1,rfl,_,_,rfl,_,_,rfl,rfl,?_⟩;have sJ1:=sJ.trans s1;have eL1:=s1 _ _ eL;subst_eqs;by_cases c:0 < z
  ·refine ifT (AT c) ?_;subst_eqs;refine ⟨.inl ⟨rfl,_,SqL.of eL1⟩,?_⟩;subst_eqs;refine ⟨⟨_,SqL.of (sJ1 _ _ ho)⟩,?_⟩;refine Ys (zs:=out.map V.int) rfl rfl (by rw [ol];exact C9 (by omega)) (fun D j ys G=>∃qs:Pq,ys=vpq qs/\G D=Aa (.lst ys)/\Ax J1 G/\EN G qs/\qs.map (·.2)=G7 out i j) (fun D hD=>⟨[],rfl,Az,AN hD _,(fun _ m=>Aw m Bm),rfl⟩) (fun D j ys G hq_=>by obtain ⟨qs,f1,f2,_,_,f5⟩:=hq_;exact ⟨f2,by rw [f1,Ly,<- At (f:=(·.2)),f5];exact NR out i j⟩) (fun D j ys G hD hq_=>by obtain ⟨_,_,_,f3,_⟩:=hq_;exact SqL.of (f3 _ _ (sJ1 _ _ ho))) ?_ ?_
   ·rintro D j y ys G T1 K1 K2 hD hy ⟨qs,rfl,f2,f3,f4,f5⟩ hT1 kk1 kk2;obtain ⟨z2,hz2,rfl⟩:=E8 hy;have gj:out.getD j 0=z2:=by rw [BI,hz2];rfl
    have s4:=AN hT1 (.tup [.int (j:Ab),.int z2]);generalize upd G T1 (.tup [.int (j:Ab),.int z2])=G1 at s4 ⊢;subst_eqs;by_cases c2:z2=0
    ·refine ifT (Hb c2) ?_;subst_eqs
     exists 2,t,ht,G1,(.tup [V.int (i:Ab),V.int (j:Ab)]),G2,s5,e5,rfl
     have s45:=s4.trans s5;have eD:=s45 _ _ f2;refine kk1 _ _ eD ⟨qs++[(t,(i:Ab),(j:Ab))],by unfold vpq;rw [AK];rfl,Az,Bs (f3.trans s45) hD,?_,by rw [AK,S1,gj,Ar c2,f5];rfl⟩
     have g5:EN G2 (qs++[(t,(i:Ab),(j:Ab))]):=fun q m=>by
      rcases mem_append.mp m with m | m
      ·exact s45 _ _ (f4 q m)
      ·rw [mem_singleton.mp m];exact e5
     exact g5.upd eD
    ·refine ifF (HW c2) ?_;exact kk2 _ ⟨qs,rfl,s4 _ _ f2,f3.trans s4,f4.same s4,by rw [S1,gj,Ao c2,Ch];exact f5⟩
   rintro D ys G hD ⟨qs,rfl,f2,f3,f4,f5⟩;rw [ol] at f5
   have ql:qs.length<=12:=by
    have a:=Bx BM f5;rw [At] at a;have b:=NR out i out.length;omega
   have eL2:=f3 _ _ eL1;refine ⟨l,D,_,_,rfl,rfl,eL2,f2,DK (C8 (by rw [Ly,Ly];omega)),?_⟩;have gA:EN G (ps++qs):=fun q m=>(mem_append.mp m).elim (fun m=>(s1.trans f3) _ _ (gp q m)) (f4 q);exact ⟨_,_,ps++qs,rfl,Bs (sJ1.trans f3) hl,by rw [Az];unfold vpq;rw [AK],gA.upd eL2,by rw [AK,em,f5,NE,gi,Ar c]⟩
  ·refine ifF (AS c) ?_;exact ⟨_,_,ps,rfl,sJ1,eL1,gp.same s1,by rw [NE,gi,Ao c,Ch];exact em⟩
 ·rintro σ' J ⟨v2,v3,ps,rfl,sJ,eL,gp,em⟩;refine ⟨_,rfl,?_⟩;rw [ol] at em;exact q l ps J hl sJ eL gp em
theorem ok_am (T:Tx K mg base ad):AG P w K mg base CX0 1 ad.f_am ad.d_am ["slip","standing"] (Uf K):=by
 exists am
 obtain ⟨p,ts,st,rfl,hT,q⟩:=h;refine ⟨_,(@Av _ _ _ _ _ (C4 Ci rfl (NJ (pv 0)) (B5 (i:=2) sc_am.nd rfl (B2 rfl)) (@AY _ _ _ ((Jt⊂((@AA _ _ _ _ _ _ _ _ Jr (pv 2) (pv 1))∪As))⊆((~~~(@AA _ _ _ _ _ _ _ _ Jr (pv 2) (pv 1)))∪Bp)))) (~~~As)),?_⟩;refine ⟨_,rfl,p,rfl,⟨_,hT⟩,Qv (xs:=ts.map V.int) (fun i σ' H'=>∃v,σ'=[Aa (.ref p),Aa (.int st),v]/\H'=H/\CF (ts.drop i) st=CF ts st) ⟨Ai,rfl,rfl,rfl⟩ (fun i σ' H' _ hq_=>by obtain ⟨v,_,e2,_⟩:=hq_;rw [e2];exact hT) ?_ ?_⟩
 ·rintro i x σ' H' hx ⟨v,rfl,rfl,e⟩;obtain ⟨t,ht,rfl⟩:=E8 hx
  have ed:ts.drop i=t :: ts.drop (i+1):=by
   obtain ⟨hlt,e⟩:=List.getElem?_eq_some_iff.mp ht;rw [drop_eq_getElem_cons hlt,e]
  rw [ed] at e;have e':(if CJ t st=0 then CF (ts.drop (i+1)) st else CJ t st)=CF ts st:=e;symm;by_cases z:CJ t st=0
  ·rw [Ar z] at e';exact ifF (KU z) ⟨_,rfl,rfl,e'⟩
  ·rw [Ao z] at e';refine ifT (KW z) ⟨_,rfl,_,rfl,_,_,rfl,rfl,?_⟩;show Q (V.int (CJ t st)) H';rw [e'];exact q
 ·rintro σ' H' ⟨v,rfl,rfl,e⟩;rw [At,drop_of_length_le (A1 _)] at e;have e':(0:Ab)=CF ts st:=e;show Q (V.int 0) H';rw [e'];exact q
theorem ok_bk (T:Tx K mg base ad):AG P w K mg base CX0 1 ad.f_bk ad.d_bk ["one","other"] UC:=by
 exists bk
 obtain ⟨p,r,t,b,u,c,rfl,h1,h2,st,sb,su,sc,q⟩:=h;refine ⟨_,(~~~(@Ep _ _ _ _ _ _ _ _ EV (@AA _ _ _ _ _ _ _ _ Ck (AX∩((pv 0)∪As)) (AX∩((pv 1)∪As))) (@AA _ _ _ _ _ _ _ _ Ck (AX∩((pv 1)∪As)) (AX∩((pv 0)∪As))) (D_ _))),?_⟩;symm;exact q
theorem ok_v (T:Tx K mg base ad):AG P w K mg base CX0 1 ad.f_v ad.d_v ["sheet","hands"] TC:=by
 exists v
 obtain ⟨l,h,ls,rfl,hl,l60,h12,q⟩:=h;refine ⟨_,(~~~(DS (fsc:=A7 s_v) (N:=["sheet","hands"]) (Nc:=["sheet","hands","line"]) rfl rfl (by nofun) rfl (BV (pv 0)) (fun _ _ _ _=>DD) (fun _ _ _ _=>(@Bq _ _ _ _ _ ((@Bq _ _ _ _ _ (As*>(As*>Al)))*>((by exact (AaG (fsc:=A7 s_v) (Nc:=["sheet","hands","line"]) (Nd:=["sheet","hands","line","hand"]) rfl (by nofun) rfl (FV rfl T.z_b2 ((pv 1)*>Al)) (fun _ _ _ _=>DD) (fun _ _ _ _=>(@Bq _ _ _ _ _ (As*>(As*>Al))))))*>Al)))))),?_⟩;have vl:=CI ls;subst_eqs;refine ⟨⟨_,SqL.of hl⟩,?_⟩;refine FL (xs:=vls ls) (by rw [vl];exact C9 (by omega)) (fun D i ys J=>∃xs:Ac Sh,ys=shv xs/\xs.length=i/\J D=Aa (.lst ys)/\Ax H J/\(∀x∈xs,ShG J x/\x.2.1.2=(1,1)/\x.2.2.2.map (·.2)=Cy h (0,1)/\H x.2.2.1=Ai/\x.2.2.1≠D)/\(xs.map fun x=>x.2.2.1).Nodup) (fun D hD=>⟨[],rfl,rfl,Az,AN hD _,(fun _ m=>Aw m Bm),Fc⟩) (fun D i ys J hq_=>by obtain ⟨xs,f1,f2,f3,_⟩:=hq_;exact ⟨f3,by rw [f1];unfold shv;rw [At,f2];exact A1 _⟩) (fun D i ys J hD hq_=>by obtain ⟨_,_,_,_,f4,_⟩:=hq_;exact SqL.of (f4 _ _ hl)) ?_ ?_
 ·rintro D i y ys J K1 K2 hD hy ⟨xs,rfl,n1,n2,n3,n4,n5⟩ kk1 kk2;refine yes (ifT rfl ?_)
  exists 2,f1,hf1,J,(.tup [V.int 1,V.int 1]),J1,s1,e1,rfl
  refine ⟨_,rfl,(h:Ab),rfl,by omega,by omega,?_⟩;rw [B7];refine GZ (C9 (by omega)) (fun D2 k ys J2=>∃fs:Ac Fq,ys=fqv fs/\J2 D2=Aa (.lst ys)/\Ax J1 J2/\(∀f∈fs,FqG J2 f)/\fs.map (·.2)=Cy k (0,1)) (fun D2 hD2=>⟨[],rfl,Az,AN hD2 _,(fun _ m=>Aw m Bm),rfl⟩) (fun D2 k ys J2 hq_=>by obtain ⟨fs,f1,f2,_,_,f5⟩:=hq_;exact ⟨f2,by rw [f1];unfold fqv;rw [At,<- At (f:=(·.2)),f5,FC];exact A1 _⟩) ?_ ?_
  ·rintro D2 k ys J2 L1 L2 hD2 hk ⟨fs,rfl,m1,m2,m3,m4⟩ ll1 ll2;refine yes (ifT rfl ?_)
   exists 2,t0,ht0,J2,(.tup [V.int 0,V.int 1]),J3,s2,e2,rfl
   have m1':=s2 _ _ m1;refine ll1 _ _ m1' ⟨fs++[(t0,0,1)],by unfold fqv;rw [AK];rfl,Az,Bs (m2.trans s2) hD2,(fun f m=>FqG.upd ?_ m1'),?_⟩
   ·rcases mem_append.mp m with m | m
    ·exact (m3 f m).same s2
    ·rw [mem_singleton.mp m];exact e2
   ·rw [AK,m4,Om];rfl
  rintro D2 ys J2 hD2 ⟨fs,rfl,m1,m2,m3,m4⟩
  exists 2,t,ht,J2,(.tup [V.ref f1,V.ref D2]),J3,s3,e3,rfl
  have s13:=s1.trans (m2.trans s3);have n2':=s13 _ _ n2;have dD:D2≠D:=fun z=>by rw [z,s1 _ _ n2] at hD2;cases hD2
  have hDn:H D2=Ai:=none_of (n3.trans s1) hD2;refine kk1 _ _ n2' ⟨xs++[(t,(f1,1,1),D2,fs)],by unfold shv;rw [AK];rfl,by rw [Bj,n1];rfl,Az,Bs (n3.trans s13) hD,(fun x m=>?_),?_⟩
  ·rcases mem_append.mp m with m | m
   ·obtain ⟨a1,a2,a3,a4,a5⟩:=n4 x m;exact ⟨(a1.same s13).upd n2' a5,a2,a3,a4,a5⟩
   ·rw [mem_singleton.mp m];exact ⟨ShG.upd ⟨e3,(m2.trans s3) _ _ e1,s3 _ _ m1,fun f m=>(m3 f m).same s3⟩ n2' dD,rfl,m4,hDn,dD⟩
  ·rw [AK,Wp];refine ⟨n5,nodup_cons.mpr ⟨(fun m=>nomatch m),Fc⟩,fun x m y k e=>?_⟩;obtain ⟨x0,xm,rfl⟩:=mem_map.mp m;rw [mem_singleton.mp k] at e;have:=(n4 x0 xm).1.l;rw [e] at this;have:=s1 _ _ this;rw [hD2] at this
   cases this
 rintro D ys J hD ⟨xs,rfl,n1,n2,n3,n4,n5⟩;rw [vl] at n1;exact q D xs J hD n3 n2 n4 n5 n1
theorem ok_bm (T:Tx K mg base ad):AG P w K mg base CX0 1 ad.f_bm ad.d_bm ["kept","hand","given"] UI:=by
 exists bm
 obtain ⟨kl,hd,ks,g,rfl,hk,gk,gg,hh,k12,q⟩:=h;refine ⟨_,(@Av _ _ _ _ _ (3<$>(@Hf _ _ _ _ _ _ _ _ _ HS (by rfl) T.z_b4 GM ((pv 0)*>Al) (by decide) (by decide) (by rfl) (by rfl))) (@Av _ _ _ _ _ (RR (pv 2) (RM (pv 3) (pv 1) T2)) (~~~(pv 3)))),?_⟩;symm;intro l hl
 exists l,hl,H,(.lst (fqv ks)),H1,s1,e1
 symm;refine ⟨l,_,_,hd,rfl,rfl,e1,QG (by unfold fqv;rw [At];exact hh),?_⟩;rw [show (fqv ks).set hd (V.ref g.1)=fqv (ks.set hd g) from Qy ks hd g];exact ⟨_,rfl,q l _ hl (Bs s1 hl) Az⟩
theorem ok_be (T:Tx K mg base ad):AG P w K mg base CX0 1 ad.f_be ad.d_be ["waiting","case"] (Ut ad.c_a):=by
 exists be
 obtain ⟨B,d,W,z,rfl,g,gz,l900,q⟩:=h;refine ⟨_,(@AY _ _ _ (@CG _ _ _ _ (CN CP EJ PySem.F.type_list_append El (AaK (u1 hr.units) (pv 0) (@Bq _ _ _ _ _ ((Be (pv 1) rfl)*>((@Hg _ _ _ _ _ _ Iq (@B4 _ _ _ _ _ _ _ _ _ FK (by rfl) T.z_b9 Gi ((Be (pv 1) rfl)*>Al) (by decide) (by decide) (by rfl) (by rfl)))*>Al))) (@CV _ _ _ _ Al) ⟨rfl,rfl,rfl,rfl⟩) ((pv 1)*>Al)) (by rfl))),?_⟩;obtain ⟨dx,ho⟩:=id (gz.same g.b).o;have hd:=g.d;have ht:=(gz.same g.b).t;have bl:=MW g;have wl:(wkv W).length=W.length:=At _;have dl:(z.ds.map fun d=>V.ref d.1).length=z.ds.length:=At _;subst_eqs;refine ⟨.inr ⟨_,.inl hd⟩,?_⟩;subst_eqs;refine ⟨z.a,_,dx,_,_,rfl,ho,T.cl_a,T.na_a_b5,rfl,?_⟩;subst_eqs;refine ⟨z.a,_,dx,_,_,rfl,ho,T.cl_a,T.na_a_b8,rfl,?_⟩;subst_eqs;rw [dl]
 exists 2,t,ht0,H,(.tup [V.int z.nd,V.int (-(z.ds.length:Ab))]),H1,s1,e1,rfl
 refine ⟨(by show 0<=AB;decide),fun l hl=>?_⟩;have g1:=g.same s1;have s2:=AN hl (.lst []);have g2:=g1.same s2;refine ⟨wkv W,[AH z.nd,AH (-(z.ds.length:Ab))],t,g2.d,rfl,s2 _ _ e1,by rw [wl];exact C8 (by omega),fun v hv=>?_,fun hv=>?_⟩
 ·rcases Lz (z.nd,-(z.ds.length:Ab)) W with ⟨V,w,U,eW,ew,val⟩ | ⟨no,_⟩
  ·have ev:v=.ref w.2.1:=Bn (hv.symm.trans val);subst eW;subst ev;have wm:w∈V++w :: U:=B8 _ (AV ..);have wl:=(g2.l w wm).1;have sl:w.2.2.length<=(bag (V++w :: U)).length:=by rw [DZ,Fl,Bj,Bj];omega
   generalize upd H1 l (.lst [])=H2 at s2 g2 wl ⊢;refine ⟨.inl ⟨rfl,_,SqL.of wl⟩,?_⟩;subst_eqs;refine ⟨w.2.1,_,_,rfl,rfl,wl,(by unfold zrf;rw [At];exact C8 (by omega)),?_⟩;have ez:zrf w.2.2++[.ref z.a]=zrf (w.2.2++[z]):=by unfold zrf;rw [AK];rfl
   rw [ez]
   have gs:=g2.swap (zs:=w.2.2++[z]) (ET (Ia _ _)) Az (by simp) fun x xm=>by
    rcases mem_append.mp xm with xm | xm
    ·exact g2.c w wm x xm
    ·rw [mem_singleton.mp xm];exact ⟨gz,ew⟩
   refine q _ _ gs (fun y=>?_) ?_
   ·rw [DZ,Fl,DZ,Fl];show y∈bag V++((w.2.2++[z])++bag U)↔_;simp only [Hv,OG]
    constructor
    ·rintro (h | (h | h) | h)
     ·exact .inl (.inl h)
     ·exact .inl (.inr (.inl h))
     ·exact .inr h
     ·exact .inl (.inr (.inr h))
    ·rintro ((h | h | h) | h)
     ·exact .inl h
     ·exact .inr (.inl (.inl h))
     ·exact .inr (.inr h)
     ·exact .inr (.inl (.inr h))
   ·rw [DZ,Fl,DZ,Fl];show (bag V++((w.2.2++[z])++bag U)).length=_;simp only [Bj,L_];omega
  ·rw [no] at hv;cases hv
 ·rcases Lz (z.nd,-(z.ds.length:Ab)) W with ⟨V,w,U,eW,ew,val⟩ | ⟨_,no⟩
  ·rw [hv] at val;cases val
  ·have gs:=g1.new hl gz no;have ld:l≠d:=fun e=>by have:=g1.d;rw [<- e,hl] at this;cases this
   have el:(upd (upd H1 l (.lst [])) d (.dT (B6 (wkv W) [AH z.nd,AH (-(z.ds.length:Ab))] (.ref l)))) l=Aa (.lst []):=by rw [AF ld];exact Az
   generalize upd (upd H1 l (.lst [])) d (.dT (B6 (wkv W) [AH z.nd,AH (-(z.ds.length:Ab))] (.ref l)))=H2 at el gs ⊢;refine ⟨.inl ⟨rfl,_,SqL.of el⟩,?_⟩;subst_eqs;refine ⟨l,_,_,rfl,rfl,el,(by decide),?_⟩;refine q _ _ gs (fun y=>?_) ?_
   ·rw [DZ,Hv];exact or_congr Iff.rfl (by show y∈[z]++[]↔_;rw [Ch];exact OG)
   ·rw [DZ,Bj];rfl
theorem ok_bi (T:Tx K mg base ad):AG P w K mg base CX0 1 ad.f_bi ad.d_bi ["waiting"] (U6 ad.c_a):=by
 exists bi
 obtain ⟨B,d,W,rfl,g,ne,l900,q⟩:=h;refine ⟨_,(@Av _ _ _ _ _ (1<$>(@B4 _ _ _ _ _ _ _ _ _ (Ym rfl hr.units) (by rfl) T.z_cl OS ((@Hf _ _ _ _ _ _ _ _ _ (Yl rfl) (by rfl) T.z_b4 GM ((pv 0)*>Al) (by decide) (by decide) (by rfl) (by rfl))*>Al) (by decide) (by decide) (by rfl) (by rfl))) (@Av _ _ _ _ _ (2<$>(CN CP WQ WS Rm (Ju (u1 hr.units) (pv 0) (pv 1) (fun _ _=>rfl)) (As*>Al))) (@Av _ _ _ _ _ (((Aav hr.units)⊂((Ju (u1 hr.units) (pv 0) (pv 1) (fun _ _=>rfl))∪(@CV _ _ _ _ Al)))⊆((@AY _ _ _ (@CG _ _ _ _ (AaJ (u1 hr.units) (pv 0) (pv 1) ⟨rfl,rfl,rfl,rfl⟩) (by rfl)))∪Bp)) (~~~(pv 2))))),?_⟩;have hd:=g.d;have bl:=MW g;subst_eqs;refine ⟨d,wkv W,W.map fun w=>[w.1.1,w.1.2],rfl,.inl hd,(by unfold wkv;rw [Bf,Bf];rfl),fun l rs rows er hl=>?_⟩
 exists l,hl,H,(.lst (rs.map fun q=>V.ref q.1)),H1,s1,e1
 have rn:rs≠[]:=fun e=>ne (by rw [e] at er;exact map_eq_nil_iff.mp er.symm);refine ⟨l,rs,rfl,SqL.of e1,(fun q m=>s1 _ _ (rows q m)),rn,fun r rm least=>?_⟩;have g1:=g.same s1;have hd1:=g1.d;have hr1:=s1 _ _ (rows r rm)
 obtain ⟨v,vm,ev⟩:∃v∈W,[v.1.1,v.1.2]=r.2:=by
  have:r.2∈rs.map (·.2):=mem_map.mpr ⟨r,rm,rfl⟩;rw [er] at this;obtain ⟨v,vm,e⟩:=mem_map.mp this;exact ⟨v,vm,e⟩
 have low:∀x∈W,v.1.1<=x.1.1:=fun x xm=>by
  have:[x.1.1,x.1.2]∈rs.map (·.2):=by rw [er];exact mem_map.mpr ⟨x,xm,rfl⟩
  obtain ⟨p,pm,pe⟩:=mem_map.mp this;have:=least p pm;rw [pe,<- ev,EA,Kk] at this;have n:¬ x.1.1 < v.1.1:=fun z=>this (cons_lt_cons_iff.mpr (.inl z));omega
 rcases Lz v.1 W with ⟨V,w,U,eW,ew,val⟩ | ⟨_,no⟩
 ·subst eW;have wl:=g1.l w (B8 _ (AV ..))
  obtain ⟨z,zs,ezs⟩:∃z zs,w.2.2=z :: zs:=by
   cases h:w.2.2 with
   | nil=>exact Aw h wl.2.2
   | cons z zs=>exact ⟨z,zs,rfl⟩
  have lz:=wl.1;rw [ezs] at lz;have hr1':H1 r.1=Aa (.tup (([AH v.1.1,AH v.1.2]:Ac Key).map kV)):=by rw [hr1,<- ev];rfl
  have cz:=g1.c w (B8 _ (AV ..));subst_eqs;refine ⟨d,.ref w.2.1,rfl,(by rw [<- val];exact Df.t hd1 hr1'),?_⟩;subst_eqs;refine ⟨.inl ⟨rfl,_,SqL.of lz⟩,?_⟩;subst_eqs;refine ⟨w.2.1,_,0,0,.ref z.a,rfl,rfl,lz,(by decide),(by decide),(by simp [seqIndex?,zrf]),rfl,?_⟩;have wd:d≠w.2.1:=fun e=>by rw [e,lz] at hd1;cases hd1
  have wr:r.1≠w.2.1:=fun e=>by rw [e,lz] at hr1;cases hr1
  have hd2:(upd H1 w.2.1 (.lst (zrf zs))) d=Aa (.dT (wkv (V++w :: U))):=by rw [AF wd];exact hd1
  have hr2:(upd H1 w.2.1 (.lst (zrf zs))) r.1=Aa (.tup (([AH v.1.1,AH v.1.2]:Ac Key).map kV)):=by rw [AF wr];exact hr1'
  have lz2:(upd H1 w.2.1 (.lst (zrf zs))) w.2.1=Aa (.lst (zrf zs)):=Az;have so:Ax (off H1 w.2.1) (upd H1 w.2.1 (.lst (zrf zs))):=ET (Ia _ _);rw [show (zrf (z :: zs)).eraseIdx 0=zrf zs from rfl];generalize upd H1 w.2.1 (.lst (zrf zs))=H2 at hd2 hr2 lz2 so ⊢;have zm:z∈w.2.2:=by rw [ezs];exact AV ..
  have wm:w∈V++w :: U:=B8 _ (AV ..);have zb:z∈bag (V++w :: U):=mem_flatMap.mpr ⟨w,wm,zm⟩
  have zl:∀y∈bag (V++w :: U),z.nd<=y.nd:=fun y ym=>by
   obtain ⟨x,xm,yx⟩:=mem_flatMap.mp ym;have a1:=low x xm;have a2:=Bx Kb (g1.c x xm y yx).2;have a3:=Bx Kb (g1.c w wm z zm).2;rw [ew] at a3;have a2:x.1.1=y.nd:=a2;have a3:v.1.1=z.nd:=a3;omega
  have bw:bag (V++w :: U)=bag V++((z :: zs)++bag U):=by rw [DZ,Fl,ezs]
  subst_eqs;refine ⟨d,.ref w.2.1,rfl,(by rw [<- val];exact Df.t hd2 hr2),?_⟩;subst_eqs
  exists 0,e0,he0,H2,(.lst []),H3,s3,e3,rfl
  have so3:=so.trans s3;refine ⟨w.2.1,e0,zrf zs,rfl,rfl,SqL.of (s3 _ _ lz2),SqL.of e3,?_⟩;refine ⟨_,rfl,?_⟩;by_cases c:zs=[]
  ·refine ifT (AT (by rw [c];rfl)) ?_;subst_eqs;refine ⟨.inr ⟨_,.inl (s3 _ _ hd2)⟩,?_⟩;subst_eqs;refine ⟨_,_,r.1,V.length,.ref w.2.1,s3 _ _ hd2,rfl,s3 _ _ hr2,(by unfold wkv;rw [AK,JX (by rw [At];exact A1 _),At,EI,<- ew];rfl),?_⟩;subst_eqs
   have ek:(wkv (V++w :: U)).eraseIdx V.length=wkv (V++U):=by
    unfold wkv;rw [Nw,eraseIdx_append_of_length_le (A1 _),EI];rfl
   rw [ek];refine q z (V++U) _ (g1.drop so3) zb zl (fun y ym=>?_) (fun y ym=>?_) ?_ fun b u e nd no=>by rw [AF nd];exact so3 _ _ (Du (s1 _ _ e) (BF (no w wm)))
   ·rw [bw,c] at ym;rw [DZ];simp only [Hv,Ef,Bm,Gm] at ym ⊢;rcases ym with h | h | h
    ·exact .inr (.inl h)
    ·exact .inl h
    ·exact .inr (.inr h)
   ·rw [DZ] at ym;rw [bw];simp only [Hv] at ym ⊢;rcases ym with h | h
    ·exact .inl h
    ·exact .inr (.inr h)
   ·rw [bw,DZ,c];simp only [Bj,BP,DI];omega
  ·refine ifF (AS (fun z=>c (map_eq_nil_iff.mp z))) ?_;subst_eqs;refine q z (V++(w.1,w.2.1,zs) :: U) _ (g1.swap so3 (s3 _ _ lz2) c fun x xm=>g1.c w wm x (by rw [ezs];exact Bc _ xm)) zb zl (fun y ym=>?_) (fun y ym=>?_) ?_ fun b u e _ no=>so3 _ _ (Du (s1 _ _ e) (BF (no w wm)))
   ·rw [bw] at ym;rw [DZ,Fl];show _\/y∈bag V++(zs++bag U);simp only [Hv,Ef] at ym ⊢;rcases ym with h | (h | h) | h
    ·exact .inr (.inl h)
    ·exact .inl h
    ·exact .inr (.inr (.inl h))
    ·exact .inr (.inr (.inr h))
   ·rw [DZ,Fl] at ym;have ym:y∈bag V++(zs++bag U):=ym;rw [bw];simp only [Hv,Ef] at ym ⊢;rcases ym with h | h | h
    ·exact .inl h
    ·exact .inr (.inl (.inr h))
    ·exact .inr (.inr h)
   ·rw [bw,DZ,Fl];show (bag V++(zs++bag U)).length+1=_;simp only [Bj,BP];omega
 ·exact Aw rfl (no v vm)
theorem ok_a7 (T:Tx K mg base ad):AG P w K mg base CX0 1 ad.f_a7 ad.d_a7 ["_law_script","_law_k"] (TF K):=by
 exists a7
 obtain ⟨p,ns,k,rfl,hS,h63,k0,k1,q⟩:=h;refine ⟨_,(@Av _ _ _ _ _ ((EV⊂((pv 1)∪(@B4 _ _ _ _ _ _ _ _ _ FK (by rfl) T.z_b9 Gi ((pv 0)*>Al) (by decide) (by decide) (by rfl) (by rfl))))⊆((~~~(@AA _ _ _ _ _ _ _ _ Dv (CM∩((pv 0)∪(pv 1))) (@AA _ _ _ _ _ _ _ _ Lb As As)))∪Bp)) (@Av _ _ _ _ _ (2<$>(@AA _ _ _ _ _ _ _ _ C3 (@AA _ _ _ _ _ _ _ _ Ck (pv 1) As) As)) (@Av _ _ _ _ _ (@Hh _ _ _ _ _ _ _ _ (FR⊂((@B4 _ _ _ _ _ _ _ _ _ FK (by rfl) T.z_b9 Gi ((pv 0)*>Al) (by decide) (by decide) (by rfl) (by rfl))∪As)) (@AY _ _ _ (2<$>(@AA _ _ _ _ _ _ _ _ C3 (@AA _ _ _ _ _ _ _ _ Ck (@AA _ _ _ _ _ _ _ _ Dv (CM∩((pv 0)∪(@AA _ _ _ _ _ _ _ _ Dv (@AA _ _ _ _ _ _ _ _ Ck (pv 1) As) (@B4 _ _ _ _ _ _ _ _ _ FK (by rfl) T.z_b9 Gi ((pv 0)*>Al) (by decide) (by decide) (by rfl) (by rfl))))) (@AA _ _ _ _ _ _ _ _ Lb As As)) As) (@AA _ _ _ _ _ _ _ _ Ck (@AA _ _ _ _ _ _ _ _ Ck (pv 1) (pv 1)) As)))) Bp) (~~~(@AA _ _ _ _ _ _ _ _ Dv (@AA _ _ _ _ _ _ _ _ Ck (@AA _ _ _ _ _ _ _ _ Dv (pv 2) As) As) As))))),?_⟩;have hl:(ns.map V.int).length=ns.length:=At _;have szk:Sz 64 k:=B_ (by omega) (by omega);have p40:(0:Ab) < 10 ^ (40:Ab).toNat:=by decide +kernel
 refine ⟨_,rfl,_,rfl,p,_,rfl,.inl hS,_,_,rfl,rfl,_,rfl,?_⟩;refine Jh (fun c=>?_) (fun c=>?_)
 ·have c':k < (((ns.map V.int).length:Ae):Ab):=CK c;rw [hl] at c';obtain ⟨v,hv⟩:=QE k0 c';refine ⟨_,rfl,_,rfl,p,_,_,_,rfl,rfl,hS,hv,_,_,rfl,rfl,Qd,_,_,rfl,rfl,(E_ p40),?_⟩;exact q _ (Di v p40).1 (Di v p40).2
 ·subst_eqs;refine ⟨fun σ' H'=>∃z:Ab,σ'=[Aa (.ref p),Aa (.int k),Aa (.int z)]/\H=H',?_,?_⟩
  ·refine ⟨_,rfl,p,_,rfl,.inl hS,_,_,rfl,rfl,_,rfl,?_⟩;refine Jh (fun c2=>?_) (fun c2=>?_)
   ·have c2':0 < (((ns.map V.int).length:Ae):Ab):=CK c2;rw [hl] at c2';have m:=Di (k*7) c2';obtain ⟨v,hv⟩:=QE m.1 m.2;refine ⟨_,rfl,?_⟩;subst_eqs;refine ⟨p,_,rfl,.inl hS,?_⟩;rw [hl];refine ⟨_,_,rfl,rfl,(by show (_:Ab)≠0;omega),?_⟩;refine ⟨p,_,_,_,rfl,rfl,hS,hv,_,_,rfl,rfl,Qd,_,_,rfl,rfl,(E_ p40),?_⟩;have szv:Sz 200 (v.fmod (10 ^ (40:Ab).toNat)):=Lo (Di v p40).1 (Di v p40).2;subst_eqs;exact rfl
   ·exact ⟨_,rfl,rfl⟩
  rintro σ' H' ⟨z,rfl,rfl⟩;have m1:=Di z (show (0:Ab) < 2147483647 by decide);have sz1:Sz 64 (z.fmod 2147483647):=B_ (by omega) (by omega);subst_eqs;have m:=Di (z.fmod 2147483647*69621) (show (0:Ab) < 2147483629 by decide);exact q _ m.1 (O5 m.2 (by decide))
theorem ok_a8 (T:Tx K mg base ad):AG P w K mg base CX0 1 ad.f_a8 ad.d_a8 ["_law_cell_here","_law_by"] Uj:=by
 exists a8
 obtain ⟨c,b,rfl,szc,b0,b1,q⟩:=h;refine ⟨_,(@Av _ _ _ _ _ (2<$>(@AA _ _ _ _ _ _ _ _ C3 As (@AA _ _ _ _ _ _ _ _ Ck (pv 1) As))) (~~~(@AA _ _ _ _ _ _ _ _ Dv (@AA _ _ _ _ _ _ _ _ Ck (@AA _ _ _ _ _ _ _ _ C3 (pv 0) As) (pv 2)) (@AA _ _ _ _ _ _ _ _ C3 (@AA _ _ _ _ _ _ _ _ Lb As As) As)))),?_⟩;have szb:Sz 64 b:=B_ (by omega) (by omega);symm;have m:=Di ((c+3)*(618033988749894848204586834365+b*271828182845904523536028747)) (show (0:Ab) < 10 ^ (30:Ab).toNat+57 by decide);exact q _ m.1 (O5 m.2 (by decide))
theorem ok_y (T:Tx K mg base ad):AG P w K mg base CX0 1 ad.f_y ad.d_y ["_law_found"] UG:=by
 refine T.F_y.ok sc_y (fun vs H Q E h=>?_) (fun cdv A outer s H vs Q E hr h=>?_)
 ·obtain ⟨c,rfl,_⟩:=h;rfl
 obtain ⟨c,rfl,q⟩:=h;refine ⟨_,(~~~(@Ft _ _ _ _ _ _ _ (@B4 _ _ _ _ _ _ _ _ _ HR (by rfl) T.z_cc Hy ((pv 0)*>((Ig (v:=.ty "int") rfl T.z_cp WH rfl)*>Al)) (by decide) (by decide) (by rfl) (by rfl)) (@FT _ _ _ _ _ (@RL _ _ _ _ (@B4 _ _ _ _ _ _ _ _ _ HR (by rfl) T.z_cc Hy ((pv 0)*>((Ig (v:=.ty "bool") rfl T.z_cm WG rfl)*>Al)) (by decide) (by decide) (by rfl) (by rfl)))))),?_⟩;refine ⟨_,rfl,_,_,_,_,rfl,CS.int c,QL,_,rfl,?_⟩;refine Np ?_;exact ⟨_,rfl,_,_,_,_,rfl,CS.int c,QK,_,rfl,q⟩
theorem ok_ak (T:Tx K mg base ad):AG P w K mg base CX0 1 ad.f_ak ad.d_ak ["_law_sheet","_law_mask"] T':=by
 exists ak
 obtain ⟨l,ls,w',rfl,hl,gl,k6,l60,w2,q⟩:=h;refine ⟨_,(~~~(@B4 _ _ _ _ _ _ _ _ _ (K7 rfl) (by rfl) T.z_cj Ms ((Ih (fsc:=A7 NU) (N:=["_law_sheet","_law_mask"]) (Nc:=["_law_sheet","_law_mask","_law_slip","_law_number"]) rfl rfl ⟨rfl,by decide +kernel,by decide +kernel,by decide +kernel,by decide +kernel,rfl,by decide +kernel,rfl,by decide +kernel⟩ rfl (BV (pv 0)) (fun _ _ _ _=>(Fv (PW.pt (@Lh _ _ _ _ _ _ _ ((R5 (K:=K) hr.units)⊂((pv 2)∪(@Bq _ _ _ _ _ Al))) (@Li _ _ _ _ (CU⊂(((Ek K)∩((pv 2)∪As))∪(pv 1)))))))) (fun _ _ _ _=>(pv 3)))*>Al) (by decide) (by decide) (by rfl) (by rfl))),?_⟩;have vl:=CI ls;subst_eqs;refine ⟨⟨_,SqL.of hl⟩,?_⟩;refine Qa (zs:=vls ls) rfl rfl (by rw [vl];exact C9 (by omega)) (fun D i ys J=>∃zs:Ac Ab,ys=zs.map V.int/\zs=((Am (ls.take i)).filter fun q=>frB w' q.1).map (·.2)/\Ax H J/\J D=Aa (.lst ys)) (fun D hD=>⟨[],rfl,rfl,AN hD _,Az⟩) (fun D i ys J hq_=>by obtain ⟨zs,f1,f2,_,f4⟩:=hq_;exact ⟨f4,by rw [f1,At,f2,At];exact BE (EH ..) (by unfold Am;rw [At];exact FD _ _)⟩) (fun D i ys J hD hq_=>by obtain ⟨_,_,_,f3,_⟩:=hq_;exact SqL.of (f3 _ _ hl)) ?_ ?_
 ·rintro D i x ys J K1 K2 hD hx ⟨zs,rfl,ez,sJ,eJ⟩ kk1 kk2;obtain ⟨f,hf,rfl,fm,et⟩:=F3 hx;have gf:=gl.same sJ f fm;refine ⟨f.1,_,_,rfl,SqT.of gf.1,?_⟩
  have tk:((Am (ls.take (i+1))).filter fun q=>frB w' q.1).map (·.2)=zs++(if frB w' f.2.2.1=Af then [f.2.2.2] else []):=by
   rw [et,Gv,EG,AK,<- ez];show zs++FF _ (List.filter _ [(f.2.2.1,f.2.2.2)])=_;rw [Ht]
   split <;> rfl
  subst_eqs
  exists 0,t,ht,J,(.tup []),J1,s1,e1,rfl
  have fs1:=s1 _ _ gf.2;refine ⟨f.2.1,t,f.2.2.1,[],rfl,rfl,SqT.of fs1,SqT.of e1,?_⟩;have no:frB w' f.2.2.1=Aq->K2 J1:=fun h=>kk2 _ ⟨zs,rfl,by rw [tk,Ao (by rw [h];decide),Ch],sJ.trans s1,s1 _ _ eJ⟩
  cases hf2:f.2.2.1 with
  | nil =>
    refine ⟨_,rfl,ifF rfl (ifF rfl (no (by rw [hf2];rfl)))⟩
  | cons t0 tl =>
    rw [hf2] at fs1;refine ⟨_,rfl,ifT rfl ?_⟩;subst_eqs;refine ⟨f.2.1,_,_,_,rfl,rfl,SqT.of fs1,(show atI ((t0 :: tl).map V.int) ((0:Ae):Ab)=Aa (.int t0) from atN rfl),?_⟩;subst_eqs;by_cases c:t0=2 ^ w'
    ·refine ifT (Hb c) ?_;have yes1:frB w' f.2.2.1=Af:=by rw [hf2,c];unfold frB;rw [AS (by simp)];simp
     refine ⟨_,rfl,kk1 _ _ (s1 _ _ eJ) ⟨zs++[f.2.2.2],by rw [AK];rfl,by rw [tk,Ar yes1],Bs (sJ.trans s1) hD,Az⟩⟩
    ·refine ifF (HW c) (no ?_);rw [hf2];unfold frB;rw [show decide ((t0 :: tl).head?=Aa (2 ^ w'))=Aq from AS (fun e=>c (Bn e)),Ot]
 rintro D ys J hD ⟨zs,rfl,ez,sJ,eJ⟩;rw [vl,Cn (A1 _)] at ez;refine ⟨D,_,rfl,SqL.of eJ,?_⟩;rw [ez,Q0 w2 k6];exact q J sJ
theorem ok_af (T:Tx K mg base ad):AG P w K mg base CX0 1 ad.f_af ad.d_af ["self","way"] (Ui K):=by
 exists af
 obtain ⟨g,C,dx,a,rfl,hg,cl,na,q⟩:=h;refine ⟨_,(@AY _ _ _ (FW (pv 0) (pv 1) rfl)),?_⟩;refine ⟨_,rfl,_,rfl,g,C,dx,[],rfl,hg,cl,na,(by simp only [DI];decide),?_⟩;rw [Abv];exact q _ (ET (Ia H g)) Az
theorem ok_i (T:Tx K mg base ad):AG P w K mg base CX0 1 ad.f_i ad.d_i ["self","deeds","standing","places","needed","state"] (TK K):=by
 exists i
 obtain ⟨g,C,dx,dt,st,m,pl,nd,rfl,a0,cl,n0,n1,n2,n3,n4,q⟩:=h;refine ⟨_,(@Av _ _ _ _ _ (FW (pv 0) (pv 1) rfl) (@Av _ _ _ _ _ (FW (pv 0) (pv 2) rfl) (@Av _ _ _ _ _ (FW (pv 0) (pv 3) rfl) (@Av _ _ _ _ _ (FW (pv 0) (pv 4) rfl) (@AY _ _ _ (FW (pv 0) (pv 5) rfl)))))),?_⟩;have g0:=Ia H g;symm;refine ⟨g,C,dx,_,rfl,a0,cl,n0,(by simp only [BP,DI];decide),?_⟩;rw [Abk dt st m pl nd];have g1:=ET (o:=.ins C dx [("deeds",.ref dt)]) g0;have a1:(upd H g (.ins C dx [("deeds",.ref dt)])) g=_:=Az;generalize upd H g (.ins C dx [("deeds",.ref dt)])=H1 at g1 a1 ⊢;symm;refine ⟨g,C,dx,_,rfl,a1,cl,n1,(by simp only [BP,DI];decide),?_⟩;rw [Abl dt st m pl nd];have g2:=ET (o:=.ins C dx [("deeds",.ref dt),("standing",.int m)]) g1;have a2:(upd H1 g (.ins C dx [("deeds",.ref dt),("standing",.int m)])) g=_:=Az;generalize upd H1 g (.ins C dx [("deeds",.ref dt),("standing",.int m)])=H2 at g2 a2 ⊢;symm;refine ⟨g,C,dx,_,rfl,a2,cl,n2,(by simp only [BP,DI];decide),?_⟩;rw [Abm dt st m pl nd];have g3:=ET (o:=.ins C dx [("deeds",.ref dt),("standing",.int m),("places",.int pl)]) g2;have a3:(upd H2 g (.ins C dx [("deeds",.ref dt),("standing",.int m),("places",.int pl)])) g=_:=Az;generalize upd H2 g (.ins C dx [("deeds",.ref dt),("standing",.int m),("places",.int pl)])=H3 at g3 a3 ⊢;symm;refine ⟨g,C,dx,_,rfl,a3,cl,n3,(by simp only [BP,DI];decide),?_⟩;rw [Abn dt st m pl nd];have g4:=ET (o:=.ins C dx [("deeds",.ref dt),("standing",.int m),("places",.int pl),("needed",.int nd)]) g3;have a4:(upd H3 g (.ins C dx [("deeds",.ref dt),("standing",.int m),("places",.int pl),("needed",.int nd)])) g=_:=Az;generalize upd H3 g (.ins C dx [("deeds",.ref dt),("standing",.int m),("places",.int pl),("needed",.int nd)])=H4 at g4 a4 ⊢;symm;refine ⟨g,C,dx,_,rfl,a4,cl,n4,(by simp only [BP,DI];decide),?_⟩;rw [Abo dt st m pl nd];have g5:=ET (o:=.ins C dx [("deeds",.ref dt),("standing",.int m),("places",.int pl),("needed",.int nd),("state",.ref st)]) g4;have a5:(upd H4 g (.ins C dx [("deeds",.ref dt),("standing",.int m),("places",.int pl),("needed",.int nd),("state",.ref st)])) g=_:=Az;generalize upd H4 g (.ins C dx [("deeds",.ref dt),("standing",.int m),("places",.int pl),("needed",.int nd),("state",.ref st)])=H5 at g5 a5 ⊢;symm;exact q H5 g5 a5
theorem ok_bz (T:Tx K mg base ad):AG P w K mg base CX0 1 ad.f_bz ad.d_bz ["self","one","other"] (T8 ad.c_b):=by
 exists bz
 obtain ⟨a,h,s,xs,x,y,rfl,is,mx,my,q⟩:=h;refine ⟨_,(~~~(@Ep _ _ _ _ _ _ _ _ EV (CN CP OU WR (Rl (K:=K)) (Be (pv 0) rfl) ((pv 1)*>Al)) (CN CP OU WR (Rl (K:=K)) (Be (pv 0) rfl) ((pv 2)*>Al)) (D_ _))),?_⟩;obtain ⟨dx,l,k1,k2⟩:=is;refine ⟨_,rfl,a,_,dx,_,_,rfl,k1,T.cl_b,T.na_b_cg,rfl,?_⟩;refine ⟨.inl ⟨rfl,_,SqL.of k2⟩,_,rfl,l,xs,x,rfl,rfl,SqL.of k2,mx,?_⟩;refine ⟨_,rfl,a,_,dx,_,_,rfl,k1,T.cl_b,T.na_b_cg,rfl,?_⟩;refine ⟨.inl ⟨rfl,_,SqL.of k2⟩,_,rfl,l,xs,y,rfl,rfl,SqL.of k2,my,?_⟩;symm;have e:decide (((xs.idxOf x:Ae):Ab) < ((xs.idxOf y:Ae):Ab))=decide (xs.idxOf x < xs.idxOf y):=by congr 1;apply propext;omega
 show Q (.bl (decide (((xs.idxOf x:Ae):Ab) < ((xs.idxOf y:Ae):Ab)))) H;rw [e];exact q
theorem ok_bx (T:Tx K mg base ad):AG P w K mg base CX0 1 ad.f_bx ad.d_bx ["self","ballots"] (Uu ad.c_b):=by
 exists bx
 obtain ⟨a,h,s,xs,n,rfl,is,s1,s6,q⟩:=h;refine ⟨_,(~~~(@AA _ _ _ _ _ _ _ _ C3 (@AA _ _ _ _ _ _ _ _ EU (pv 1) (@AA _ _ _ _ _ _ _ _ C3 (Be (pv 0) rfl) As)) As)),?_⟩;obtain ⟨dx,l,k1,k2⟩:=is;symm;refine ⟨a,_,dx,_,_,rfl,k1,T.cl_b,T.na_b_ce,rfl,?_⟩;symm;refine ⟨⟨by omega,(show Sz 64 (s+1) from B_ (by omega) (by omega)).mono (by decide)⟩,?_⟩;symm;exact q
theorem ok_j (T:Tx K mg base ad):AG P w K mg base CX0 1 ad.f_j ad.d_j ["self","paper"] (U9 ad.c_b):=by
 exists j
 obtain ⟨a,p,h,s,xs,ps,rfl,is,h12,hp,gp,pne,pl9,q⟩:=h;refine ⟨_,(@Av _ _ _ _ _ (2<=<(RG (fsc:=A7 s_j) (N:=["self","paper","seated","named"]) (Nc:=["self","paper","seated","named","rows","sums","deed"]) rfl rfl ⟨rfl,by decide +kernel,by decide +kernel,by decide +kernel,by decide +kernel,rfl,by decide +kernel,rfl,by decide +kernel⟩ rfl (BV (pv 1)) (fun _ _ _ _=>(Fv (CU⊂(((Ek K)∩((pv 6)∪As))∪Dw)))) (fun _ _ _ _=>((Ek K)∩((pv 6)∪As))))) (@Av _ _ _ _ _ (3<=<(RG (fsc:=A7 s_j) (N:=["self","paper","seated","named"]) (Nc:=["self","paper","seated","named","rows","sums","deed"]) rfl rfl ⟨rfl,by decide +kernel,by decide +kernel,by decide +kernel,by decide +kernel,rfl,by decide +kernel,rfl,by decide +kernel⟩ rfl (BV (pv 1)) (fun _ _ _ _=>DD) (fun _ _ _ _=>((Ek K)∩((pv 6)∪As))))) (@Av _ _ _ _ _ (@Hh _ _ _ _ _ _ _ _ ((Js (K:=K) hr.units)⊂((AX∩((CM∩((pv 1)∪(@Hg _ _ _ _ _ _ Iq As)))∪As))∪(@Bq _ _ _ _ _ (Dw*>(FS*>Al))))) (@AY _ _ _ (@CG _ _ _ _ (CN CP Mu PySem.F.type_list_extend KS (pv 2) ((DS (fsc:=A7 s_j) (N:=["self","paper","seated","named"]) (Nc:=["self","paper","seated","named","hand"]) rfl rfl (by nofun) rfl (FV rfl T.z_b2 ((Be (pv 0) rfl)*>Al)) (fun _ _ _ _=>(Fv (@Jz _ _ _ _ _ _ _ _ (Aa0 K) (pv 4) (pv 3) (by with_unfolding_all rfl)))) (fun _ _ _ _=>(pv 4)))*>Al)) (by rfl))) Bp) (~~~(DS (fsc:=A7 s_j) (N:=["self","paper","seated","named"]) (Nc:=["self","paper","seated","named","hand"]) rfl rfl (by nofun) rfl (FV rfl T.z_b2 ((Be (pv 0) rfl)*>Al)) (fun _ _ _ _=>DD) (fun _ _ _ _=>(G5 (@Jz _ _ _ _ _ _ _ _ (R3 K) (pv 4) (pv 2) (by with_unfolding_all rfl)) As As))))))),?_⟩;obtain ⟨dx,lo,k1,k2⟩:=id is;have rl:(rqs ps).length=ps.length:=At ..;subst_eqs;refine ⟨⟨_,SqL.of hp⟩,?_⟩;refine Qb (zs:=rqs ps) rfl rfl rfl (by rw [rl];exact JC pl9) (fun D i ys J=>ys=BW (Cv (DB (ps.take i)))/\J=upd H D (.lst ys)) (fun D hD=>⟨rfl,rfl⟩) (fun D i ys J hq_=>by obtain ⟨f1,f2⟩:=hq_;exact ⟨by rw [f2];exact Az,by rw [f1];unfold BW Cv DB;rw [At];exact BE (LY ..) (by rw [At];exact FD _ _)⟩) (fun D i ys J hD hq_=>by obtain ⟨_,f2⟩:=hq_;rw [f2];exact SqL.of (AN hD _ _ _ hp)) ?_ ?_
 ·rintro D i y ys J K1 K2 hD hy ⟨e,rfl⟩ kk1 kk2;unfold rqs at hy;rw [Ba] at hy;obtain ⟨r,hr0,rfl⟩:=Option.map_eq_some_iff.mp hy;have g:=(gp r (Bt hr0)).same (AN hD (.lst ys))
  have tk:Cv (DB (ps.take (i+1)))=Cv (DB (ps.take i))++(match r.2.2.2.2.seatOf with | some j=>[j] | none=>[]):=by
   unfold Cv DB;rw [Dk,hr0,AK,Wb]
   congr 1
   show Wa Dd.seatOf [r.2.2.2.2]=_;rw [JW]
   cases r.2.2.2.2.seatOf <;> rfl
  refine ⟨r.1,_,_,_,rfl,SqT.of g.t,?_⟩;have gd:=g.d
  cases hdd:r.2.2.2.2 with
  | seat j =>
    rw [hdd] at gd tk;have gd':(upd H D (.lst ys)) r.2.2.2.1=Aa (.tup [.str "seat",.int (j:Ab)]):=gd;subst_eqs;refine kk1 _ _ Az ⟨?_,by rw [DV]⟩;rw [tk,e];unfold BW;rw [AK];rfl
  | out j =>
    rw [hdd] at gd tk;have gd':(upd H D (.lst ys)) r.2.2.2.1=Aa (.tup [.str "out",.int (j:Ab)]):=gd;subst_eqs;exact kk2 _ ⟨by rw [tk];show ys=BW (_++[]);rw [Ch];exact e,rfl⟩
  | rest =>
    rw [hdd] at gd tk;have gd':(upd H D (.lst ys)) r.2.2.2.1=Aa (.tup [.str "rest",.non]):=gd;subst_eqs;exact kk2 _ ⟨by rw [tk];show ys=BW (_++[]);rw [Ch];exact e,rfl⟩
  | fin =>
    rw [hdd] at gd tk;have gd':(upd H D (.lst ys)) r.2.2.2.1=Aa (.tup [.str "end",.non]):=gd;subst_eqs;exact kk2 _ ⟨by rw [tk];show ys=BW (_++[]);rw [Ch];exact e,rfl⟩
 rintro D ys J hD ⟨rfl,rfl⟩;rw [rl,Cn (A1 _)]
 exists D,hD,H,(.lst (BW (Cv (DB ps)))),H1,s1,e1
 have hp1:=s1 _ _ hp;have gp1:∀r∈ps,RqG H1 r:=fun r m=>(gp r m).same s1;subst_eqs;refine ⟨⟨_,SqL.of hp1⟩,?_⟩;refine Qb (zs:=rqs ps) rfl rfl rfl (by rw [rl];exact JC pl9) (fun D2 i ys J=>ys=(DB (ps.take i)).map Dd.who/\J=upd H1 D2 (.lst ys)) (fun D2 hD2=>⟨rfl,rfl⟩) (fun D2 i ys J hq_=>by obtain ⟨f1,f2⟩:=hq_;exact ⟨by rw [f2];exact Az,by rw [f1];unfold DB;rw [At,At];exact FD _ _⟩) (fun D2 i ys J hD2 hq_=>by obtain ⟨_,f2⟩:=hq_;rw [f2];exact SqL.of (AN hD2 _ _ _ hp1)) ?_ ?_
 ·rintro D2 i y ys J K1 K2 hD2 hy ⟨e,rfl⟩ kk1 kk2;unfold rqs at hy;rw [Ba] at hy;obtain ⟨r,hr0,rfl⟩:=Option.map_eq_some_iff.mp hy;have g:=(gp1 r (Bt hr0)).same (AN hD2 (.lst ys));have gd:=g.d;refine ⟨r.1,_,_,_,rfl,SqT.of g.t,?_⟩;refine yes (ifT rfl ?_);refine ⟨_,rfl,r.2.2.2.1,_,_,_,rfl,rfl,SqT.of gd,rfl,?_⟩;refine kk1 _ _ Az ⟨?_,by rw [DV]⟩;unfold DB;rw [Dk,hr0,AK,AK,e];rfl
 rintro D2 ys J hD2 ⟨rfl,rfl⟩;rw [rl,Cn (A1 _)]
 exists D2,hD2,H1,(.lst ((DB ps).map Dd.who)),H2,s2,e2
 have s12:=s1.trans s2;have D2D:D2≠D:=fun z=>by rw [z,e1] at hD2;cases hD2
 obtain ⟨ps',r,rfl⟩:∃ps' r,ps=ps'++[r]:=⟨ps.dropLast,ps.getLast pne,(dropLast_concat_getLast pne).symm⟩;have gl:(DB (ps'++[r])).getLast?=Aa r.2.2.2.2:=by unfold DB;rw [AK];exact List.getLast?_concat
 have hp2:=s12 _ _ hp;have g2:=(gp r (B8 _ (mem_singleton.mpr rfl))).same s12;have g2t:=g2.t;have atl:atI (rqs (ps'++[r])) (-1)=Aa (.ref r.1):=by unfold rqs;rw [AK];exact XZ _ _
 generalize hds:DB (ps'++[r])=ds at e1 e2 gl q;subst_eqs;refine ⟨fun σ' J=>σ'=[Aa (.ref a),Aa (.ref p),Aa (.ref D),Aa (.ref D2)]/\Ax H J/\J D=Aa (.lst (BW (FY h ds))),?_,?_⟩
 ·subst_eqs;refine ⟨p,_,_,_,rfl,rfl,SqL.of hp2,atl,?_⟩;subst_eqs
  exists 2,t,ht,H2,(.tup [V.str "rest",V.non]),H3,s3,e3,rfl
  have s13:=s12.trans s3;refine ⟨ddD r.2.2.2.2.word r.2.2.2.2.data,ddD "rest" .none,Ab9 ((g2.same s3).d),.tup (SqT.of e3) (.cons (.str _) (.cons .non .nil)),AbS _,JB (by decide +kernel) ⟨rfl,rfl⟩,?_⟩;rw [Y3];have D3:=(s2.trans s3) _ _ e1;have D23:=s3 _ _ e2;have k13:=s13 _ _ k1;by_cases c:r.2.2.2.2=.rest
  ·rw [AT c];have sd:FY h ds=Cv ds++J8 h ds:=by unfold FY;rw [gl,c,Ar rfl]
   subst_eqs;refine ⟨.inl ⟨rfl,_,SqL.of D3⟩,?_⟩;subst_eqs;refine ⟨a,_,dx,_,_,rfl,k13,T.cl_b,T.na_b_b1,rfl,?_⟩;refine ⟨(h:Ab),rfl,by omega,by omega,?_⟩;rw [B7];refine GZ (C9 (by omega)) (fun D4 i ys J=>ys=BW ((Bo i).filter fun j=>!FQ ds j)/\J=upd H3 D4 (.lst ys)) (fun D4 hD4=>⟨rfl,rfl⟩) (fun D4 i ys J hq_=>by obtain ⟨f1,f2⟩:=hq_;exact ⟨by rw [f2];exact Az,by rw [f1];unfold BW;rw [At];exact BE (EH ..) (by rw [D6];exact A1 _)⟩) ?_ ?_
   ·rintro D4 i ys J K1 K2 hD4 hi ⟨e,rfl⟩ kk1 kk2;have z0:(0:Ab)+(i:Ab)=(i:Ab):=F9 _
    have tk:((Bo (i+1)).filter fun j=>!FQ ds j)=((Bo i).filter fun j=>!FQ ds j)++(if FQ ds i=Af then [] else [i]):=by
     rw [Hw,EG,Ht]
     cases FQ ds i <;> rfl
    refine ⟨_,rfl,_,rfl,D2,_,rfl,.inl (SqL.of (AN hD4 _ _ _ D23)),rfl,YI ds,?_⟩;rw [z0,Ar rfl,QA]
    cases b:FQ ds i with
    | true =>
      refine ⟨_,rfl,ifF rfl ?_⟩;rw [b,Ar rfl,Ch] at tk;exact kk2 _ ⟨by rw [tk];exact e,rfl⟩
    | false =>
      refine ⟨_,rfl,ifT rfl ?_⟩;rw [b,Ao (by decide)] at tk;refine ⟨_,rfl,kk1 _ _ Az ⟨?_,by rw [DV]⟩⟩;rw [tk,e];unfold BW;rw [AK];rfl
   rintro D4 ys J hD4 ⟨rfl,rfl⟩
   have sl1:(Cv ds).length<=900:=by
    unfold Cv;refine BE (LY ..) ?_;rw [<- hds];unfold DB;rw [At];exact pl9
   have sl2:(J8 h ds).length<=12:=by
    unfold J8;exact BE (EH ..) (by rw [D6];exact h12)
   refine ⟨D,D4,_,_,rfl,rfl,AN hD4 _ _ _ D3,Az,(by unfold BW;rw [At,At];exact DK (C8 (by show (Cv ds).length+(J8 h ds).length<=1000;omega))),?_⟩;refine ⟨rfl,Bs (s13.trans (AN hD4 _)) hD,?_⟩;rw [Az,sd];unfold BW;rw [AK];rfl
  ·rw [AS c]
   have sd:FY h ds=Cv ds:=by
    unfold FY;rw [gl,Ao (fun z=>c (Bn z)),Ch]
   subst_eqs;exact ⟨s13,by rw [sd];exact D3⟩
 rintro σ' J ⟨rfl,sJ,eJ⟩;have k1J:=sJ _ _ k1;subst_eqs;refine ⟨a,_,dx,_,_,rfl,k1J,T.cl_b,T.na_b_b1,rfl,?_⟩;refine ⟨(h:Ab),rfl,by omega,by omega,?_⟩;rw [B7];refine GZ (C9 (by omega)) (fun D4 i ys J4=>ys=((Bo i).map fun j=>if j∈FY h ds then (1:Ab) else 0).map V.int/\J4=upd J D4 (.lst ys)) (fun D4 hD4=>⟨rfl,rfl⟩) (fun D4 i ys J4 hq_=>by obtain ⟨f1,f2⟩:=hq_;exact ⟨by rw [f2];exact Az,by rw [f1,At,At,D6];exact A1 _⟩) ?_ ?_
 ·rintro D4 i ys J4 K1 K2 hD4 hi ⟨e,rfl⟩ kk1 kk2;have z0:(0:Ab)+(i:Ab)=(i:Ab):=F9 _;refine yes (ifT rfl ?_);refine ⟨_,rfl,_,rfl,D,_,rfl,.inl (SqL.of (AN hD4 _ _ _ eJ)),rfl,Qr _,?_⟩;rw [z0,Ao (by decide),Q9];refine ⟨_,rfl,?_⟩;have fin:∀z:Ab,z=(if i∈FY h ds then (1:Ab) else 0)->K1 (V.int z) (upd J D4 (.lst ys)):=fun z hz=>kk1 _ _ Az ⟨by rw [Hw,AK,AK,e,hz];rfl,by rw [DV]⟩;by_cases c:i∈FY h ds
  ·rw [AT c];exact ifT rfl (fin 1 (by rw [Ar c]))
  ·rw [AS c];exact ifF rfl (fin 0 (by rw [Ao c]))
 rintro D4 ys J4 hD4 ⟨rfl,rfl⟩;exact q D4 _ (none_of sJ hD4) (sJ.trans (AN hD4 _)) Az
theorem ok_ac (T:Tx K mg base ad):AG P w K mg base CX0 2 ad.f_ac ad.d_ac ["mask"] Acg:=by
 refine T.F_ac.ok sc_ac (fun vs H Q E h=>?_) (fun cdv A outer s H vs Q E hr h=>?_)
 ·obtain ⟨m,rfl,_⟩:=h;rfl
 obtain ⟨m,rfl,m0,m1,q⟩:=h;refine ⟨_,(~~~(@B4 _ _ _ _ _ _ _ _ _ FK (by rfl) T.z_b9 Gi ((n<*((pv 0)*>Al))*>Al) (by decide) (by decide) (by rfl) (by rfl))),?_⟩;symm;refine ⟨m0,m1,fun p H' hp s e=>?_⟩;symm;rw [At];exact q H' s
theorem ok_a0 (T:Tx K mg base ad):AG P w K mg base CX0 2 ad.f_a0 ad.d_a0 ["old","new","number"] TN:=by
 exists a0
 obtain ⟨a,b,ts,us,n,rfl,ha,hb,ne,n1,q⟩:=h;refine ⟨_,(@Av _ _ _ _ _ ((PW.pt (@Hj _ _ _ _ _ _ _ (@Es _ _ _ _ (@C5 _ _ _ (x<*((pv 2)*>Al)) (by intro _;rfl))) (@Ij _ _ _ _ (EV⊂((pv 2)∪As)))))⊆((@AY _ _ _ FX)∪Bp)) (@AY _ _ _ (((Js (K:=K) hr.units)⊂((pv 0)∪(pv 1)))⊆((@AY _ _ _ FX)∪Bp)))),?_⟩;refine ⟨_,rfl,n,rfl,?_⟩;symm;refine ifF (AS (by omega)) ?_;refine ⟨_,rfl,_,rfl,.tuple (ts.map .int),.tuple (us.map .int),.tup (SqT.of ha) (.ints ts),.tup (SqT.of hb) (.ints us),(Fy ts).1,(Fy us).1,?_⟩;rw [show FH (.tuple (ts.map .int)) (.tuple (us.map .int))=decide (ts=us) from HX ts us,AS ne];symm;exact q
theorem ok_a5 (T:Tx K mg base ad):AG P w K mg base CX0 2 ad.f_a5 ad.d_a5 ["sheet","slip"] T_:=by
 exists a5
 obtain ⟨l,t,ls,ts,rfl,hl,gl,ht,l60,q⟩:=h;refine ⟨_,(~~~(@AA _ _ _ _ _ _ _ _ Ea (ah<*((pv 0)*>Al)) (ao<*((pv 0)*>((pv 1)*>Al))))),?_⟩;symm;refine ⟨l,ls,rfl,hl,gl,by omega,fun H1 s1=>?_⟩;symm;refine ⟨l,t,ls,ts,rfl,s1 _ _ hl,gl.same s1,s1 _ _ ht,by omega,fun H2 s2=>?_⟩;symm;exact q _ (s1.trans s2)
theorem ok_g (T:Tx K mg base ad):AG P w K mg base CX0 2 ad.f_g ad.d_g ["slip","x","y"] UB:=by
 exists g
 obtain ⟨t,ts,x,y,rfl,ht,pos,hx,hy,q⟩:=h;refine ⟨_,(@Av _ _ _ _ _ (((R1 hr.units0)⊂((pv 0)∪(@Bq _ _ _ _ _ Al)))⊆((~~~As)∪Bp)) (@Av _ _ _ _ _ ((CU⊂((AX∩((pv 0)∪As))∪(bn<*(As*>((pv 1)*>Al)))))⊆((~~~As)∪Bp)) (~~~(G5 (@C5 _ _ _ (a6<*((AX∩((pv 0)∪As))*>((pv 2)*>Al))) (by intro _;rfl)) As As)))),?_⟩;symm;refine ⟨(by show 0<=AB;decide),fun t0 ht0=>?_⟩
 exists t0,ht0,H,(.tup []),H1,s1,e1,(.tup (([]:Ac Ab).map V.int))
 have h1:=s1 _ _ ht;symm;refine ⟨t,t0,ts,[],rfl,rfl,SqT.of h1,SqT.of e1,?_⟩;have q':=q H1 s1;symm
 cases ts with
 | nil =>
   refine ifT (AT rfl) ?_;exact q'
 | cons a r =>
   refine ifF (AS (fun z=>by cases z)) ?_;have pa:=pos a (AV ..);have at0:atI ((a :: r).map V.int) 0=Aa (.int a):=atN (i:=0) rfl;symm;refine ⟨t,_,_,_,rfl,rfl,SqT.of h1,at0,?_⟩;symm;refine ⟨0,(x:Ab),rfl,by omega,by omega,?_⟩;rw [B7,Aat ⟨x,hx⟩];have q':Q (.int (if a=2 ^ x then 0 else if bit a y=Af then 2 else 1)) H1:=q';dsimp only;symm;by_cases c:a=2 ^ x
   ·rw [Ar c] at q';exact ifT (Hb c) q'
   ·rw [Ao c] at q';refine ifF (HW c) ?_;symm;refine ⟨t,_,_,_,rfl,rfl,SqT.of h1,at0,?_⟩;symm;refine ⟨a,(y:Ab),rfl,by omega,?_⟩;rw [B7];symm
    cases b:bit a y with
    | true =>
      rw [Ar b] at q';exact ifT rfl q'
    | false =>
      rw [Ao (by rw [b];decide)] at q';exact ifF rfl q'
theorem ok_a4 (T:Tx K mg base ad):AG P w K mg base CX0 2 ad.f_a4 ad.d_a4 ["top","bottom"] Uh:=by
 exists a4
 obtain ⟨t,b,rfl,b0,szt,szb,q⟩:=h;refine ⟨_,(@Av _ _ _ _ _ ((PW.pt (@Hj _ _ _ _ _ _ _ (@Es _ _ _ _ (@C5 _ _ _ (x<*((pv 0)*>Al)) (by intro _;rfl))) (@Ij _ _ _ _ (@Es _ _ _ _ (@C5 _ _ _ (x<*((pv 1)*>Al)) (by intro _;rfl))))))⊆((@AY _ _ _ FX)∪Bp)) (@Av _ _ _ _ _ ((CU⊂((pv 1)∪As))⊆((@AY _ _ _ FX)∪Bp)) (@Av _ _ _ _ _ (2<$>(l<*((pv 0)*>((pv 1)*>Al)))) (@Av _ _ _ _ _ (@Hh _ _ _ _ _ _ _ _ (EV⊂((pv 1)∪As)) (@AY _ _ _ (2<$>(@Hg _ _ _ _ _ _ Iq (pv 2)))) Bp) (~~~(@Bq _ _ _ _ _ ((@AA _ _ _ _ _ _ _ _ La (pv 0) (pv 2))*>((@AA _ _ _ _ _ _ _ _ La (pv 1) (pv 2))*>Al)))))))),?_⟩;refine ⟨_,rfl,_,rfl,_,rfl,?_⟩;refine KD ?_;refine ⟨_,rfl,_,rfl,_,rfl,?_⟩;refine KD ?_;refine ⟨_,rfl,rfl,_,rfl,?_⟩;refine Jh (fun c=>Aw (V.int.inj (CK c)) b0) (fun _=>?_);refine ⟨_,rfl,_,rfl,t,b,rfl,?_⟩;refine ⟨fun σ' H'=>σ'=[Aa (.int t),Aa (.int b),Aa (.int (Dg t b))]/\H'=H,?_,?_⟩
 ·refine ⟨_,rfl,_,_,rfl,rfl,_,rfl,?_⟩;refine Jh (fun c=>?_) (fun c=>?_)
  ·have c':b < 0:=CK c;refine ⟨_,rfl,_,rfl,?_⟩;refine ⟨?_,rfl⟩;show [Aa (V.int t),Aa (V.int b),Aa (V.int (-(AW t b)))]=[Aa (V.int t),Aa (V.int b),Aa (V.int (Dg t b))];unfold Dg;rw [Ar c']
  ·have c':¬ b < 0:=fun e=>c (AT e);refine ⟨?_,rfl⟩;show [Aa (V.int t),Aa (V.int b),Aa (V.int (AW t b))]=[Aa (V.int t),Aa (V.int b),Aa (V.int (Dg t b))];unfold Dg;rw [Ao c']
 rintro σ' H' ⟨rfl,rfl⟩;have ne:=PR (t:=t) b0;refine ⟨_,rfl,_,rfl,_,_,rfl,rfl,⟨ne,szt⟩,_,rfl,_,rfl,_,_,rfl,rfl,⟨ne,szb⟩,(by show 2<=AB;decide),fun r hr'=>?_⟩;exact q r _ (AN hr' _) Az
theorem ok_a2 (T:Tx K mg base ad):AG P w K mg base CX0 2 ad.f_a2 ad.d_a2 ["free","many"] (TY 4500):=by
 exists a2
 obtain ⟨f,n,rfl,gf,fb,n1,n12,q⟩:=h;refine ⟨_,(@Av _ _ _ _ _ (2<$>(l<*((AX∩((pv 0)∪As))*>((pv 1)*>Al)))) (~~~(@Bq _ _ _ _ _ ((@AA _ _ _ _ _ _ _ _ EU (AX∩((pv 0)∪As)) (pv 2))*>((@AA _ _ _ _ _ _ _ _ Ck (AX∩((pv 0)∪As)) (@AA _ _ _ _ _ _ _ _ EU (pv 1) (pv 2)))*>Al))))),?_⟩;have szt:=fb.szt;have szb:=fb.szb
 have g0:AW f.2.1 (n:Ab)≠0:=by
  unfold AW;have:0 < Cw f.2.1 (n:Ab):=VQ _ (by omega);omega
 have gz:Sz 60 (AW f.2.1 (n:Ab)):=by
  show ((Cw f.2.1 (n:Ab):Ae):Ab).natAbs < _;rw [Ge];have:Cw f.2.1 (n:Ab)<=n:=W3 _ (by show 0 < (n:Ab).natAbs;omega);exact Dn this (Dn n12 (by decide))
 have nz:Sz 60 ((n:Ab).fdiv (AW f.2.1 (n:Ab))):=(show Sz 60 (n:Ab) from B_ (by omega) (by omega)).fdiv;have gf':H f.1=Aa (.tup [.int f.2.1,.int f.2.2]):=gf;symm;refine ⟨_,_,rfl,?_⟩;symm;refine ⟨⟨g0,gz.mono (by decide)⟩,?_⟩;symm;refine ⟨⟨g0,gz.mono (by decide)⟩,?_⟩;symm;refine ⟨(by show 2<=AB;decide),fun T hT=>?_⟩;exact q T _ hT (AN hT _) Az
theorem ok_ai (T:Tx K mg base ad):AG P w K mg base CX0 2 ad.f_ai ad.d_ai ["bottoms"] TQ:=by
 exists ai
 obtain ⟨d,ps,M,rfl,hd,tb,M0,Mz,l60,q⟩:=h;refine ⟨_,(@Av _ _ _ _ _ (1<$>As) (@Av _ _ _ _ _ (C4 Ci rfl (BV (AaO rfl (by rfl) T.z_cd (pv 0))) (B5 (i:=2) sc_ai.nd rfl (B2 rfl)) (@AY _ _ _ ((Jt⊂((@AA _ _ _ _ _ _ _ _ Dv (pv 1) (pv 2))∪As))⊆((@AY _ _ _ (1<$>(@AA _ _ _ _ _ _ _ _ Ck (pv 1) (@AA _ _ _ _ _ _ _ _ EU (pv 2) (l<*((pv 1)*>((pv 2)*>Al)))))))∪Bp)))) (~~~(pv 1)))),?_⟩;subst_eqs;refine ⟨d,CD ps,ps.map (·.1),rfl,.inl hd,(by unfold CD;rw [Bf,Bf];rfl),(by rw [At];omega),fun l ms pm _ hl=>?_⟩
 exists l,hl,H,(.lst (ms.map V.int)),H1,s1,e1
 have inm:∀b∈ms,∃q∈ps,q.1=b:=fun b k=>by
  obtain ⟨q,qm,e⟩:=mem_map.mp (pm.mem_iff.mp k);exact ⟨q,qm,e⟩
 have ml:ms.length<=60:=by rw [pm.length_eq,At];exact l60
 refine ⟨l,rfl,⟨_,SqL.of e1⟩,DC (xs:=ms.map V.int) (fun i σ' J=>Ex2 fun (c:Ab) (v2:A5 V)=>σ'=[Aa (.ref d),Aa (.int c),v2]/\J=H1/\0 < c/\(∀b∈ms.take i,b ∣ c)/\c ∣ M) ⟨1,Ai,rfl,rfl,(by decide),(fun _ m=>Aw m Bm),Int.one_dvd M⟩ (fun i σ' J _ hq_=>by obtain ⟨_,_,_,e,_⟩:=hq_;rw [e];exact SqL.of e1) ?_ ?_⟩
 ·rintro i x σ' J hx ⟨c,v2,rfl,rfl,c0,cd,csz⟩;obtain ⟨b,hb,rfl⟩:=E8 hx;have il:=(List.getElem?_eq_some_iff.mp hb).1;obtain ⟨q0,qm,e⟩:=inm b (Bt hb);have b0:0 < b:=by rw [<- e];exact (tb q0 qm).1
  have bM:b ∣ M:=by rw [<- e];exact (tb q0 qm).2
  have bsz:Sz 4500 b:=Gw bM M0 Mz;have csz':Sz 6100 c:=(Gw csz M0 Mz).mono (by decide);have tk:ms.take (i+1)=ms.take i++[b]:=by rw [Dk,hb];rfl
  obtain ⟨d1,d2,d3⟩:=Acj c0 b0
  have st:∀(v:A5 V),[Aa (V.ref d),Aa (.int (DU c b)),Aa (.int b)]=[Aa (V.ref d),Aa (.int (DU c b)),Aa (.int b)]/\J=J/\0 < DU c b/\(∀y∈ms.take (i+1),y ∣ DU c b)/\DU c b ∣ M:=fun _=>⟨rfl,rfl,d3,(fun y k=>by
   rw [tk] at k;rcases mem_append.mp k with k | k
   ·exact O2 (cd y k) d1
   ·rw [mem_singleton.mp k];exact d2),Aci c0 b0 csz bM⟩
  subst_eqs;refine ⟨(by show (_:Ab)≠0;omega),?_⟩;subst_eqs;by_cases c2:c.fmod b=0
  ·refine ifF (KU c2) ?_;have e2:DU c b=c:=by unfold DU;rw [Ao (fun h=>h c2)]
   obtain ⟨_,_,k3,k4,k5⟩:=st Ai;rw [e2] at k3 k4 k5;exact ⟨c,_,rfl,rfl,k3,k4,k5⟩
  ·refine ifT (KW c2) ?_;have e2:DU c b=c*b.fdiv (AW c b):=by unfold DU;rw [Ar c2]
   have g0:AW c b≠0:=by
    unfold AW;have:0 < Cw c b:=O4 _ (E_ c0);omega
   have gz:Sz 4500 (AW c b):=by
    show ((Cw c b:Ae):Ab).natAbs < _;rw [Ge];exact Dn (W3 _ (by omega)) bsz
   have bz:Sz 4500 (b.fdiv (AW c b)):=bsz.fdiv;subst_eqs;refine ⟨c,b,rfl,?_⟩;subst_eqs;refine ⟨⟨g0,gz.mono (by decide)⟩,?_⟩;obtain ⟨_,_,k3,k4,k5⟩:=st Ai;rw [e2] at k3 k4 k5;subst_eqs;exact ⟨k3,k4,k5⟩
 rintro σ' J ⟨c,v2,rfl,rfl,c0,cd,csz⟩;rw [At] at cd;rw [Cn (A1 _)] at cd;subst_eqs;refine (q c J s1 c0 (fun q0 k=>cd q0.1 (pm.mem_iff.mpr (mem_map.mpr ⟨q0,k,rfl⟩))) csz)
theorem ok_a9 (T:Tx K mg base ad):AG P w K mg base CX0 2 ad.f_a9 ad.d_a9 ["factor","one","other","above"] Ud:=by
 exists a9
 obtain ⟨f,p,r,x,y,ab,rfl,f1,f2,hp,hr0,z1,z2,z3,z4,q⟩:=h;refine ⟨_,(@Av _ _ _ _ _ (4<$>(@AA _ _ _ _ _ _ _ _ Ea (@AA _ _ _ _ _ _ _ _ Ck (AX∩((pv 1)∪As)) (AX∩((pv 2)∪As))) (@AA _ _ _ _ _ _ _ _ Ck (AX∩((pv 2)∪As)) (AX∩((pv 1)∪As))))) (@Av _ _ _ _ _ (5<$>(@AA _ _ _ _ _ _ _ _ Ck (@AA _ _ _ _ _ _ _ _ Ck (pv 0) (AX∩((pv 1)∪As))) (AX∩((pv 2)∪As)))) (~~~(G5 (@C5 _ _ _ (pv 3) (by intro _;rfl)) (@AA _ _ _ _ _ _ _ _ C3 (a1<*((pv 4)*>((pv 5)*>Al))) As) (bl<*((pv 4)*>((pv 5)*>Al))))))),?_⟩;have hp':H p=Aa (.tup [.int (pr x).1,.int (pr x).2]):=hp;have hr':H r=Aa (.tup [.int (pr y).1,.int (pr y).2]):=hr0;have szf:Sz 64 f:=B_ (by omega) (by omega);have pos:0 < f*(pr x).2*(pr y).2:=D1 (D1 (by omega) (Cf x)) (Cf y);have top:Sz 13500 ((pr x).1*(pr y).2 - (pr y).1*(pr x).2):=((z1.mul z4).sub (z3.mul z2)).mono (by decide);subst_eqs
 cases ab
 ·refine ifF rfl ?_;subst_eqs;refine ⟨_,_,rfl,pos,top,?_⟩;exact q _ (fun k=>QU (ab:=Aq) f1)
 ·refine ifT rfl ?_;subst_eqs;refine ⟨_,_,rfl,pos,top,?_⟩;subst_eqs;exact q _ (fun k=>QU (ab:=Af) f1)
theorem ok_t (T:Tx K mg base ad):AG P w K mg base CX0 2 ad.f_t ad.d_t ["thing"] Acb:=by
 refine T.F_t.ok sc_t (fun vs H Q E h=>?_) (fun cdv A outer s H vs Q E hr h=>?_)
 ·obtain ⟨n,rfl,_⟩:=h;rfl
 obtain ⟨n,rfl,n0,n1,q⟩:=h;refine ⟨_,(~~~(@Ft _ _ _ _ _ _ _ (x<*((pv 0)*>Al)) (@FT _ _ _ _ _ (RF Hd Hd As (pv 0) (Jw (v:=.int 12) rfl T.k_cq ⟨_,rfl⟩))))),?_⟩;refine ⟨_,rfl,n,rfl,?_⟩;symm;refine ifT (AT n0) ?_;symm;show Q (.bl (decide (n<=12))) H;rw [AT n1];exact q
theorem ok_u (T:Tx K mg base ad):AG P w K mg base CX0 2 ad.f_u ad.d_u ["thing"] Acf:=by
 refine T.F_u.ok sc_u (fun vs H Q E h=>?_) (fun cdv A outer s H vs Q E hr h=>?_)
 ·obtain ⟨n,rfl,_⟩:=h;rfl
 obtain ⟨n,rfl,n0,n1,q⟩:=h;refine ⟨_,(~~~(@Ft _ _ _ _ _ _ _ (x<*((pv 0)*>Al)) (@FT _ _ _ _ _ (RF Hd Hd As (pv 0) (Jw (v:=.int 60) rfl T.k_ct ⟨_,rfl⟩))))),?_⟩;refine ⟨_,rfl,n,rfl,?_⟩;symm;refine ifT (AT n0) ?_;symm;show Q (.bl (decide (n<=60))) H;rw [AT n1];exact q
theorem ok_k (T:Tx K mg base ad):AG P w K mg base CX0 2 ad.f_k ad.d_k ["thing","hands"] (Acd K):=by
 refine T.F_k.ok sc_k (fun vs H Q E h=>?_) (fun cdv A outer s H vs Q E hr h=>?_)
 ·obtain ⟨l,ns,n,rfl,_⟩:=h;rfl
 obtain ⟨l,ns,n,rfl,hl,pm,n12,q⟩:=h;refine ⟨_,(@Av _ _ _ _ _ ((@Es _ _ _ _ (@C5 _ _ _ (@B4 _ _ _ _ _ _ _ _ _ HR (by rfl) T.z_cc Hy ((pv 0)*>((Ig (v:=.ty "list") rfl T.z_b4 GM rfl)*>Al)) (by decide) (by decide) (by rfl) (by rfl)) (by intro _;rfl)))⊆((~~~Fu)∪Bp)) (~~~(@Ft _ _ _ _ _ _ _ (@B4 _ _ _ _ _ _ _ _ _ (Yi rfl) (by rfl) T.z_cu PyProof.Rows.boot_all ((DS (fsc:=A7 s_k) (N:=["thing","hands"]) (Nc:=["thing","hands","hand"]) rfl rfl (by nofun) rfl (BV (pv 0)) (fun _ _ _ _=>DD) (fun _ _ _ _=>(x<*((pv 2)*>Al))))*>Al) (by decide) (by decide) (by rfl) (by rfl)) (@FT _ _ _ _ _ (@Ep _ _ _ _ _ _ _ _ (Js (K:=K) hr.units) (@B4 _ _ _ _ _ _ _ _ _ Yn (by rfl) T.z_cd Mr ((pv 0)*>Al) (by decide) (by decide) (by rfl) (by rfl)) (NI rfl (by rfl) T.z_b4 (by rfl) T.z_b2 (pv 1)) (D_ _)))))),?_⟩;have nl:ns.length=n:=by rw [pm.length_eq,Vi]
 refine ⟨_,rfl,_,_,_,_,rfl,CS.lst hl,Zx,?_⟩;subst_eqs;refine ⟨⟨_,SqL.of hl⟩,?_⟩;refine FL (xs:=ns.map V.int) (by rw [At];exact C9 (by omega)) (fun D i ys H'=>ys=(Cy i Af).map V.bl/\H'=upd H D (.lst ys)) (fun D hD=>⟨rfl,rfl⟩) (fun D i ys H' hq_=>by obtain ⟨f1,f2⟩:=hq_;exact ⟨by rw [f2];exact Az,by rw [f1,At,FC];exact A1 _⟩) (fun D i ys H' hD hq_=>by obtain ⟨_,f2⟩:=hq_;rw [f2];exact SqL.of (AN hD _ _ _ hl)) ?_ ?_
 ·rintro D i x ys H' K1 K2 hD hx ⟨f1,rfl⟩ k1 k2;obtain ⟨z,hz,rfl⟩:=E8 hx;refine yes (ifT rfl ?_);refine ⟨_,rfl,z,rfl,?_⟩;refine k1 _ _ Az ⟨?_,by rw [DV]⟩;rw [f1,Om,AK];rfl
 ·rintro D ys H' hD ⟨rfl,rfl⟩;refine ⟨D,_,rfl,SqL.of Az,?_⟩;rw [show (Cy (ns.map V.int).length Af).all id=Af from all_eq_true.mpr fun b m=>(mem_replicate.mp m).2];have s1:=AN hD (.lst ((Cy (ns.map V.int).length Af).map V.bl));generalize upd H D (.lst ((Cy (ns.map V.int).length Af).map V.bl))=H1 at s1 ⊢;subst_eqs;refine ⟨l,ns,rfl,SqL.of (s1 _ _ hl),by omega,fun a ms pa sa ha=>?_⟩;have e:=Ac_ pa sa pm;subst e
  exists a,ha,H1,(.lst ((ups n).map V.int)),H2,s2,e2
  subst_eqs;refine ⟨by omega,fun b hb=>?_⟩;rw [<- Ada];have s3:=AN hb (.lst ((ups n).map V.int));refine ⟨.list ((ups n).map .int),.list ((ups n).map .int),.lst (SqL.of (s3 _ _ e2)) (.ints _),.lst (SqL.of Az) (.ints _),(Fy _).2,(Fy _).2,?_⟩;rw [show FH (.list ((ups n).map .int)) (.list ((ups n).map .int))=Af from by show Kd _ _=Af;rw [HX];exact AT rfl];exact q _ ((s1.trans s2).trans s3)
theorem ok_al (T:Tx K mg base ad):AG P w K mg base CX0 2 ad.f_al ad.d_al ["_law_cell_here","_law_hands"] Ug:=by
 exists al
 obtain ⟨c,h,rfl,szc,h1,h12,q⟩:=h;refine ⟨_,(@Av _ _ _ _ _ (2<$>(a8<*((pv 0)*>(As*>Al)))) (@Av _ _ _ _ _ (3<$>(NI rfl (by rfl) T.z_b4 (by rfl) T.z_b2 (pv 1))) (@Av _ _ _ _ _ (4<$>(@CV _ _ _ _ Al)) (@Av _ _ _ _ _ (C4 Ci rfl (FV rfl T.z_b2 ((pv 1)*>Al)) (B5 (i:=5) sc_al.nd rfl (B2 rfl)) (@Av _ _ _ _ _ (@CG _ _ _ _ (CN CP EJ PySem.F.type_list_append El (pv 4) ((CN CP WQ WS Rm (pv 3) ((@AA _ _ _ _ _ _ _ _ Dv (pv 2) (@AA _ _ _ _ _ _ _ _ Ea (pv 1) (pv 5)))*>Al))*>Al)) (by rfl)) (@AY _ _ _ (2<$>(@AA _ _ _ _ _ _ _ _ EU (pv 2) (@AA _ _ _ _ _ _ _ _ Ea (pv 1) (pv 5))))))) (~~~(pv 4)))))),?_⟩;obtain ⟨n,rfl⟩:∃n:Ae,h=(n:Ab):=⟨h.toNat,by omega⟩;refine ⟨_,rfl,c,5,rfl,szc,by decide,by decide,fun z z0 z1=>?_⟩;subst_eqs;refine ⟨by omega,fun l hl=>?_⟩;rw [show (FF (fun i:Ae=>V.int (i:Ab)) (Bo n))=(ups n).map V.int from (by unfold ups;rw [Bf];rfl)]
 exists l,hl,H,(.lst ((ups n).map V.int)),H1,s1,e1
 refine ⟨(by show 0<=AB;decide),fun lo hlo0=>?_⟩;have ll:l≠lo:=fun z=>by rw [<- z,e1] at hlo0;cases hlo0
 have hlo:H lo=Ai:=none_of s1 hlo0;have s2:=s1.trans (AN hlo0 (.lst []));have e2:(upd H1 lo (.lst [])) l=Aa (.lst ((ups n).map V.int)):=by rw [AF ll];exact e1
 have e3:(upd H1 lo (.lst [])) lo=Aa (.lst (([]:Ac Ab).map V.int)):=Az;generalize upd H1 lo (.lst [])=H2 at s2 e2 e3 ⊢;subst_eqs;refine ⟨by omega,by omega,Qu (fun i σ' H'=>Ex4 fun (v5:A5 V) (z:Ab) (left got:Ac Ab)=>σ'=[Aa (.int c),Aa (.int (n:Ab)),Aa (.int z),Aa (.ref l),Aa (.ref lo),v5]/\0<=z/\z < 10 ^ 31/\Ax H H'/\H' l=Aa (.lst (left.map V.int))/\H' lo=Aa (.lst (got.map V.int))/\left.length+i=n/\got.length=i/\(got++left).Perm (ups n)) ⟨Ai,z,ups n,[],rfl,z0,z1,s2,e2,e3,(by unfold ups;rw [At,D6];rfl),rfl,Hs _⟩ ?_ ?_⟩
 ·rintro i σ' H' hi ⟨v5,z,left,got,rfl,z0,z1,s3,f1,f2,f3,f4,f5⟩;have m:=Di z (show (0:Ab) < (n:Ab) - (0+(i:Ab)) by omega);subst_eqs;refine ⟨.inl ⟨rfl,_,SqL.of f2⟩,?_⟩;subst_eqs;refine ⟨.inl ⟨rfl,_,SqL.of f1⟩,?_⟩;subst_eqs;refine ⟨(by show (_:Ab)≠0;omega),?_⟩;dsimp only;generalize z.fmod ((n:Ab) - (0+(i:Ab)))=j' at m ⊢;obtain ⟨j,rfl⟩:∃j:Ae,j'=(j:Ab):=⟨j'.toNat,by omega⟩;have hj:j < left.length:=by omega
  refine ⟨l,_,_,j,V.int left[j],rfl,rfl,f1,by omega,by omega,AbN (by rw [At];exact hj),(by rw [Ba,Cm hj];rfl),?_⟩;have g2:(upd H' l (.lst ((left.map V.int).eraseIdx j))) lo=Aa (.lst (got.map V.int)):=by rw [AF (BF ll)];exact f2
  have g1:(upd H' l (.lst ((left.map V.int).eraseIdx j))) l=Aa (.lst ((left.eraseIdx j).map V.int)):=by rw [Az,Rc]
  have s4:=Bs (o:=.lst ((left.map V.int).eraseIdx j)) s3 hl;generalize upd H' l (.lst ((left.map V.int).eraseIdx j))=H4 at s4 g1 g2 ⊢;refine ⟨lo,_,_,rfl,rfl,g2,(by rw [At,f4];exact C8 (by omega)),?_⟩;have g1':(upd H4 lo (.lst (got.map V.int++[V.int left[j]]))) l=Aa (.lst ((left.eraseIdx j).map V.int)):=by rw [AF ll];exact g1
  have g2':(upd H4 lo (.lst (got.map V.int++[V.int left[j]]))) lo=Aa (.lst ((got++[left[j]]).map V.int)):=by rw [Az,AK];rfl
  have s5:=Bs (o:=.lst (got.map V.int++[V.int left[j]])) s4 hlo;generalize upd H4 lo (.lst (got.map V.int++[V.int left[j]]))=H5 at s5 g1' g2' ⊢;have lc:=ZJ (d:=(n:Ab) - (0+(i:Ab))) z0 (by omega) z1;subst_eqs;refine ⟨⟨by show (_:Ab)≠0;omega,(show Sz 64 ((n:Ab) - (0+(i:Ab))) from B_ (by omega) (by omega)).mono (by decide)⟩,?_⟩;exact ⟨_,_,_,_,rfl,lc.1,lc.2,s5,g1',g2',by rw [length_eraseIdx,Ar hj];omega,by rw [Bj,f4];rfl,YG (Cm hj) f5⟩
 ·rintro σ' H' ⟨v5,z,left,got,rfl,z0,z1,s3,f1,f2,f3,f4,f5⟩;rw [B7] at f3;have:left=[]:=length_eq_zero_iff.mp (by omega);rw [this,Ch] at f5;exact ⟨_,rfl,q lo got H' s3 f2 (by rw [B7];exact f5)⟩
theorem ok_m (T:Tx K mg base ad):AG P w K mg base CX0 2 ad.f_m ad.d_m ["_law_script","_law_lines","_law_most"] (U2 K):=by
 exists m
 obtain ⟨p,ns,m,most,rfl,hS,h63,m1,m6,mo1,mo9,q⟩:=h;refine ⟨_,(@Av _ _ _ _ _ (3<=<(@CV _ _ _ _ ((@Bq _ _ _ _ _ Al)*>((@Bq _ _ _ _ _ (As*>Al))*>((@Bq _ _ _ _ _ (As*>(As*>Al)))*>((@Bq _ _ _ _ _ (As*>Al))*>((@Bq _ _ _ _ _ (As*>(As*>Al)))*>((@Bq _ _ _ _ _ (As*>Al))*>Al)))))))) (@Av _ _ _ _ _ (4<=<(@AA _ _ _ _ _ _ _ _ Dv (a8<*((a7<*((pv 0)*>(As*>Al)))*>(As*>Al))) As)) (@Av _ _ _ _ _ (5<$>(@B4 _ _ _ _ _ _ _ _ _ (Yo hr.units) (by rfl) T.z_cd Mr ((DS (fsc:=A7 s_m) (N:=["_law_script","_law_lines","_law_most","_law_slips_here","_law_start","_law_some","_law_many","_law_k","_law_slip"]) (Nc:=["_law_script","_law_lines","_law_most","_law_slips_here","_law_start","_law_some","_law_many",".s7","_law_slip","_law_k"]) rfl rfl (by nofun) rfl (FV rfl T.z_b2 ((pv 1)*>Al)) (fun _ _ _ _=>DD) (fun _ _ _ _=>((QH K)∩((pv 3)∪(@AA _ _ _ _ _ _ _ _ Dv (@AA _ _ _ _ _ _ _ _ C3 (pv 4) (pv 9)) As)))))*>Al) (by decide) (by decide) (by rfl) (by rfl))) (@Av _ _ _ _ _ (6<=<NH) (@Av _ _ _ _ _ (C4 Ci rfl (FV rfl T.z_b2 ((@B4 _ _ _ _ _ _ _ _ _ (PV rfl) (by rfl) T.z_ch Mq ((pv 1)*>((@B4 _ _ _ _ _ _ _ _ _ (PX rfl) (by rfl) T.z_cl OS (As*>((@AA _ _ _ _ _ _ _ _ Ea (@B4 _ _ _ _ _ _ _ _ _ FK (by rfl) T.z_b9 Gi ((pv 0)*>Al) (by decide) (by decide) (by rfl) (by rfl)) As)*>Al)) (by decide) (by decide) (by rfl) (by rfl))*>Al)) (by decide) (by decide) (by rfl) (by rfl))*>Al)) (B5 (i:=7) sc_m.nd rfl (B2 rfl)) (@Av _ _ _ _ _ (8<$>(CM∩((pv 5)∪(@AA _ _ _ _ _ _ _ _ Dv (pv 7) (pv 1))))) (@AY _ _ _ (Jy (u1 hr.units) (pv 6) (pv 8) (@AA _ _ _ _ _ _ _ _ C3 (@AA _ _ _ _ _ _ _ _ C3 (Jv (u1 hr.units) (pv 6) (pv 8) As ⟨rfl,rfl,rfl,rfl⟩) As) (@AA _ _ _ _ _ _ _ _ Dv (@AA _ _ _ _ _ _ _ _ Dv (@AA _ _ _ _ _ _ _ _ C3 (@AA _ _ _ _ _ _ _ _ Ck (a7<*((pv 0)*>((@AA _ _ _ _ _ _ _ _ C3 As (pv 7))*>Al))) As) As) As) (pv 2))) rfl)))) (~~~(DS (fsc:=A7 s_m) (N:=["_law_script","_law_lines","_law_most","_law_slips_here","_law_start","_law_some","_law_many","_law_k","_law_slip"]) (Nc:=["_law_script","_law_lines","_law_most","_law_slips_here","_law_start","_law_some","_law_many","_law_k",".s8","_law_slip"]) rfl rfl (by nofun) rfl (BV (@B4 _ _ _ _ _ _ _ _ _ (PY rfl hr.units) (by rfl) T.z_cd Mr ((pv 6)*>Al) (by decide) (by decide) (by rfl) (by rfl))) (fun _ _ _ _=>DD) (fun _ _ _ _=>(@Bq _ _ _ _ _ ((pv 9)*>((Ju (u1 hr.units) (pv 6) (pv 9) (fun _ _=>rfl))*>Al))))))))))),?_⟩;have hl':(ns.map V.int).length=ns.length:=At _
 exists 0,t0,h0,H,(.tup []),H1,s0,e0,rfl
 subst_eqs
 exists 1,t1,h1,H1,(.tup [V.int 1]),H2,s1,e1,rfl
 subst_eqs
 exists 2,t2,h2,H2,(.tup [V.int 1,V.int 2]),H3,s2,e2,rfl
 subst_eqs
 exists 1,t3,h3,H3,(.tup [V.int 2]),H4,s3,e3,rfl
 subst_eqs
 exists 2,t4,h4,H4,(.tup [V.int 2,V.int 1]),H5,s4,e4,rfl
 subst_eqs
 exists 1,t5,h5,H5,(.tup [V.int 3]),H6,s5,e5,rfl
 subst_eqs
 exists 6,sl,hsl,H6,(.lst [V.ref t0,V.ref t1,V.ref t2,V.ref t3,V.ref t4,V.ref t5]),H7,s6,e6,rfl
 have w6:=s6;have w5:=s5.trans w6;have w4:=s4.trans w5;have w3:=s3.trans w4;have w2:=s2.trans w3;have w1:=s1.trans w2;have w0:=s0.trans w1;obtain ⟨zz,hzz⟩:∃zz:Ac (Ad × Ac Ab),zz=[(t0,[]),(t1,[1]),(t2,[1,2]),(t3,[2]),(t4,[2,1]),(t5,[3])]:=⟨_,rfl⟩
 have zok:∀z∈zz,H7 z.1=Aa (.tup (z.2.map V.int))/\z.2∈S6:=fun z m=>by
  rw [hzz] at m;simp only [Ef,Bm,Gm] at m;rcases m with rfl | rfl | rfl | rfl | rfl | rfl
  ·exact ⟨w1 _ _ e0,(by decide:([]:Ac Ab)∈S6)⟩
  ·exact ⟨w2 _ _ e1,(by decide:([1]:Ac Ab)∈S6)⟩
  ·exact ⟨w3 _ _ e2,(by decide:([1,2]:Ac Ab)∈S6)⟩
  ·exact ⟨w4 _ _ e3,(by decide:([2]:Ac Ab)∈S6)⟩
  ·exact ⟨w5 _ _ e4,(by decide:([2,1]:Ac Ab)∈S6)⟩
  ·exact ⟨w6 _ _ e5,(by decide:([3]:Ac Ab)∈S6)⟩
 have e6:H7 sl=Aa (.lst (zz.map fun z=>V.ref z.1)):=by rw [hzz];exact e6
 have zl:zz.length=6:=by rw [hzz];rfl
 clear hzz e0 e1 e2 e3 e4 e5 s0 s1 s2 s3 s4 s5 s6;subst_eqs;refine ⟨p,ns,1,rfl,w0.seq hS,h63,by decide,by decide,fun c c0 c1=>?_⟩;subst_eqs;refine ⟨c,30,rfl,Lo c0 c1,by decide,by decide,fun y y0 y1=>?_⟩;subst_eqs;have my:=Di y (show (0:Ab) < 6 by decide);dsimp only;generalize y.fmod 6=st at my ⊢;subst_eqs;refine ⟨by omega,by omega,?_⟩;rw [B7];refine GZ (C9 (by omega)) (fun D i ys J=>∃qs:Ac (Ad × Ac Ab),ys=(qs.map fun z=>V.ref z.1)/\qs.length=i/\J=upd H7 D (.lst ys)/\∀z∈qs,z∈zz) (fun D hD=>⟨[],rfl,rfl,rfl,fun _ m=>Aw m Bm⟩) (fun D i ys J hq_=>by obtain ⟨qs,f1,f2,f3,_⟩:=hq_;exact ⟨by rw [f3];exact Az,by rw [f1,At,f2];exact A1 _⟩) ?_ ?_
 ·rintro D i ys J K1 K2 hD hi ⟨qs,rfl,f2,rfl,f4⟩ kk1 kk2;refine yes (ifT rfl ?_);subst_eqs;have mi:=Di (st+(0+(i:Ab))) (show (0:Ab) < 6 by decide);obtain ⟨j,hj⟩:∃j:Ae,(st+(0+(i:Ab))).fmod 6=(j:Ab):=⟨((st+(0+(i:Ab))).fmod 6).toNat,by omega⟩;obtain ⟨z,ez⟩:∃z,zz[j]?=Aa z:=⟨_,Cm (by omega)⟩;refine ⟨sl,_,_,_,rfl,rfl,SqL.of (AN hD _ _ _ e6),(by show atI _ ((st+(0+(i:Ab))).fmod 6)=_;rw [hj];exact HQ (by rw [Ba,ez];rfl)),?_⟩;refine kk1 _ _ Az ⟨qs++[z],by rw [AK];rfl,by rw [Bj,f2];rfl,by rw [DV],fun x xm=>?_⟩;rcases mem_append.mp xm with xm | xm
  ·exact f4 x xm
  ·rw [mem_singleton.mp xm];exact Bt ez
 rintro D ys J hD ⟨qs,rfl,ql,rfl,qz⟩
 exists D,hD,H7,(.lst (qs.map fun z=>V.ref z.1)),H8,s8,e8
 refine ⟨D,qs,rfl,SqL.of e8,(fun z m=>SqT.of (s8 _ _ (zok z (qz z m)).1)),by omega,fun so rs pm _ hso=>?_⟩
 exists so,hso,H8,(.lst (rs.map fun q=>V.ref q.1)),H9,s9,e9
 have rok:∀z∈rs,H9 z.1=Aa (.tup (z.2.map V.int))/\z.2∈S6:=fun z m=>by
  have:=zok z (qz z (pm.mem_iff.mp m));exact ⟨(s8.trans s9) _ _ this.1,this.2⟩
 have rl:rs.length=m:=by rw [pm.length_eq,ql]
 have w9:=w0.trans (s8.trans s9);subst_eqs;intro d hd
 exists d,hd,H9,(.dT []),HA,sA,eA
 have hdH:=none_of w9 hd;have wA:=w9.trans sA;subst_eqs;refine ⟨p,_,rfl,.inl (wA.seq hS),?_⟩;subst_eqs;refine ⟨_,_,rfl,?_⟩;refine ⟨_,_,rfl,?_⟩
 have hM:(m:Ab)<=(if (if ((ns.map V.int).length:Ab) - 2 < 60 then ((ns.map V.int).length:Ab) - 2 else 60) > (m:Ab) then (if ((ns.map V.int).length:Ab) - 2 < 60 then ((ns.map V.int).length:Ab) - 2 else 60) else (m:Ab))/\(if (if ((ns.map V.int).length:Ab) - 2 < 60 then ((ns.map V.int).length:Ab) - 2 else 60) > (m:Ab) then (if ((ns.map V.int).length:Ab) - 2 < 60 then ((ns.map V.int).length:Ab) - 2 else 60) else (m:Ab))<=60:=by
  split <;> split at*<;> omega
 generalize (if (if ((ns.map V.int).length:Ab) - 2 < 60 then ((ns.map V.int).length:Ab) - 2 else 60) > (m:Ab) then (if ((ns.map V.int).length:Ab) - 2 < 60 then ((ns.map V.int).length:Ab) - 2 else 60) else (m:Ab))=M at hM ⊢;refine ⟨M,rfl,by omega,by omega,Qu (fun i σ' J=>Ex4 fun (v7 v8:A5 V) (ds:Ds) (kvs:Ac (Ac Key × V))=>σ'=[Aa (.ref p),Aa (.int (m:Ab)),Aa (.int most),Aa (.ref sl),Aa (.int st),Aa (.ref so),Aa (.ref d),v7,v8]/\Ax H J/\Ax H9 J/\J d=Aa (.dT kvs)/\DictOf ds kvs/\(∀q∈ds,q.1∈S6)/\ds.length=i/\∀q∈ds,1<=q.2/\q.2<=most) ⟨Ai,Ai,[],[],rfl,wA,sA,eA,DictOf.nil,(fun _ m=>Aw m Bm),rfl,(fun _ m=>Aw m Bm)⟩ ?_ ?_⟩
 ·rintro i σ' J hi ⟨v7,v8,ds,kvs,rfl,sJ,sJ1,eD,dk,sub,dl,po⟩;have my:=Di (0+(i:Ab)) (show (0:Ab) < (m:Ab) by omega);obtain ⟨j,hj⟩:∃j:Ae,(0+(i:Ab)).fmod (m:Ab)=(j:Ab):=⟨((0+(i:Ab)).fmod (m:Ab)).toNat,by omega⟩;obtain ⟨z,ez⟩:∃z,rs[j]?=Aa z:=⟨_,Cm (by omega)⟩;have zm:=Bt ez;refine ⟨_,rfl,?_⟩;subst_eqs;refine ⟨(by show (_:Ab)≠0;omega),?_⟩;refine ⟨so,_,_,_,rfl,rfl,SqL.of (sJ1 _ _ e9),(by rw [hj];exact HQ (by rw [Ba,ez];rfl)),?_⟩;have kt:J z.1=Aa (.tup ((z.2.map AH:Ac Key).map kV)):=by rw [G3];exact sJ1 _ _ (rok z zm).1
  have lim:=dk.len sub;subst_eqs;refine ⟨.inr ⟨_,.inl eD⟩,?_⟩;refine ⟨_,rfl,_,Df.t eD kt,?_⟩;rw [K_ dk];subst_eqs;refine ⟨p,ns,2+(0+(i:Ab)),rfl,sJ.seq hS,h63,by omega,by omega,fun c c0 c1=>?_⟩;have szc:=Lo c0 c1;subst_eqs;refine ⟨(by show (_:Ab)≠0;omega),?_⟩;dsimp only;have mr:=Di ((c*48271+5).fmod 1000000007) (show (0:Ab) < most by omega);generalize ((c*48271+5).fmod 1000000007).fmod most=y at mr ⊢;subst_eqs
  try dsimp only
  rw [VM];refine ⟨d,_,rfl,EM.t eD kt (C8 (by have:S6.length=6:=rfl;omega)),?_⟩;refine ⟨_,_,ds++[(z.2,1+y)],_,rfl,Bs sJ hdH,Bs sJ1 hd,Az,dk.put z.2 (1+y),fun q m=>?_,by rw [Bj,dl];rfl,fun q m=>?_⟩
  ·rcases mem_append.mp m with m | m
   ·exact sub q m
   ·rw [mem_singleton.mp m];exact (rok z zm).2
  ·rcases mem_append.mp m with m | m
   ·exact po q m
   ·rw [mem_singleton.mp m];exact ⟨by show 1<=1+y;omega,by show 1+y<=most;omega⟩
 rintro σ' J ⟨v7,v8,ds,kvs,rfl,sJ,sJ1,eD,dk,sub,dl,po⟩;have pos:Pos ds:=fun q m=>(po q m).1;have ne:ds≠[]:=fun z=>by rw [z] at dl;have:M.toNat=0:=dl.symm;omega
 have sb:Bw ds<=60*10 ^ 9:=by
  have a:=Acl fun q m=>(po q m).2;have b:(ds.length:Ab)*most<=60*most:=GF (by omega) (by omega);omega
 have fin:∀(D:Ad) (ms:Ls) (H2:Hp),J D=Ai->Ax J H2->H2 D=Aa (.lst (vls ms))->By H2 ms->DQ ds (Am ms)->ms.length < 64->Q (.ref D) H2:=fun D ms H2 hD s e g sh _=>by
  have k6:=sh.keys sub;have te:=sh.tot pos
  have se:Bw (Am ms)=Bw ds:=by
   rw [F1 k6,F1 sub];unfold fr;rw [te,te,te,te,te,te]
  have ml:=sh.len sub;refine q D ms H2 (none_of sJ hD) (sJ.trans s) e g k6 sh.pos (by unfold Am at ml;rw [At] at ml;exact ml) (fun z=>?_) ?_
  ·rw [z] at se;have:(0:Ab)=Bw ds:=se
   cases ds with
   | nil=>exact ne rfl
   | cons x r =>
     have a:=(Jp pos).2 x (AV ..);have b:=pos x (AV ..);have c:AZ (x :: r)=Bw (x :: r):=rfl;omega
  ·show Bw (Am ms) < _;rw [se];exact VR sb (by decide)
 have k64:=dk.len sub;have s66:S6.length=6:=rfl;obtain ⟨ks,k1,k2,knd,kmem⟩:=dk.vd.keys;subst_eqs;refine ⟨d,kvs,ks,rfl,.inl eD,k1,by omega,fun l2 rs r1 r2 r3 hl2=>?_⟩
 exists l2,hl2,J,(.lst (rs.map fun q=>V.ref q.1)),G1,sl,el
 have rl:rs.length=ks.length:=by
  have:=r2.length_eq;rw [At] at this;exact this
 have ov:∀r∈rs,A' kvs (r.2.map AH:Ac Key)=Aa (.int (EB kvs r.2)):=fun r m=>by
  obtain ⟨n,e⟩:=(kmem r.2).mp (r2.mem_iff.mp (mem_map.mpr ⟨r,m,rfl⟩));unfold EB;rw [e]
 refine ⟨l2,rfl,⟨_,SqL.of el⟩,?_⟩;refine FL (xs:=rs.map fun q=>V.ref q.1) (by rw [At];exact C9 (by omega)) (fun D i ys H2=>∃ms:Ls,ys=vls ms/\ms.length=i/\H2 D=Aa (.lst ys)/\Ax G1 H2/\By H2 ms/\Am ms=(rs.take i).map fun r=>(r.2,EB kvs r.2)) (fun D hD=>⟨[],rfl,rfl,Az,AN hD _,(fun _ m=>Aw m Bm),rfl⟩) (fun D i ys H2 hq_=>by obtain ⟨ms,f1,f2,f3,_⟩:=hq_;exact ⟨f3,by rw [f1,CI,f2];exact A1 _⟩) (fun D i ys H2 hD hq_=>by obtain ⟨ms,_,_,_,f4,_⟩:=hq_;exact SqL.of (f4 _ _ el)) ?_ ?_
 ·rintro D i x ys H2 K1 K2 hD hx ⟨ms,rfl,f2,f3,f4,f5,f6⟩ kk1 kk2;rw [Ba] at hx;obtain ⟨r,er,rfl⟩:=Option.map_eq_some_iff.mp hx;have rm:=Bt er;have et:rs.take (i+1)=rs.take i++[r]:=by rw [Me,er];rfl
  have sH:=sl.trans f4;have ek:=sH _ _ (r1 r rm);have dg:=Df.t (k:=(r.2.map AH:Ac Key)) (sH _ _ eD) (by rw [G3];exact ek);rw [ov r rm] at dg;refine yes (ifT rfl ?_);refine ⟨_,rfl,_,rfl,_,rfl,d,_,rfl,dg,(by show 2<=AB;decide),fun t ht=>?_⟩;have s6:=AN ht (.tup [V.ref r.1,V.int (EB kvs r.2)]);refine kk1 _ _ (s6 _ _ f3) ⟨ms++[(t,r.1,r.2,EB kvs r.2)],by rw [Vo];rfl,by rw [Bj,f2];rfl,Az,Bs (f4.trans s6) hD,?_,?_⟩
  ·refine By.upd (s6 _ _ f3) ((f5.same s6).append fun q m=>?_);rw [mem_singleton.mp m];exact ⟨Az,s6 _ _ ek⟩
  ·rw [Gv,f6,et,AK];rfl
 ·rintro D ys H2 hD ⟨ms,rfl,f2,f3,f4,f5,f6⟩;rw [At] at f2 f6;rw [OH] at f6;have rnd:(rs.map (·.2)).Nodup:=r2.nodup_iff.mpr knd
  have pv:∀(ts:Ac Ab) (n:Ab),A' kvs (ts.map AH)=Aa (.int n)->0 < n:=fun ts n e=>by
   rw [dk.val] at e;by_cases c:ts∈ds.map (·.1)
   ·rw [Ar c] at e;injection e with e
    injection e with e
    rw [<- e];exact Vd pos c
   ·rw [Ao c] at e
    cases e
  refine fin D ms H2 (none_of sl hD) (sl.trans f4) f3 f5 (dk.sheet pos ?_ (fun ts n=>?_)) (by omega)
  ·rw [f6,Md];have nd2:rs.Pairwise (fun x y=>x.2≠y.2):=pairwise_map.mp rnd;refine (r3.and nd2).imp fun hq_=>?_;obtain ⟨h1,h2⟩:=hq_;exact Nv h1 h2
  ·rw [f6]
   constructor
   ·intro m;obtain ⟨r,rm,e⟩:=mem_map.mp m;injection e with e1 e2
    subst e1;subst e2;exact ⟨ov r rm,pv _ _ (ov r rm)⟩
   ·rintro ⟨e,n0⟩;have tk:ts∈ks:=(kmem ts).mpr ⟨n,e⟩;obtain ⟨r,rm,rfl⟩:=mem_map.mp (r2.mem_iff.mpr tk);have o:=ov r rm;rw [e] at o;injection o with o
    injection o with o
    exact mem_map.mpr ⟨r,rm,by rw [<- o]⟩
theorem ok_bq (T:Tx K mg base ad):AG P w K mg base CX0 2 ad.f_bq ad.d_bq ["self","sheet"] (Us ad.c_c ad.c_b):=by
 exists bq
 obtain ⟨g,a,l,h,s',xs,ls,rfl,im,md,hl,gl,l60,q⟩:=h;refine ⟨_,(~~~(@Ft _ _ _ _ _ _ _ (@Ep _ _ _ _ _ _ _ _ FR (ah<*((pv 1)*>Al)) As (D_ _)) (@FT _ _ _ _ _ (@Ep _ _ _ _ _ _ _ _ FR (Be (Be (pv 0) rfl) rfl) (Be (Be (pv 0) rfl) rfl) (D_ _))))),?_⟩;symm;refine ⟨l,ls,rfl,hl,gl,by omega,fun H1 s1=>?_⟩;obtain ⟨dm,hg⟩:=id (im.same s1);obtain ⟨dx,la,k1,k2⟩:=id (md.same s1);symm;have q:=q H1 s1;by_cases c:0 < Bw (Am ls)
 ·rw [AT c,Bool.true_and] at q;refine ifT (AT c) ?_;symm;refine ⟨g,_,dm,_,_,rfl,hg,T.cl_c,T.na_c_b6,rfl,?_⟩;refine ⟨a,_,dx,_,_,rfl,k1,T.cl_b,T.na_b_b1,rfl,?_⟩;symm;refine ⟨g,_,dm,_,_,rfl,hg,T.cl_c,T.na_c_b6,rfl,?_⟩;refine ⟨a,_,dx,_,_,rfl,k1,T.cl_b,T.na_b_ce,rfl,?_⟩;symm;exact q
 ·rw [AS c,Iu] at q;exact ifF (AS c) q
theorem ok_bs (T:Tx K mg base ad):AG P w K mg base CX0 2 ad.f_bs ad.d_bs ["self","x","y"] U1:=by
 exists bs
 obtain ⟨g,x,y,rfl,y12,q⟩:=h;refine ⟨_,(~~~(@Bq _ _ _ _ _ ((bn<*(As*>((pv 2)*>Al)))*>Al))),?_⟩;symm;refine ⟨0,(y:Ab),rfl,by omega,by omega,?_⟩;refine ⟨(by show 1<=AB;decide),fun t ht=>?_⟩;refine q t _ ht (AN ht _) ?_;rw [Az,B7];show Aa (HO.tup [V.int (Iz 0 (1*2 ^ y))])=Aa (.tup [V.int (2 ^ y)]);rw [Aa4 y12]
theorem ok_ay (T:Tx K mg base ad):AG P w K mg base CX0 2 ad.f_ay ad.d_ay ["self","standing"] (T9 ad.c_b):=by
 exists ay
 obtain ⟨a,h,s,xs,m,rfl,is,x0,x12,q⟩:=h;refine ⟨_,(~~~(DS (fsc:=A7 NY) (N:=["self","standing"]) (Nc:=["self","standing","hand"]) rfl rfl (by nofun) rfl (BV (Be (pv 0) rfl)) (fun _ _ _ _=>(Fv (@C5 _ _ _ (a6<*((pv 1)*>((pv 2)*>Al))) (by intro _;rfl)))) (fun _ _ _ _=>(pv 2)))),?_⟩;obtain ⟨dx,l,k1,k2⟩:=is;refine ⟨_,rfl,a,_,dx,_,_,rfl,k1,T.cl_b,T.na_b_cg,rfl,?_⟩;refine ⟨l,rfl,⟨_,SqL.of k2⟩,?_⟩;have xl:(xs.map V.int).length=xs.length:=At ..;refine FL (xs:=xs.map V.int) (by rw [xl];exact C9 (by omega)) (fun D i ys J=>ys=(BR (xs.take i) m).map V.int/\J=upd H D (.lst ys)) (fun D hD=>⟨rfl,rfl⟩) (fun D i ys J hq_=>by obtain ⟨f1,f2⟩:=hq_;exact ⟨by rw [f2];exact Az,by rw [f1,At];exact BE (EH ..) (FD _ _)⟩) (fun D i ys J hD hq_=>by obtain ⟨_,f2⟩:=hq_;rw [f2];exact SqL.of (AN hD _ _ _ k2)) ?_ ?_
 ·rintro D i y ys J K1 K2 hD hy ⟨e,rfl⟩ kk1 kk2;obtain ⟨x,hx,rfl⟩:=E8 hy
  have tk:BR (xs.take (i+1)) m=BR (xs.take i) m++(if bit m x.toNat=Af then [x] else []):=by
   unfold BR;rw [Dk,hx,EG];show _++List.filter _ [x]=_;rw [Ht];rfl
  refine ⟨_,rfl,_,rfl,m,x,rfl,x0 x (Bt hx),_,rfl,?_⟩
  cases b:bit m x.toNat with
  | true =>
    refine ifT rfl ?_;rw [b,Ar rfl] at tk;refine ⟨_,rfl,kk1 _ _ Az ⟨?_,by rw [DV]⟩⟩;rw [tk,AK,e];rfl
  | false =>
    refine ifF rfl ?_;rw [b,Ao (by decide),Ch] at tk;exact kk2 _ ⟨by rw [tk];exact e,rfl⟩
 rintro D ys J hD ⟨rfl,rfl⟩;rw [xl,Cn (A1 _)];exact q D _ (AN hD _) Az
theorem ok_e (T:Tx K mg base ad):AG P w K mg base CX0 3 ad.f_e ad.d_e ["sheet","change"] TM:=by
 exists e
 obtain ⟨l,c,ls,rs,p,rfl,hl,gl,hc,gr,ok,kl,kr,p64,nn,q⟩:=h;refine ⟨_,(@Av _ _ _ _ _ (C4 Ci rfl (BV (pv 1)) (EC rfl (BY (B5 (i:=2) sc_e.nd rfl (B2 rfl)) (BY (B5 (i:=3) sc_e.nd rfl (B2 rfl)) (BY (B5 (i:=4) sc_e.nd rfl (B2 rfl)) ED)))) (@AY _ _ _ (@CG _ _ _ _ (a0<*((pv 2)*>((pv 3)*>((pv 4)*>Al)))) (by rfl)))) (@Av _ _ _ _ _ (5<$>(aa<*((pv 0)*>Al))) (@Av _ _ _ _ _ (C4 Ci rfl (BV (pv 1)) (EC rfl (BY (B5 (i:=2) sc_e.nd rfl (B2 rfl)) (BY (B5 (i:=3) sc_e.nd rfl (B2 rfl)) (BY (B5 (i:=4) sc_e.nd rfl (B2 rfl)) ED)))) (@AY _ _ _ (Jy (u1 hr.units) (pv 5) (pv 2) (@AA _ _ _ _ _ _ _ _ Ea (Jv (u1 hr.units) (pv 5) (pv 2) As ⟨rfl,rfl,rfl,rfl⟩) (pv 4)) rfl))) (@Av _ _ _ _ _ ((@C5 _ _ _ (@B4 _ _ _ _ _ _ _ _ _ (Yj rfl) (by rfl) T.z_cv PyProof.Rows.boot_any ((AaQ (DS (fsc:=A7 s_e) (N:=["sheet","change","old","new","number","left"]) (Nc:=["sheet","change","old","new",".s4","left","number"]) rfl rfl (by nofun) rfl (AaW (NF Ke PySem.F.slot_dict_values PySem.F.type_dict_values Aad (pv 5))) (fun _ _ _ _=>DD) (fun _ _ _ _=>(@Ep _ _ _ _ _ _ _ _ EV (pv 6) As (D_ _)))))*>Al) (by decide) (by decide) (by rfl) (by rfl)) (by intro _;rfl))⊆((@AY _ _ _ FX)∪Bp)) (@Av _ _ _ _ _ (C4 Ci rfl (BV (pv 1)) (EC rfl (BY (B5 (i:=2) sc_e.nd rfl (B2 rfl)) (BY (B5 (i:=3) sc_e.nd rfl (B2 rfl)) (BY (B5 (i:=4) sc_e.nd rfl (B2 rfl)) ED)))) (@AY _ _ _ (Jy (u1 hr.units) (pv 5) (pv 3) (@AA _ _ _ _ _ _ _ _ C3 (Jv (u1 hr.units) (pv 5) (pv 3) As ⟨rfl,rfl,rfl,rfl⟩) (pv 4)) rfl))) (~~~(ap<*((pv 5)*>Al)))))))),?_⟩;refine ⟨_,rfl,c,rfl,⟨_,SqL.of hc⟩,DC (xs:=vrs rs) (fun i σ' H'=>∃v2 v3 v4,σ'=[Aa (.ref l),Aa (.ref c),v2,v3,v4,Ai]/\H=H') ⟨Ai,Ai,Ai,rfl,rfl⟩ (fun i σ' H' _ hq_=>by obtain ⟨_,_,_,_,e⟩:=hq_;rw [<- e];exact SqL.of hc) ?_ ?_⟩
 ·rintro i x σ' H' hx ⟨v2,v3,v4,rfl,rfl⟩;obtain ⟨f,hf,rfl,fm,et⟩:=Og hx;obtain ⟨g1,g2,g3⟩:=gr f fm;obtain ⟨o1,o2⟩:=ok _ (Rg fm);refine ⟨f.1,_,rfl,SqT.of g1,rfl,_,_,rfl,_,_,rfl,_,_,rfl,rfl,?_⟩;refine ⟨_,rfl,_,rfl,_,rfl,f.2.1.1,f.2.2.1.1,f.2.1.2,f.2.2.1.2,f.2.2.2,rfl,g2,g3,o1,o2,?_⟩;exact ⟨_,_,_,rfl,rfl⟩
 rintro σ' H' ⟨v2,v3,v4,rfl,rfl⟩;refine ⟨_,rfl,l,ls,p,rfl,hl,gl,kl,p64,fun d kvs H1 hd s1 e1 dk=>?_⟩;have hc1:=s1 _ _ hc;refine ⟨_,rfl,c,rfl,⟨_,SqL.of hc1⟩,DC (xs:=vrs rs) (fun i σ' H'=>Ex4 fun (v2 v3 v4:A5 V) (kvs:Ac (Ac Key × V))=>σ'=[Aa (.ref l),Aa (.ref c),v2,v3,v4,Aa (.ref d)]/\Ax H H'/\H' d=Aa (.dT kvs)/\DictOf (Am ls++Dj (CW (rs.take i))) kvs) ⟨_,_,_,kvs,rfl,s1,e1,by rw [Ws];show DictOf (Am ls++[]) kvs;rw [Ch];exact dk⟩ (fun i σ' H' _ hq_=>by obtain ⟨_,_,_,_,_,e,_⟩:=hq_;exact SqL.of (e _ _ hc)) ?_ ?_⟩
 ·rintro i x σ' H' hx ⟨v2,v3,v4,kvs,rfl,s2,e2,dk⟩;obtain ⟨f,hf,rfl,fm,et⟩:=Og hx;obtain ⟨g1,g2,g3⟩:=gr f fm;have lim:=dk.len (p:=p) fun q m=>(mem_append.mp m).elim (kl q) (KF (QJ kr i) q);have kt:H' f.2.1.1=Aa (.tup ((f.2.1.2.map AH:Ac Key).map kV)):=by rw [G3];exact s2 _ _ g2
  refine ⟨f.1,_,rfl,SqT.of (s2 _ _ g1),rfl,_,_,rfl,_,_,rfl,_,_,rfl,rfl,?_⟩;refine ⟨_,rfl,d,rfl,.inr ⟨_,.inl e2⟩,_,rfl,_,Df.t e2 kt,?_⟩;rw [K_ dk];refine ⟨_,rfl,_,_,rfl,rfl,_,rfl,_,rfl,d,_,rfl,EM.t e2 kt (C8 (by omega)),?_⟩;refine ⟨_,_,_,_,rfl,Bs s2 hd,Az,?_⟩;rw [et,Sn,Aai,<- Ee];have:=dk.put f.2.1.2 (-f.2.2.2);rw [<- Int.sub_eq_add_neg] at this;exact this
 rintro σ' H2 ⟨v2,v3,v4,kvs,rfl,s2,e2,dk⟩;rw [Vp,Cn (A1 _)] at dk;have lim:=dk.len (p:=p) fun q m=>(mem_append.mp m).elim (kl q) (KF kr q);refine ⟨_,rfl,.inr (.inr (.inl ⟨rfl,.inr ⟨_,e2⟩⟩)),d,kvs,rfl,rfl,e2,fun v hv=>?_⟩
 exists v,hv,H2,(hoW v d),H3,s3,ev
 have e3:=s3 _ _ e2;refine ⟨v,d,kvs,rfl,ev,e3,fun ob fr=>?_⟩
 refine Yw (d:=d) (ob:=ob) (kvs:=kvs) (C9 (by omega)) (fun D i ys H'=>ys=(Cy i Aq).map V.bl/\H'=upd (upd H3 d (hoF d ob)) D (.lst ys)) (fun D hD=>⟨rfl,rfl⟩) (fun D i ys H' hq_=>by obtain ⟨f1,f2⟩:=hq_;exact ⟨by rw [f2];exact Az,by rw [f1,At,FC];exact A1 _⟩) (fun D i ys H' hD ⟨_,f2⟩=>by
  rw [f2,AF (fun z=>by rw [z,Az] at hD;cases hD),Az]) ?_ ?_
 ·rintro D i x ys H' K1 K2 hD hx ⟨f1,rfl⟩ k1 k2;obtain ⟨ts,rfl⟩:=dk.at hx;have n0:=nn ts;refine yes (ifT rfl ?_);subst_eqs;refine k1 _ _ Az ⟨?_,by rw [DV]⟩;have dn:decide (tot (Am ls++Dj (CW rs)) ts < 0)=Aq:=AS (by omega);rw [f1,Om,AK];show _++[V.bl (decide (tot (Am ls++Dj (CW rs)) ts < 0))]=_++[V.bl Aq];rw [dn]
 rintro D ys H' hD ⟨rfl,rfl⟩;have dD:d≠D:=fun z=>by rw [z,Az] at hD;cases hD
 refine ⟨d,ob,kvs,H3,by rw [AF dD,Az],fr,fun b xs e=>?_,?_⟩
 ·have bd:b≠d:=fun z=>by rw [z,e3] at e;cases e
  have bD:b≠D:=fun z=>by
   rw [AF (BF dD)] at hD;rw [z,hD] at e
   cases e
  rw [AF bD,AF bd];exact e
 have hDH:H D=Ai:=none_of (s2.trans s3) (by rw [AF (BF dD)] at hD;exact hD);have s4:Ax H (upd (upd (upd H3 d (hoF d ob)) D (.lst ((Cy kvs.length Aq).map V.bl))) d (.dT kvs)):=Bs (Bs (Bs (s2.trans s3) hd) hDH) hd;have e4:(upd (upd (upd H3 d (hoF d ob)) D (.lst ((Cy kvs.length Aq).map V.bl))) d (.dT kvs)) d=Aa (.dT kvs):=Az;have eD:(upd (upd (upd H3 d (hoF d ob)) D (.lst ((Cy kvs.length Aq).map V.bl))) d (.dT kvs)) D=Aa (.lst ((Cy kvs.length Aq).map V.bl)):=by rw [AF (BF dD),Az]
 generalize upd (upd (upd H3 d (hoF d ob)) D (.lst ((Cy kvs.length Aq).map V.bl))) d (.dT kvs)=H4 at s4 e4 eD ⊢;refine ⟨D,_,rfl,SqL.of eD,?_⟩
 rw [show (Cy kvs.length Aq).any id=Aq from Bool.eq_false_iff.mpr fun z=>by
  obtain ⟨b,bm,e⟩:=any_eq_true.mp z;rw [(mem_replicate.mp bm).2] at e
  cases e]
 refine ⟨_,rfl,?_⟩;refine KD ?_;refine ⟨_,rfl,c,rfl,⟨_,SqL.of (s4 _ _ hc)⟩,DC (xs:=vrs rs) (fun i σ' H'=>Ex4 fun (v2 v3 v4:A5 V) (kvs:Ac (Ac Key × V))=>σ'=[Aa (.ref l),Aa (.ref c),v2,v3,v4,Aa (.ref d)]/\Ax H H'/\H' d=Aa (.dT kvs)/\DictOf (Am ls++Dj (CW rs)++Er (CW (rs.take i))) kvs) ⟨_,_,_,kvs,rfl,s4,e4,by rw [Ws];show DictOf (Am ls++Dj (CW rs)++[]) kvs;rw [Ch];exact dk⟩ (fun i σ' H' _ hq_=>by obtain ⟨_,_,_,_,_,e,_⟩:=hq_;exact SqL.of (e _ _ hc)) ?_ ?_⟩
 ·rintro i x σ' H' hx ⟨v2,v3,v4,kvs,rfl,s2,e2,dk⟩;obtain ⟨f,hf,rfl,fm,et⟩:=Og hx;obtain ⟨g1,g2,g3⟩:=gr f fm;have lim:=dk.len (p:=p) fun q m=>(mem_append.mp m).elim (fun m=>(mem_append.mp m).elim (kl q) (KF kr q)) (QI (QJ kr i) q);have kt:H' f.2.2.1.1=Aa (.tup ((f.2.2.1.2.map AH:Ac Key).map kV)):=by rw [G3];exact s2 _ _ g3
  refine ⟨f.1,_,rfl,SqT.of (s2 _ _ g1),rfl,_,_,rfl,_,_,rfl,_,_,rfl,rfl,?_⟩;refine ⟨_,rfl,d,rfl,.inr ⟨_,.inl e2⟩,_,rfl,_,Df.t e2 kt,?_⟩;rw [K_ dk];refine ⟨_,rfl,_,_,rfl,rfl,_,rfl,_,rfl,d,_,rfl,EM.t e2 kt (C8 (by omega)),?_⟩;refine ⟨_,_,_,_,rfl,Bs s2 hd,Az,?_⟩;rw [et,Sn,AaY,<- Ee];exact dk.put f.2.2.1.2 f.2.2.2
 rintro σ' H5 ⟨v2,v3,v4,kvs,rfl,s5,e5,dk⟩;rw [Vp,Cn (A1 _)] at dk;have lim:=dk.len (p:=p) fun q m=>(mem_append.mp m).elim (fun m=>(mem_append.mp m).elim (kl q) (KF kr q)) (QI kr q);refine ⟨_,rfl,d,kvs,rfl,e5,dk.vd,by omega,fun l' ls' H6 hl' s6 e6 g6 srt mem l64=>?_⟩;exact q l' ls' H6 (none_of s5 hl') (s5.trans s6) e6 g6 (dk.sheet' srt mem) l64
theorem ok_ba (T:Tx K mg base ad):AG P w K mg base CX0 3 ad.f_ba ad.d_ba ["one","other"] (Lm K (fun t b u c=>t*c - u*b) (fun t b u c=>b*c)):=by
 exists ba
 obtain ⟨p,r,t,b,u,c,rfl,h1,h2,ne,st,sb,su,sc,q⟩:=h;refine ⟨_,(~~~(a4<*((@AA _ _ _ _ _ _ _ _ Ea (@AA _ _ _ _ _ _ _ _ Ck (AX∩((pv 0)∪As)) (AX∩((pv 1)∪As))) (@AA _ _ _ _ _ _ _ _ Ck (AX∩((pv 1)∪As)) (AX∩((pv 0)∪As))))*>((@AA _ _ _ _ _ _ _ _ Ck (AX∩((pv 0)∪As)) (AX∩((pv 1)∪As)))*>Al)))),?_⟩;symm;exact ⟨_,_,rfl,ne,((st.mul sc).sub (su.mul sb)).mono (by decide),(sb.mul sc).mono (by decide),fun z H' s' e'=>q z H' s' e'⟩
theorem ok_bj (T:Tx K mg base ad):AG P w K mg base CX0 3 ad.f_bj ad.d_bj ["one","other"] (Lm K (fun t b u c=>t*u) (fun t b u c=>b*c)):=by
 exists bj
 obtain ⟨p,r,t,b,u,c,rfl,h1,h2,ne,st,sb,su,sc,q⟩:=h;refine ⟨_,(~~~(a4<*((@AA _ _ _ _ _ _ _ _ Ck (AX∩((pv 0)∪As)) (AX∩((pv 1)∪As)))*>((@AA _ _ _ _ _ _ _ _ Ck (AX∩((pv 0)∪As)) (AX∩((pv 1)∪As)))*>Al)))),?_⟩;symm;exact ⟨_,_,rfl,ne,(st.mul su).mono (by decide),(sb.mul sc).mono (by decide),fun z H' s' e'=>q z H' s' e'⟩
theorem ok_bd (T:Tx K mg base ad):AG P w K mg base CX0 3 ad.f_bd ad.d_bd ["one","other"] (Lm K (fun t b u c=>t*c) (fun t b u c=>b*u)):=by
 exists bd
 obtain ⟨p,r,t,b,u,c,rfl,h1,h2,ne,st,sb,su,sc,q⟩:=h;refine ⟨_,(~~~(a4<*((@AA _ _ _ _ _ _ _ _ Ck (AX∩((pv 0)∪As)) (AX∩((pv 1)∪As)))*>((@AA _ _ _ _ _ _ _ _ Ck (AX∩((pv 0)∪As)) (AX∩((pv 1)∪As)))*>Al)))),?_⟩;symm;exact ⟨_,_,rfl,ne,(st.mul sc).mono (by decide),(sb.mul su).mono (by decide),fun z H' s' e'=>q z H' s' e'⟩
theorem ok_ar (T:Tx K mg base ad):AG P w K mg base CX0 3 ad.f_ar ad.d_ar ["slip","free","kept","standing"] (U5 4500):=by
 exists ar
 obtain ⟨sp,kl,h,ts,fr,ks,s,rfl,hT,gf,fb,hk,gk,ke,h12,l0,l1,win,wl12,q⟩:=h;refine ⟨_,(@Av _ _ _ _ _ (4<$>(@Hf _ _ _ _ _ _ _ _ _ HS (by rfl) T.z_b4 GM ((pv 2)*>Al) (by decide) (by decide) (by rfl) (by rfl))) (@Av _ _ _ _ _ (5<$>(n<*((am<*((pv 0)*>((pv 3)*>Al)))*>Al))) (@Av _ _ _ _ _ (((Js (K:=K) hr.units)⊂((pv 5)∪(@CV _ _ _ _ Al)))⊆((@Av _ _ _ _ _ (@CG _ _ _ _ (CN CP EJ PySem.F.type_list_append El (pv 4) ((pv 1)*>Al)) (by rfl)) (~~~(pv 4)))∪Bp)) (@Av _ _ _ _ _ (@CG _ _ _ _ (CN CP EJ PySem.F.type_list_append El (pv 4) ((@Bq _ _ _ _ _ (As*>(As*>Al)))*>Al)) (by rfl)) (@Av _ _ _ _ _ (6<$>(a2<*((pv 1)*>((@B4 _ _ _ _ _ _ _ _ _ FK (by rfl) T.z_b9 Gi ((pv 5)*>Al) (by decide) (by decide) (by rfl) (by rfl))*>Al)))) (@Av _ _ _ _ _ (C4 Ci rfl (BV (pv 5)) (B5 (i:=7) sc_ar.nd rfl (B2 rfl)) (@AY _ _ _ (RR (pv 6) (RM (pv 4) (pv 7) T2)))) (~~~(pv 4)))))))),?_⟩
 have p12:(2:Ab) ^ h<=4096:=by
  have:=GJ (show 0 < 2 by decide) h12
  exact_mod_cast this
 subst_eqs;intro r hr0
 exists r,hr0,H,(.lst (fqv ks)),H1,s1,e1
 subst_eqs;refine ⟨sp,ts,s,rfl,SqT.of (s1 _ _ hT),?_⟩;subst_eqs;refine ⟨l0,by omega,fun wl H2 hwl s2 e2=>?_⟩;have e2':H2 wl=Aa (.lst ((B9 ts s).map V.int)):=e2;have r2:=s2 _ _ e1;have s12:=s1.trans s2;generalize B9 ts s=wh at e2' win wl12 q;clear e2;have fl:(fqv ks).length=ks.length:=At ..;subst_eqs
 exists 0,e0,he0,H2,(.lst []),H3,s3,ee0,rfl
 have s13:=s12.trans s3;have r3:=s3 _ _ r2;have w3:=s3 _ _ e2';refine ⟨.list (wh.map .int),.list (([]:Ac Ab).map .int),.lst (SqL.of w3) (.ints _),.lst (SqL.of ee0) .nil,(Fy _).2,(Fy _).2,?_⟩;rw [show ∀x y:Ac Ab,FH (.list (x.map .int)) (.list (y.map .int))=decide (x=y) from fun x y=>HX x y];by_cases cw:wh=[]
 ·refine ⟨_,rfl,ifT (AT cw) ?_⟩;subst_eqs;refine ⟨.inl ⟨rfl,_,SqL.of r3⟩,?_⟩;subst_eqs;refine ⟨r,_,_,rfl,rfl,r3,(by rw [fl];exact Dn (show ks.length<=12 by omega) (by decide)),?_⟩;rw [show fqv ks++[V.ref fr.1]=fqv (ks++[fr]) from by unfold fqv;rw [AK];rfl];subst_eqs;refine (q r (ks++[fr]) _ hr0 (Bs s13 hr0) Az (fun f m=>FqG.upd ?_ r3) ?_)
  ·rcases mem_append.mp m with m | m
   ·exact (gk f m).same s13
   ·rw [mem_singleton.mp m];exact gf.same s13
  ·unfold G6;rw [Ar cw,AK];rfl
 refine ⟨_,rfl,ifF (AS cw) ?_⟩;have wl1:0 < wh.length:=length_pos_iff.mpr cw;subst_eqs;refine ⟨.inl ⟨rfl,_,SqL.of r3⟩,?_⟩;subst_eqs
 exists 2,z0,hz0,H3,(.tup [V.int 0,V.int 1]),H4,s4,e4,rfl
 have r4:=s4 _ _ r3;have s14:=s13.trans s4;refine ⟨r,_,_,rfl,rfl,r4,(by rw [fl];exact Dn (show ks.length<=12 by omega) (by decide)),?_⟩;rw [show fqv ks++[V.ref z0]=fqv (ks++[(z0,0,1)]) from by unfold fqv;rw [AK];rfl];have s15:Ax H (upd H4 r (.lst (fqv (ks++[(z0,0,1)])))):=Bs s14 hr0;have r5:(upd H4 r (.lst (fqv (ks++[(z0,0,1)])))) r=Aa (.lst (fqv (ks++[(z0,0,1)]))):=Az
 have w5:(upd H4 r (.lst (fqv (ks++[(z0,0,1)])))) wl=Aa (.lst (wh.map V.int)):=by
  rw [AF (fun z=>by rw [z,e1] at hwl;cases hwl)];exact s4 _ _ w3
 have g5:∀f∈ks++[(z0,0,1)],FqG (upd H4 r (.lst (fqv (ks++[(z0,0,1)])))) f:=fun f m=>FqG.upd (by
  rcases mem_append.mp m with m | m
  ·exact (gk f m).same s14
  ·rw [mem_singleton.mp m];exact e4) r4
 generalize upd H4 r (.lst (fqv (ks++[(z0,0,1)])))=H5 at s15 r5 w5 g5 ⊢;have wm:(wh.map V.int).length=wh.length:=At ..;subst_eqs;refine ⟨fr,wh.length,(by show [_,V.int ((wh.map V.int).length:Ab)]=_;rw [wm]),gf.same s15,fb,by omega,wl12,fun T H6 hT6 s6 e6=>?_⟩;have s16:=s15.trans s6;have r6:=s6 _ _ r5;have w6:=s6 _ _ w5;have wr:wl≠r:=fun z=>by rw [z,e1] at hwl;cases hwl
 subst_eqs;refine ⟨⟨_,SqL.of w6⟩,DC (xs:=wh.map V.int) (fun i σ' J=>Ex2 fun (fs:Ac Fq) (v7:A5 V)=>σ'=[Aa (.ref sp),Aa (.ref fr.1),Aa (.ref kl),Aa (.int s),Aa (.ref r),Aa (.ref wl),Aa (.ref T),v7]/\Ax H J/\J r=Aa (.lst (fqv fs))/\J wl=Aa (.lst (wh.map V.int))/\(∀f∈fs,FqG J f)/\fs.length=h+1/\fs.map (·.2)=(wh.take i).foldl (fun r x=>r.set x.toNat (BG fr.2 wh.length)) (ks.map (·.2)++[(0,1)])/\FqG J (T,BG fr.2 wh.length)) ⟨ks++[(z0,0,1)],Ai,rfl,s16,r6,w6,(fun f m=>(g5 f m).same s6),(by rw [Bj,ke];rfl),(by rw [AK];rfl),e6⟩ (fun i σ' J _ hq_=>by obtain ⟨_,_,_,_,_,e,_⟩:=hq_;exact SqL.of e) ?_ ?_⟩
 ·rintro i x σ' J hx ⟨fs,v7,rfl,sJ,rJ,wJ,gJ,lJ,vJ,pJ⟩;obtain ⟨y,hy,rfl⟩:=E8 hx;obtain ⟨y0,y1⟩:=win y (Bt hy);obtain ⟨j,rfl⟩:∃j:Ae,y=(j:Ab):=⟨y.toNat,by omega⟩;subst_eqs;refine ⟨r,_,_,j,rfl,rfl,rJ,QG (by unfold fqv;rw [At];omega),?_⟩;rw [show (fqv fs).set j (V.ref T)=fqv (fs.set j (T,BG fr.2 wh.length)) from Qy fs j (T,BG fr.2 wh.length)];refine ⟨fs.set j (T,BG fr.2 wh.length),_,rfl,Bs sJ hr0,Az,by rw [AF wr];exact wJ,(fun f m=>FqG.upd ?_ rJ),by rw [LZ];exact lJ,?_,FqG.upd pJ rJ⟩
  ·rcases Mb m with m | rfl
   ·exact gJ f m
   ·exact pJ
  ·rw [Dk,hy,JY,vJ];show _=List.foldl _ _ (_++[(j:Ab)]);rw [OA,Fb,foldl_nil,B7]
 rintro σ' J ⟨fs,v7,rfl,sJ,rJ,wJ,gJ,lJ,vJ,pJ⟩;rw [At,Cn (A1 _)] at vJ;subst_eqs;refine (q r fs J hr0 sJ rJ gJ ?_);unfold G6;rw [Ao cw];exact vJ
theorem ok_p (T:Tx K mg base ad):AG P w K mg base CX0 3 ad.f_p ad.d_p ["sheet","shares"] UF:=by
 exists p
 obtain ⟨l,sl,ls,fs,M,rfl,hl,gl,hs,gf',M0,Mz,le,l60,nz',q⟩:=h;refine ⟨_,(@Av _ _ _ _ _ (2<$>AaH) (@Av _ _ _ _ _ (C4 Ci rfl (Le rfl T.z_ck ((pv 0)*>((pv 1)*>Al))) (EC rfl (BY (B5 (i:=3) sc_p.nd rfl (B2 rfl)) (BY (B5 (i:=4) sc_p.nd rfl (B2 rfl)) ED))) (@AY _ _ _ ((Jt⊂((AX∩((pv 4)∪As))∪As))⊆((@AY _ _ _ (Jy (u1 hr.units) (pv 2) (AX∩((pv 4)∪As)) (@AA _ _ _ _ _ _ _ _ C3 (Jv (u1 hr.units) (pv 2) (AX∩((pv 4)∪As)) As ⟨rfl,rfl,rfl,rfl⟩) (@AA _ _ _ _ _ _ _ _ Ck (AX∩((pv 3)∪As)) (AX∩((pv 4)∪As)))) rfl))∪Bp)))) (@Av _ _ _ _ _ (5<=<(ai<*((pv 2)*>Al))) (~~~(a4<*((@B4 _ _ _ _ _ _ _ _ _ (K7 rfl) (by rfl) T.z_cj Ms ((AaR (Ih (fsc:=A7 s_p) (N:=["sheet","shares","tops","line","share","common"]) (Nc:=["sheet","shares","tops","line","share","common","bottom","top"]) rfl rfl ⟨rfl,by decide +kernel,by decide +kernel,by decide +kernel,by decide +kernel,rfl,by decide +kernel,rfl,by decide +kernel⟩ rfl (AaU (NF Ke PySem.F.slot_dict_items PySem.F.type_dict_items Aac (pv 2))) (fun _ _ _ _=>DD) (fun _ _ _ _=>(@AA _ _ _ _ _ _ _ _ Ck (pv 7) (@AA _ _ _ _ _ _ _ _ EU (pv 5) (pv 6))))))*>Al) (by decide) (by decide) (by rfl) (by rfl))*>((pv 5)*>Al))))))),?_⟩;have gf:∀f∈fs,FqG H f/\FqB 4500 f:=fun f m=>⟨(gf' f m).1,(gf' f m).2.fq M0 Mz⟩;have nz:∀q∈ls,Sz 64 q.2.2.2:=fun q m=>(nz' q m).2;have zl:(Cg ls fs).length=ls.length:=by unfold Cg;rw [At,GI,le,Mj]
 have fl:(fqv fs).length=fs.length:=At ..;subst_eqs;intro d hd
 exists d,hd,H,(.dK []),H0,s0,e0
 have inv0:∀φ,EE φ []=CO φ ((Cg ls fs).take 0):=fun φ=>rfl;subst_eqs;refine ⟨l,sl,rfl,⟨_,SqL.of (s0 _ _ hl)⟩,⟨_,SqL.of (s0 _ _ hs)⟩,?_⟩;refine Qw (xs:=vls ls) (ys:=fqv fs) (by rw [CI,fl,le]) (fun i σ' J=>Ex3 fun (v3 v4:A5 V) (ps:Ac (Ab × Ab))=>σ'=[Aa (.ref l),Aa (.ref sl),Aa (.ref d),v3,v4,Ai]/\Ax H J/\J d=Aa (.dK (CD ps))/\(ps.map (·.1)).Nodup/\ps.length<=i/\XO 4500 ps/\(∀q∈ps,q.1 ∣ M)/\(∀q∈ps,Sz (64+4500+i) q.2)/\(∀q∈ps,∃z∈(Cg ls fs).take i,z.2.1≠0/\z.2.2=q.1)/\(∀z∈(Cg ls fs).take i,z.2.1≠0->z.2.2∈ps.map (·.1))/\∀φ,EE φ ps=CO φ ((Cg ls fs).take i)) ⟨Ai,Ai,[],rfl,s0,e0,Fc,A1 _,⟨(fun _ m=>Aw m Bm),fun _ m=>Aw m Bm⟩,(fun _ m=>Aw m Bm),(fun _ m=>Aw m Bm),(fun _ m=>Aw m Bm),(fun _ m=>Aw m Bm),inv0⟩ (fun i σ' J _ hq_=>by obtain ⟨_,_,_,_,e,_⟩:=hq_;exact ⟨SqL.of (e _ _ hl),SqL.of (e _ _ hs)⟩) ?_ ?_
 ·rintro i x y T σ' J hx hy ⟨v3,v4,ps,rfl,sJ,ed,nd,pl,tb,tm,pz,pin,inp,sm⟩ hT;obtain ⟨f,hf,rfl,fm,et⟩:=F3 hx;unfold fqv at hy;rw [Ba] at hy;obtain ⟨g,hg,rfl⟩:=Option.map_eq_some_iff.mp hy;obtain ⟨gg,gb⟩:=gf g (Bt hg);have il:=(List.getElem?_eq_some_iff.mp hf).1
  have wz:(Cg ls fs).take (i+1)=(Cg ls fs).take i++[(f.2.2.2,g.2.1,g.2.2)]:=by
   have:(Cg ls fs)[i]?=Aa (f.2.2.2,g.2.1,g.2.2):=by
    unfold Cg;rw [Ba,show (ls.zip fs)[i]?=Aa (f,g) from List.getElem?_zip_eq_some.mpr ⟨hf,hg⟩];rfl
   rw [Dk,this];rfl
  exists T,hT,J,(.tup [V.ref f.1,V.ref g.1]),J1,s1,e1
  have sJ1:=sJ.trans s1;have g1:J1 g.1=Aa (.tup [.int g.2.1,.int g.2.2]):=sJ1 _ _ gg;have f1:=sJ1 _ _ (gl f fm).1;have ed1:=s1 _ _ ed;have nf:=nz f fm;have szt:=gb.szt;refine ⟨T,_,rfl,SqT.of e1,rfl,_,_,rfl,_,_,rfl,rfl,?_⟩;subst_eqs;by_cases c:g.2.1=0
  ·refine ifF (KU c) ?_;refine ⟨_,_,ps,rfl,sJ1,ed1,nd,W4 pl,tb,tm,(fun q m=>(pz q m).mono (by omega)),(fun q m=>?_),(fun z m ne=>?_),fun φ=>?_⟩
   ·obtain ⟨z,zm,zz⟩:=pin q m;exact ⟨z,by rw [wz];exact CB _ zm,zz⟩
   ·rw [wz] at m;rcases mem_append.mp m with m | m
    ·exact inp z m ne
    ·rw [mem_singleton.mp m] at ne;exact Aw c ne
   ·rw [wz,Vy,sm φ,Ar c,GD]
  refine ifT (KW c) ?_;subst_eqs;refine ⟨.inl ⟨_,.inl ed1⟩,?_⟩;subst_eqs;refine ⟨_,Df.k (k:=(AH g.2.2:Key)) ed1,?_⟩;rw [Qn,Ade];subst_eqs;refine ⟨d,_,rfl,EM.k (k:=AH g.2.2) ed1 (by unfold CD;rw [At];exact Dn pl (B' il (BE l60 (by decide)))),?_⟩;dsimp only;rw [YD]
  have old:Sz (64+4500+i) ((DW ps g.2.2).getD 0):=by
   cases e:DW ps g.2.2 with
   | none=>show (0:Ab).natAbs < _;exact Nat.pow_pos (by decide)
   | some v=>exact pz _ (Adb e)
  refine ⟨_,_,Eb ps g.2.2 ((DW ps g.2.2).getD 0+f.2.2.2*g.2.1),rfl,Bs sJ1 hd,Az,Abq nd,BE (Abp ..) (IK pl),⟨fun q m=>?_,fun q m=>?_⟩,(fun q m=>?_),(fun q m=>?_),(fun q m=>?_),(fun z m ne=>?_),fun φ=>?_⟩
  ·rcases J0 m with m | rfl
   ·exact tb.b0 q m
   ·exact gb.b0
  ·rcases J0 m with m | rfl
   ·exact tb.szb q m
   ·exact gb.szb
  ·rcases J0 m with m | rfl
   ·exact tm q m
   ·exact (gf' g (Bt hg)).2.dv
  ·rcases J0 m with m | rfl
   ·exact (pz q m).mono (by omega)
   ·exact (old.add (nf.mul szt)).mono (by omega)
  ·rcases J0 m with m | rfl
   ·obtain ⟨z,zm,zz⟩:=pin q m;exact ⟨z,by rw [wz];exact CB _ zm,zz⟩
   ·exact ⟨(f.2.2.2,g.2.1,g.2.2),by rw [wz];exact B8 _ (mem_singleton.mpr rfl),c,rfl⟩
  ·rw [wz] at m;rcases mem_append.mp m with m | m
   ·exact Abs (inp z m ne)
   ·rw [mem_singleton.mp m];exact Abr
  ·rw [wz,Vy,Abg φ _ _ nd,sm φ,Ao c]
 rintro σ' J ⟨v3,v4,ps,rfl,sJ,ed,nd,pl,tb,tm,pz,pin,inp,sm⟩;rw [CI] at pl pz pin inp sm;rw [<- zl,Cn (A1 _)] at pin inp sm;subst_eqs;refine ⟨d,ps,M,rfl,ed,(fun q m=>⟨tb.b0 q m,tm q m⟩),M0,Mz,by omega,fun D J1 j1 D0 Dd Dm=>?_⟩;have Dz:=Gw Dm M0 Mz;have sJ1:=sJ.trans j1;have ed1:=j1 _ _ ed;subst_eqs;refine ⟨.inr (.inr (.inl ⟨rfl,.inl ⟨_,ed1⟩⟩)),?_⟩;refine ⟨d,_,rfl,rfl,ed1,fun v hv=>?_⟩
 exists v,hv,J1,(hoI v d),J2,j2,e2
 have sJ2:=sJ1.trans j2;have ed2:=j2 _ _ ed1;refine ⟨v,d,_,rfl,e2,ed2,fun ob fo=>?_⟩;have sF:Ax H (upd J2 d (hoF d ob)):=Bs sJ2 hd;have eF:(upd J2 d (hoF d ob)) d=Aa (hoF d ob):=Az;generalize upd J2 d (hoF d ob)=J3 at sF eF ⊢;have szD:Sz 6100 D:=Dz.mono (by decide);refine Yu (d:=d) (ob:=ob) (kvs:=CD ps) rfl rfl (by rw [Qm];exact C9 (by omega)) (fun C i ys J=>ys=((ps.take i).map fun q=>q.2*D.fdiv q.1).map V.int/\J C=Aa (.lst ys)/\Ax J3 J) (fun C hC=>⟨rfl,Az,AN hC _⟩) (fun C i ys J hq_=>by obtain ⟨f1,f2,_⟩:=hq_;exact ⟨f2,by rw [f1,At,At];exact FD _ _⟩) (fun C i ys J hC hq_=>by obtain ⟨_,_,f3⟩:=hq_;exact f3 _ _ eF) ?_ ?_
 ·rintro C i k y T ys J K1 K2 hC hkv ⟨rfl,n1,n2⟩ hT kk1 kk2;obtain ⟨q0,hq0,rfl,rfl⟩:=YC hkv;have qm:=Bt hq0;have b0:=tb.b0 q0 qm;have bz:Sz 9000 q0.1:=(tb.szb q0 qm).mono (by decide);have tz:Sz 4700 q0.2:=(pz q0 qm).mono (by omega);have dz:Sz 6100 (D.fdiv q0.1):=szD.fdiv;have s1:=AN hT (.tup [kV (AH q0.1),V.int q0.2]);generalize upd J T (.tup [kV (AH q0.1),V.int q0.2])=J4 at s1 ⊢;have n1':=s1 _ _ n1;refine yes (ifT rfl ?_);refine ⟨_,rfl,_,rfl,_,rfl,_,_,rfl,rfl,⟨by omega,bz⟩,?_⟩;refine ⟨_,_,rfl,rfl,Aae tz dz,?_⟩;refine kk1 _ _ n1' ⟨?_,Az,Bs (n2.trans s1) hC⟩;rw [Dk,hq0,AK,AK];rfl
 rintro C ys J4 hC ⟨rfl,n1,n2⟩;rw [Qm,Cn (A1 _)] at n1;have Cd:C≠d:=fun z=>by rw [z,eF] at hC;cases hC
 refine ⟨d,ob,CD ps,n2 _ _ eF,fo,?_⟩;have sG:Ax H (upd J4 d (.dK (CD ps))):=Bs (sF.trans n2) hd;have eG:(upd J4 d (.dK (CD ps))) C=Aa (.lst ((ps.map fun q=>q.2*D.fdiv q.1).map V.int)):=by rw [AF Cd];exact n1
 generalize upd J4 d (.dK (CD ps))=J5 at sG eG ⊢;refine ⟨C,_,rfl,SqL.of eG,?_⟩
 have szS:Sz 13500 (ps.map fun q=>q.2*D.fdiv q.1).sum:=(N' (n:=4700+6100) fun x m=>by
  obtain ⟨q0,qm,rfl⟩:=mem_map.mp m;exact ((pz q0 qm).mono (show _<=4700 by omega)).mul szD.fdiv).mono (by rw [At];omega)
 have eS:(ps.map fun q=>q.2*D.fdiv q.1).sum=CO (fun b=>D.fdiv b) (Cg ls fs):=sm fun b=>D.fdiv b;subst_eqs;refine ⟨_,D,rfl,by omega,szS,szD.mono (by decide),fun T H' s' e'=>?_⟩;rw [eS] at e'
 have dvd:BL (CO (fun b=>D.fdiv b) (Cg ls fs)) D ∣ M:=by
  obtain ⟨g,g0,h1,h2⟩:=Jn (v:=CO (fun b=>D.fdiv b) (Cg ls fs)) D0;exact O2 ⟨g,h2⟩ Dm
 exact q T (BN (CO (fun b=>D.fdiv b) (Cg ls fs)) D,BL (CO (fun b=>D.fdiv b) (Cg ls fs)) D) H' (sG.trans s') ⟨⟨D,D0,(fun z zm zn=>by
  obtain ⟨q0,qm,e⟩:=mem_map.mp (inp z zm zn);rw [<- e];exact Dd q0 qm),rfl⟩,dvd⟩ e'
theorem ok_bf (T:Tx K mg base ad):AG P w K mg base CX0 3 ad.f_bf ad.d_bf ["slip","free","standing","hand"] (Uy 4500):=by
 exists bf
 obtain ⟨sp,h,hd,ts,fr,s,rfl,hT,gf,fb,h12,hh,li,q⟩:=h;refine ⟨_,(@Av _ _ _ _ _ (4<$>(am<*((pv 0)*>((pv 2)*>Al)))) (@Av _ _ _ _ _ ((@Es _ _ _ _ (@C5 _ _ _ (a6<*((pv 4)*>((pv 3)*>Al))) (by intro _;rfl)))⊆((~~~(@Bq _ _ _ _ _ (As*>(As*>Al))))∪Bp)) (~~~(a2<*((pv 1)*>((ac<*((pv 4)*>Al))*>Al)))))),?_⟩;obtain ⟨l0,l1,_,_⟩:=id li
 have p12:(2:Ab) ^ h<=4096:=by
  have:=GJ (show 0 < 2 by decide) h12
  exact_mod_cast this
 symm;refine ⟨sp,ts,s,rfl,SqT.of hT,?_⟩;symm;refine ⟨CF ts s,(hd:Ab),rfl,by omega,?_⟩;rw [B7];by_cases c:bit (CF ts s) hd=Af
 ·have e:DF ts s hd fr.2=BG fr.2 (B9 ts s).length:=by unfold DF;rw [Ar c]
  rw [c];symm;refine ⟨l0,by omega,fun H1 s1=>?_⟩;have wm:((hd:Ae):Ab)∈B9 ts s:=E7.mpr ⟨hd,by omega,c,rfl⟩;have n1:1<=(B9 ts s).length:=IF wm;have n12:(B9 ts s).length<=12:=FP ..;symm;exact ⟨fr,(B9 ts s).length,rfl,gf.same s1,fb,n1,n12,fun a H' _ s2 e2=>q a H' (s1.trans s2) (by rw [e];exact e2)⟩
 ·have e:DF ts s hd fr.2=(0,1):=by unfold DF;rw [Ao c]
  rw [Bool.not_eq_true] at c;rw [c];symm;refine ⟨(by show 2<=AB;decide),fun a ha=>?_⟩;exact q a _ (AN ha _) (by rw [e];exact Az)
theorem ok_an (T:Tx K mg base ad):AG P w K mg base CX0 3 ad.f_an ad.d_an ["way","quota","sums","standing","hand"] (NZ ad.c_b Af):=by
 exists an
 obtain ⟨a,l,h,s,xs,m,qu,hd,fs,su,rfl,is,sg,m0,m1,bh,hd12,all,q1,szq,q⟩:=h;refine ⟨_,(@Av _ _ _ _ _ (5<$>(@CV _ _ _ _ (As*>((a9<*(As*>((@Bq _ _ _ _ _ ((pv 1)*>(As*>Al)))*>((CM∩((pv 2)∪(pv 4)))*>(Fu*>Al)))))*>Al)))) (@Av _ _ _ _ _ (C4 Ci rfl (BV (n<*((bo<*((pv 3)*>((pv 4)*>Al)))*>Al))) (B5 (i:=6) sc_an.nd rfl (B2 rfl)) (@AY _ _ _ (@CG _ _ _ _ (CN CP EJ PySem.F.type_list_append El (pv 5) ((a9<*(As*>((CM∩((pv 2)∪(pv 6)))*>((CM∩((pv 2)∪(pv 4)))*>(((pv 0)=<<(b.cy.bz>=>((pv 6)*>((pv 4)*>Al))))*>Al)))))*>Al)) (by rfl)))) (~~~(@B4 _ _ _ _ _ _ _ _ _ (PU rfl) (by rfl) T.z_ch Mq ((pv 5)*>Al) (by decide) (by decide) (by rfl) (by rfl))))),?_⟩;subst_eqs
 exists 2,t1,ht1,H,(.tup [V.int qu,V.int 1]),H1,s1,e1,rfl
 obtain ⟨am,x1,x2,x3,x4⟩:=(sg.same s1).at (all hd bh).2;have l1:=s1 _ _ sg.l;subst_eqs;refine ⟨l,_,_,_,rfl,rfl,SqL.of l1,x1,?_⟩;subst_eqs;refine ⟨1,t1,am,(qu:Ap),at0 su hd,Aq,rfl,by decide,by decide,e1,x2,szq.mono (by decide),(B_ (by decide) (by decide):Sz 64 (1:Ab)).mono (by decide),x3,x4,fun z hz=>?_⟩;have hz:=fun kk=>(hz kk).trans (show _↔(qu:Ap)<=at0 su hd+((1*kk:Ab):Ap) by rw [Ao (by decide)]);refine ⟨(by show 2<=AB;decide),fun nd' hnd=>?_⟩;have hn:H nd'=Ai:=none_of s1 hnd;have sN:=s1.trans (AN hnd (.lst [V.int 0,V.int z]));have eN:(upd H1 nd' (.lst [V.int 0,V.int z])) nd'=Aa (.lst ([0,z].map V.int)):=Az;generalize upd H1 nd' (.lst [V.int 0,V.int z])=H2 at sN eN ⊢;subst_eqs;refine ⟨m,(hd:Ab),rfl,by omega,by omega,?_⟩;rw [B7,H_,Ar bh,EF];obtain ⟨lm0,lb,ll⟩:=Jl m0 bh hd12;have p0:(0:Ab) < 2 ^ hd:=ID (by decide);subst_eqs;refine ⟨lm0,by omega,fun mp H3 hmp s23 e3=>?_⟩;have om:=fun y=>R7 (y:=y) m0 bh hd12;have ol:=FP 12 (bit (m - 2 ^ hd));generalize hands 12 (bit (m - 2 ^ hd))=os at e3 om ol;have e23:=s23 _ _ eN;have mn:mp≠nd':=fun z=>by rw [z,eN] at hmp;cases hmp
 refine ⟨mp,rfl,⟨_,SqL.of e3⟩,DC (xs:=os.map V.int) (fun i σ' H'=>Ex2 fun (v6:A5 V) (zs:Ac Ab)=>σ'=[Aa (.ref a),Aa (.int qu),Aa (.ref l),Aa (.int m),Aa (.int (hd:Ab)),Aa (.ref nd'),v6]/\Ax H H'/\H' mp=Aa (.lst (os.map V.int))/\H' nd'=Aa (.lst (([0,z]++zs).map V.int))/\zs.length=i/\(∀kk:Ab,(∀z∈zs,z<=kk)↔∀y∈os.take i,if xs.idxOf y < xs.idxOf (hd:Ab) then at0 su y < at0 su hd+((2*kk:Ab):Ap) else at0 su y<=at0 su hd+((2*kk:Ab):Ap))) ⟨_,[],rfl,sN.trans s23,e3,(by rw [e23,Ch]),rfl,fun _=>⟨(fun _ _ m=>nomatch m),(fun _ _ m=>nomatch m)⟩⟩ (fun i σ' H' _ hq_=>by obtain ⟨_,_,_,_,e,_⟩:=hq_;exact SqL.of e) ?_ ?_⟩
 ·rintro i y σ' H' hy ⟨v6,zs,rfl,s4,f1,f2,zl,zc⟩;obtain ⟨y,hz,rfl⟩:=E8 hy;have hi:i < os.length:=(List.getElem?_eq_some_iff.mp hz).1;obtain ⟨j,rfl,j12,bj,jn⟩:=(om y).mp (Bt hz);obtain ⟨ay,u1,u2,u3,u4⟩:=(sg.same s4).at (all j bj).2;obtain ⟨am,x1,x2,x3,x4⟩:=(sg.same s4).at (all hd bh).2;have l4:=s4 _ _ sg.l;have et:os.take (i+1)=os.take i++[(j:Ab)]:=by rw [Dk,hz];rfl
  obtain ⟨dx,la,k1,k2⟩:=id is;subst_eqs;refine ⟨.inl ⟨rfl,_,SqL.of f2⟩,?_⟩;subst_eqs;refine ⟨l,_,_,_,rfl,rfl,SqL.of l4,u1,?_⟩;subst_eqs;refine ⟨l,_,_,_,rfl,rfl,SqL.of l4,x1,?_⟩;subst_eqs;refine ⟨a,dx,_,rfl,s4 _ _ k1,rfl,?_⟩;subst_eqs;refine ⟨a,h,s,xs,(j:Ab),(hd:Ab),rfl,is.same s4,(all j bj).1,(all hd bh).1,?_⟩;refine ⟨2,ay,am,at0 su j,at0 su hd,_,rfl,by decide,by decide,u2,x2,u3,u4,x3,x4,fun z hz0=>?_⟩;refine ⟨nd',_,_,rfl,rfl,f2,(by rw [At,Bj];exact C8 (by show 2+zs.length<=1000;omega)),?_⟩;refine ⟨_,zs++[z],rfl,Bs s4 hn,by rw [AF mn];exact f1,(by rw [Az,<- Ee,AK (l₂:=[z])];rfl),by rw [Bj,zl];rfl,?_⟩;intro kk;rw [et]
  constructor
  ·intro k y ym;rcases mem_append.mp ym with ym | ym
   ·exact (zc kk).mp (fun w wm=>k w (CB _ wm)) y ym
   ·rw [mem_singleton.mp ym];have:=(hz0 kk).mp (k z (B8 _ (mem_singleton.mpr rfl)));simp only [Gk] at this;exact this
  ·intro k w wm;rcases mem_append.mp wm with wm | wm
   ·exact (zc kk).mpr (fun y ym=>k y (CB _ ym)) w wm
   ·rw [mem_singleton.mp wm];refine (hz0 kk).mpr ?_;have:=k (j:Ab) (B8 _ (mem_singleton.mpr rfl));simp only [Gk];exact this
 rintro σ' H' ⟨v6,zs,rfl,s4,_,f2,zl,zc⟩;rw [At,Cn (A1 _)] at zc;subst_eqs;refine ⟨nd',_,rfl,SqL.of f2,(by rw [Bj];show 0 < 2+zs.length;omega),fun M Mm Ma=>?_⟩;refine q M H' s4 fun kk=>(Re Mm Ma).trans ?_;rw [Ar rfl]
 constructor
 ·intro k;refine ⟨k 0 (CB _ (AV ..)),(hz kk).mp (k z (CB _ (Bc _ (AV ..)))),fun j bj jn=>?_⟩;exact (zc kk).mp (fun w wm=>k w (B8 _ wm)) _ ((om _).mpr ⟨j,rfl,MZ m0 m1 bj,bj,jn⟩)
 ·rintro ⟨k0,k1,k2⟩ w wm;rcases mem_append.mp wm with wm | wm
  ·rcases mem_cons.mp wm with rfl | wm
   ·exact k0
   ·rw [mem_singleton.mp wm];exact (hz kk).mpr k1
  ·refine (zc kk).mpr (fun y ym=>?_) w wm;obtain ⟨j,rfl,_,bj,jn⟩:=(om y).mp ym;exact k2 j bj jn
theorem ok_z (T:Tx K mg base ad):AG P w K mg base CX0 3 ad.f_z ad.d_z ["way","quota","sums","standing","hand"] (NZ ad.c_b Aq):=by
 exists z
 obtain ⟨a,l,h,s,xs,m,qu,hd,fs,su,rfl,is,sg,m0,m1,bh,hd12,all,q1,szq,q⟩:=h;refine ⟨_,(@Av _ _ _ _ _ (5<$>(@CV _ _ _ _ (As*>Al))) (@Av _ _ _ _ _ (C4 Ci rfl (BV (n<*((pv 3)*>Al))) (B5 (i:=6) sc_z.nd rfl (B2 rfl)) (@AY _ _ _ (@CG _ _ _ _ (CN CP EJ PySem.F.type_list_append El (pv 5) ((a9<*(As*>((CM∩((pv 2)∪(pv 6)))*>((@Bq _ _ _ _ _ ((pv 1)*>(As*>Al)))*>(Fu*>Al)))))*>Al)) (by rfl)))) (@Av _ _ _ _ _ (C4 Ci rfl (BV (n<*((bo<*((pv 3)*>((pv 4)*>Al)))*>Al))) (B5 (i:=6) sc_z.nd rfl (B2 rfl)) (@AY _ _ _ (@CG _ _ _ _ (CN CP EJ PySem.F.type_list_append El (pv 5) ((a9<*(As*>((CM∩((pv 2)∪(pv 4)))*>((CM∩((pv 2)∪(pv 6)))*>(((pv 0)=<<(b.cy.bz>=>((pv 4)*>((pv 6)*>Al))))*>Al)))))*>Al)) (by rfl)))) (~~~(@B4 _ _ _ _ _ _ _ _ _ (PU rfl) (by rfl) T.z_ch Mq ((pv 5)*>Al) (by decide) (by decide) (by rfl) (by rfl)))))),?_⟩;refine ⟨(by show 1<=AB;decide),fun nd' hn=>?_⟩
 exists nd',hn,H,(.lst [V.int 0]),H1,s1,e1,(.lst (([0]++([]:Ac Ab)).map V.int))
 subst_eqs;refine ⟨m0,m1,fun mq H2 hmq s12 e2=>?_⟩;have zl12:=FP 12 (bit m);have e12:=s12 _ _ e1;have mn':mq≠nd':=fun z=>by rw [z,e1] at hmq;cases hmq
 refine ⟨mq,rfl,⟨_,SqL.of e2⟩,DC (xs:=(hands 12 (bit m)).map V.int) (fun i σ' H'=>Ex2 fun (v6:A5 V) (zs:Ac Ab)=>σ'=[Aa (.ref a),Aa (.int qu),Aa (.ref l),Aa (.int m),Aa (.int (hd:Ab)),Aa (.ref nd'),v6]/\Ax H H'/\H' mq=Aa (.lst ((hands 12 (bit m)).map V.int))/\H' nd'=Aa (.lst (([0]++zs).map V.int))/\zs.length=i/\(∀kk:Ab,(∀z∈zs,z<=kk)↔∀y∈(hands 12 (bit m)).take i,at0 su y < (qu:Ap)+((1*kk:Ab):Ap))) ⟨Ai,[],rfl,s1.trans s12,e2,e12,rfl,fun _=>⟨(fun _ _ m=>nomatch m),(fun _ _ m=>nomatch m)⟩⟩ (fun i σ' H' _ hq_=>by obtain ⟨_,_,_,_,e,_⟩:=hq_;exact SqL.of e) ?_ ?_⟩
 ·rintro i y σ' H' hy ⟨v6,zs,rfl,s4,f1,f2,zl,zc⟩;obtain ⟨y,hz,rfl⟩:=E8 hy;have hi:i < (hands 12 (bit m)).length:=(List.getElem?_eq_some_iff.mp hz).1;obtain ⟨j,j12,bj,rfl⟩:=E7.mp (Bt hz);obtain ⟨ay,u1,u2,u3,u4⟩:=(sg.same s4).at (all j bj).2;have l4:=s4 _ _ sg.l;have et:(hands 12 (bit m)).take (i+1)=(hands 12 (bit m)).take i++[(j:Ab)]:=by rw [Dk,hz];rfl
  subst_eqs;refine ⟨.inl ⟨rfl,_,SqL.of f2⟩,?_⟩;subst_eqs;refine ⟨l,_,_,_,rfl,rfl,SqL.of l4,u1,?_⟩;subst_eqs
  exists 2,t1,ht1,H',(.tup [V.int qu,V.int 1]),H5,s5,e5,rfl
  have f25:=s5 _ _ f2;refine ⟨1,ay,t1,at0 su j,(qu:Ap),Af,rfl,by decide,by decide,u2.same s5,e5,u3,u4,szq.mono (by decide),(B_ (by decide) (by decide):Sz 64 (1:Ab)).mono (by decide),fun z hz0=>?_⟩;have hz0:=fun kk=>(hz0 kk).trans (show _↔at0 su j < (qu:Ap)+((1*kk:Ab):Ap) by rw [Ar rfl]);refine ⟨nd',_,_,rfl,rfl,f25,(by rw [At,Bj];exact C8 (by show 1+zs.length<=1000;omega)),?_⟩;refine ⟨_,zs++[z],rfl,Bs (s4.trans s5) hn,by rw [AF mn'];exact s5 _ _ f1,(by rw [Az,<- Ee,AK (l₂:=[z])];rfl),by rw [Bj,zl];rfl,?_⟩;intro kk;rw [et]
  constructor
  ·intro k y ym;rcases mem_append.mp ym with ym | ym
   ·exact (zc kk).mp (fun w wm=>k w (CB _ wm)) y ym
   ·rw [mem_singleton.mp ym];exact (hz0 kk).mp (k z (B8 _ (mem_singleton.mpr rfl)))
  ·intro k w wm;rcases mem_append.mp wm with wm | wm
   ·exact (zc kk).mpr (fun y ym=>k y (CB _ ym)) w wm
   ·rw [mem_singleton.mp wm];exact (hz0 kk).mpr (k (j:Ab) (B8 _ (mem_singleton.mpr rfl)))
 rintro σ' H3 ⟨v6,zs0,rfl,sN,_,eN,zl0,zc0⟩;rw [At] at zl0;rw [At,Cn (A1 _)] at zc0;subst_eqs;refine ⟨m,(hd:Ab),rfl,by omega,by omega,?_⟩;rw [B7,H_,Ar bh,EF];obtain ⟨lm0,lb,ll⟩:=Jl m0 bh hd12;have p0:(0:Ab) < 2 ^ hd:=ID (by decide);subst_eqs;refine ⟨lm0,by omega,fun mp H4 hmp s23 e3=>?_⟩;have om:=fun y=>R7 (y:=y) m0 bh hd12;have ol:=FP 12 (bit (m - 2 ^ hd));generalize hands 12 (bit (m - 2 ^ hd))=os at e3 om ol;have e23:=s23 _ _ eN;have mn:mp≠nd':=fun z=>by rw [z,eN] at hmp;cases hmp
 refine ⟨mp,rfl,⟨_,SqL.of e3⟩,DC (xs:=os.map V.int) (fun i σ' H'=>Ex2 fun (v6:A5 V) (zs:Ac Ab)=>σ'=[Aa (.ref a),Aa (.int qu),Aa (.ref l),Aa (.int m),Aa (.int (hd:Ab)),Aa (.ref nd'),v6]/\Ax H H'/\H' mp=Aa (.lst (os.map V.int))/\H' nd'=Aa (.lst ((([0]++zs0)++zs).map V.int))/\zs.length=i/\(∀kk:Ab,(∀z∈zs,z<=kk)↔∀y∈os.take i,if xs.idxOf (hd:Ab) < xs.idxOf y then at0 su hd < at0 su y+((2*kk:Ab):Ap) else at0 su hd<=at0 su y+((2*kk:Ab):Ap))) ⟨_,[],rfl,sN.trans s23,e3,(by rw [e23,Ch]),rfl,fun _=>⟨(fun _ _ m=>nomatch m),(fun _ _ m=>nomatch m)⟩⟩ (fun i σ' H' _ hq_=>by obtain ⟨_,_,_,_,e,_⟩:=hq_;exact SqL.of e) ?_ ?_⟩
 ·rintro i y σ' H' hy ⟨v6,zs,rfl,s4,f1,f2,zl,zc⟩;obtain ⟨y,hz,rfl⟩:=E8 hy;have hi:i < os.length:=(List.getElem?_eq_some_iff.mp hz).1;obtain ⟨j,rfl,j12,bj,jn⟩:=(om y).mp (Bt hz);obtain ⟨ay,u1,u2,u3,u4⟩:=(sg.same s4).at (all j bj).2;obtain ⟨am,x1,x2,x3,x4⟩:=(sg.same s4).at (all hd bh).2;have l4:=s4 _ _ sg.l;have et:os.take (i+1)=os.take i++[(j:Ab)]:=by rw [Dk,hz];rfl
  obtain ⟨dx,la,k1,k2⟩:=id is;subst_eqs;refine ⟨.inl ⟨rfl,_,SqL.of f2⟩,?_⟩;subst_eqs;refine ⟨l,_,_,_,rfl,rfl,SqL.of l4,x1,?_⟩;subst_eqs;refine ⟨l,_,_,_,rfl,rfl,SqL.of l4,u1,?_⟩;subst_eqs;refine ⟨a,dx,_,rfl,s4 _ _ k1,rfl,?_⟩;subst_eqs;refine ⟨a,h,s,xs,(hd:Ab),(j:Ab),rfl,is.same s4,(all hd bh).1,(all j bj).1,?_⟩;refine ⟨2,am,ay,at0 su hd,at0 su j,_,rfl,by decide,by decide,x2,u2,x3,x4,u3,u4,fun z hz0=>?_⟩;refine ⟨nd',_,_,rfl,rfl,f2,(by rw [At,Bj];exact C8 (by rw [Bj];show 1+zs0.length+zs.length<=1000;omega)),?_⟩;refine ⟨_,zs++[z],rfl,Bs s4 hn,by rw [AF mn];exact f1,(by rw [Az,<- Ee,AK (l₂:=[z])];rfl),by rw [Bj,zl];rfl,?_⟩;intro kk;rw [et]
  constructor
  ·intro k y ym;rcases mem_append.mp ym with ym | ym
   ·exact (zc kk).mp (fun w wm=>k w (CB _ wm)) y ym
   ·rw [mem_singleton.mp ym];have:=(hz0 kk).mp (k z (B8 _ (mem_singleton.mpr rfl)));simp only [Gk] at this;exact this
  ·intro k w wm;rcases mem_append.mp wm with wm | wm
   ·exact (zc kk).mpr (fun y ym=>k y (CB _ ym)) w wm
   ·rw [mem_singleton.mp wm];refine (hz0 kk).mpr ?_;have:=k (j:Ab) (B8 _ (mem_singleton.mpr rfl));simp only [Gk];exact this
 rintro σ' H' ⟨v6,zs,rfl,s4,_,f2,zl,zc⟩;rw [At,Cn (A1 _)] at zc;subst_eqs;refine ⟨nd',_,rfl,SqL.of f2,(by rw [Bj,Bj];show 0 < (1+zs0.length)+zs.length;omega),fun M Mm Ma=>?_⟩;refine q M H' s4 fun kk=>(Re Mm Ma).trans ?_;rw [Ao (by decide)]
 constructor
 ·intro k;refine ⟨k 0 (CB _ (CB _ (AV ..))),fun j bj=>?_,fun j bj jn=>?_⟩
  ·exact (zc0 kk).mp (fun w wm=>k w (CB _ (show w∈(0:Ab) :: zs0 from Bc _ wm))) _ (E7.mpr ⟨j,MZ m0 m1 bj,bj,rfl⟩)
  ·exact (zc kk).mp (fun w wm=>k w (B8 _ wm)) _ ((om _).mpr ⟨j,rfl,MZ m0 m1 bj,bj,jn⟩)
 ·rintro ⟨k0,k1,k2⟩ w wm;rcases mem_append.mp wm with wm | wm
  ·rcases mem_cons.mp (show w∈(0:Ab) :: zs0 from wm) with rfl | wm
   ·exact k0
   ·refine (zc0 kk).mpr (fun y ym=>?_) w wm;obtain ⟨j,_,bj,rfl⟩:=E7.mp ym;exact k1 j bj
  ·refine (zc kk).mpr (fun y ym=>?_) w wm;obtain ⟨j,rfl,_,bj,jn⟩:=(om y).mp ym;exact k2 j bj jn
theorem ok_a3 (T:Tx K mg base ad):AG P w K mg base CX0 3 ad.f_a3 ad.d_a3 ["way","sheet"] (TZ ad.c_b ad.c_a):=by
 exists a3
 obtain ⟨a,l,h,s',xs,ls,rfl,is,h12,hl,l60,q⟩:=h;refine ⟨_,(~~~(Ld T.mk_a (ok_i T) (hr.mono (by decide)) rfl T.m_a T.b_i .nil Fs ((@Bq _ _ _ _ _ Al)*>((s<*((Be (pv 0) rfl)*>Al))*>((Be (pv 0) rfl)*>(As*>((v<*((pv 1)*>((Be (pv 0) rfl)*>Al)))*>Al))))))),?_⟩;obtain ⟨dx,la,k1,k2⟩:=id is
 exists 0,t,ht,H,(.tup []),H1,s1,e1,rfl
 have k11:=s1 _ _ k1;subst_eqs;refine ⟨a,_,dx,_,_,rfl,k11,T.cl_b,T.na_b_b1,rfl,?_⟩;subst_eqs;refine ⟨by omega,by omega,?_⟩;subst_eqs;refine ⟨a,_,dx,_,_,rfl,k11,T.cl_b,T.na_b_ce,rfl,?_⟩;subst_eqs;refine ⟨a,_,dx,_,_,rfl,k11,T.cl_b,T.na_b_b1,rfl,?_⟩;subst_eqs;refine ⟨l,h,ls,rfl,s1 _ _ hl,l60,h12,fun sa yh H2 hsa s2 e2 g2 nd2 yl=>?_⟩;subst_eqs;intro c cx hc hcx nec;have kc:Ax H2 (upd (upd H2 cx (.own c)) c (.ins ad.c_a cx [])):=(AN hcx _).trans (AN (by rw [AF (BF nec)];exact hc) _);refine ⟨c,ad.c_a,cx,t,sa,_,(s':Ab),0,rfl,Az,T.cl_a,T.na_a_b8,T.na_a_b3,T.na_a_cb,T.na_a_b5,T.na_a_ci,fun H3 s3 o3=>?_⟩;rw [Jq] at s3;have s3:=(Ib (AN hcx (.own c)) hc).trans s3;refine ⟨rfl,?_⟩;clear kc;have s13:=s1.trans (s2.trans s3);refine q ⟨c,t,sa,[],2 ^ h - 1,(s':Ab),0⟩ yh H3 (none_of (s1.trans s2) hc) s13 ⟨⟨cx,by rw [o3,LM,B7]⟩,(s2.trans s3) _ _ e1,fun _ m=>Aw m Bm⟩ rfl rfl rfl rfl (s3 _ _ e2) (fun x k=>⟨(g2 x k).1.same s3,(g2 x k).2.1,(g2 x k).2.2.1⟩) yl
theorem ok_h (T:Tx K mg base ad):AG P w K mg base CX0 3 ad.f_h ad.d_h ["self"] (TW ad.c_a):=by
 exists h
 obtain ⟨z,rfl,g,m0,m1,q⟩:=h;refine ⟨_,(~~~(@AaN _ _ _ _ _ _ _ (@Ep _ _ _ _ _ _ _ _ Hd (ac<*((Be (pv 0) rfl)*>Al)) (Be (pv 0) rfl) (D_ _)) (@FT _ _ _ _ _ (@Ep _ _ _ _ _ _ _ _ CU (Be (pv 0) rfl) As (D_ _))))),?_⟩;obtain ⟨dx,ho⟩:=id g.o;symm;refine ⟨z.a,_,dx,_,_,rfl,ho,T.cl_a,T.na_a_b3,rfl,?_⟩;refine ⟨z.m,rfl,m0,m1,fun H1 s1=>?_⟩;have ho1:=s1 _ _ ho;symm;refine ⟨z.a,_,dx,_,_,rfl,ho1,T.cl_a,T.na_a_cb,rfl,?_⟩;symm;have q:=q H1 s1;unfold Ha at q;by_cases c:((hands 12 (bit z.m)).length:Ab)<=z.pl
 ·rw [AT c,Ow] at q;exact ifT (AT c) q
 ·rw [AS c,Ou] at q;refine ifF (AS c) ?_;symm;refine ⟨z.a,_,dx,_,_,rfl,ho1,T.cl_a,T.na_a_cb,rfl,?_⟩;symm;rw [show decide (V.int z.pl=V.int 0)=decide (z.pl=0) from decide_eq_decide.mpr ⟨fun e=>by injection e,fun e=>by rw [e]⟩];exact q
theorem ok_ae (T:Tx K mg base ad):AG P w K mg base CX0 3 ad.f_ae ad.d_ae ["self","hands"] (U8 ad.c_a):=by
 exists ae
 obtain ⟨z,h,rfl,g,m0,m1,h12,l12,q⟩:=h;refine ⟨_,(@Av _ _ _ _ _ (2<=<(Ih (fsc:=A7 Ll) (N:=["self","hands","seated"]) (Nc:=["self","hands","seated","word","hand"]) rfl rfl ⟨rfl,by decide +kernel,by decide +kernel,by decide +kernel,by decide +kernel,rfl,by decide +kernel,rfl,by decide +kernel⟩ rfl (NJ (Be (pv 0) rfl)) (fun _ _ _ _=>(Fv (CU⊂((pv 3)∪Dw)))) (fun _ _ _ _=>(pv 4)))) (@Av _ _ _ _ _ (@Hh _ _ _ _ _ _ _ _ (Hd⊂((ac<*((Be (pv 0) rfl)*>Al))∪(Be (pv 0) rfl))) (@AY _ _ _ (@CG _ _ _ _ (CN CP Mu PySem.F.type_list_extend KS (pv 2) ((n<*((Be (pv 0) rfl)*>Al))*>Al)) (by rfl))) Bp) (~~~(DS (fsc:=A7 Ll) (N:=["self","hands","seated"]) (Nc:=["self","hands","seated","hand"]) rfl rfl (by nofun) rfl (FV rfl T.z_b2 ((pv 1)*>Al)) (fun _ _ _ _=>DD) (fun _ _ _ _=>(G5 (@Jz _ _ _ _ _ _ _ _ (R3 K) (pv 3) (pv 2) (by with_unfolding_all rfl)) As As)))))),?_⟩;obtain ⟨dx,ho⟩:=id g.o;have ht:=g.t;subst_eqs;refine ⟨z.a,_,dx,_,_,rfl,ho,T.cl_a,T.na_a_b8,rfl,?_⟩;have dl:(z.ds.map fun d=>V.ref d.1).length=z.ds.length:=At _;refine ⟨z.dt,rfl,⟨_,SqT.of ht⟩,?_⟩;refine Yv (zs:=z.ds.map fun d=>V.ref d.1) rfl rfl (by rw [dl];exact C9 (by omega)) (fun D i ys J=>ys=BW (Cv ((z.ds.take i).map (·.2)))/\J=upd H D (.lst ys)) (fun D hD=>⟨rfl,rfl⟩) (fun D i ys J hq_=>by obtain ⟨f1,f2⟩:=hq_;exact ⟨by rw [f2];exact Az,by rw [f1];unfold BW Cv;rw [At];exact BE (LY ..) (by rw [At];exact FD _ _)⟩) (fun D i ys J hD hq_=>by obtain ⟨_,f2⟩:=hq_;rw [f2];exact SqT.of (AN hD _ _ _ ht)) ?_ ?_
 ·rintro D i y ys J K1 K2 hD hy ⟨e,rfl⟩ kk1 kk2;rw [Ba] at hy;obtain ⟨r,hr0,rfl⟩:=Option.map_eq_some_iff.mp hy;have gd:=AN hD (.lst ys) _ _ (g.d r (Bt hr0))
  have tk:Cv ((z.ds.take (i+1)).map (·.2))=Cv ((z.ds.take i).map (·.2))++(match r.2.seatOf with | some j=>[j] | none=>[]):=by
   unfold Cv;rw [Dk,hr0,AK,Wb]
   congr 1
   show Wa Dd.seatOf [r.2]=_;rw [JW]
   cases r.2.seatOf <;> rfl
  refine ⟨r.1,_,_,rfl,SqT.of gd,?_⟩
  cases hdd:r.2 with
  | seat j =>
    rw [hdd] at tk;subst_eqs;refine kk1 _ _ Az ⟨?_,by rw [DV]⟩;rw [tk,e];unfold BW;rw [AK];rfl
  | out j =>
    rw [hdd] at tk;subst_eqs;exact kk2 _ ⟨by rw [tk];show ys=BW (_++[]);rw [Ch];exact e,rfl⟩
  | rest =>
    rw [hdd] at tk;subst_eqs;exact kk2 _ ⟨by rw [tk];show ys=BW (_++[]);rw [Ch];exact e,rfl⟩
  | fin =>
    rw [hdd] at tk;subst_eqs;exact kk2 _ ⟨by rw [tk];show ys=BW (_++[]);rw [Ch];exact e,rfl⟩
 rintro D ys J hD ⟨rfl,rfl⟩;rw [dl,Cn (A1 _)]
 exists D,hD,H,(.lst (BW (Cv (z.ds.map (·.2))))),H1,s1,e1
 have ho1:=s1 _ _ ho
 have sl1:(Cv (z.ds.map (·.2))).length<=12:=by
  unfold Cv;exact BE (LY ..) (by rw [At];exact l12)
 subst_eqs;refine ⟨fun σ' J=>σ'=[Aa (.ref z.a),Aa (.int (h:Ab)),Aa (.ref D)]/\Ax H J/\J D=Aa (.lst (BW (Fx z))),?_,?_⟩
 ·subst_eqs;refine ⟨z.a,_,dx,_,_,rfl,ho1,T.cl_a,T.na_a_b3,rfl,?_⟩;refine ⟨z.m,rfl,m0,m1,fun H2 s2=>?_⟩;have ho2:=s2 _ _ ho1;have e2:=s2 _ _ e1;subst_eqs;refine ⟨z.a,_,dx,_,_,rfl,ho2,T.cl_a,T.na_a_cb,rfl,?_⟩;subst_eqs;by_cases c:((hands 12 (bit z.m)).length:Ab)<=z.pl
  ·refine ifT (AT c) ?_;have sd:Fx z=Cv (z.ds.map (·.2))++(Bo 12).filter (bit z.m):=by unfold Fx;rw [Ar c]
   subst_eqs;refine ⟨.inl ⟨rfl,_,SqL.of e2⟩,?_⟩;subst_eqs;refine ⟨z.a,_,dx,_,_,rfl,ho2,T.cl_a,T.na_a_b3,rfl,?_⟩;refine ⟨z.m,rfl,m0,m1,fun D4 H3 hD4 s3 e3=>?_⟩;have hv:(hands 12 (bit z.m)).map V.int=BW ((Bo 12).filter (bit z.m)):=by unfold hands BW;rw [Bf];rfl
   rw [hv] at e3;refine ⟨D,D4,_,_,rfl,rfl,s3 _ _ e2,e3,(by unfold BW;rw [At,At];exact DK (C8 (by have:((Bo 12).filter (bit z.m)).length<=12:=BE (EH ..) (by rw [D6];exact A1 _);show (Cv (z.ds.map (·.2))).length+_<=1000;omega))),?_⟩;refine ⟨rfl,Bs (s1.trans (s2.trans s3)) hD,?_⟩;rw [Az,sd];unfold BW;rw [AK]
  ·refine ifF (AS c) ?_;have sd:Fx z=Cv (z.ds.map (·.2)):=by unfold Fx;rw [Ao c,Ch]
   exact ⟨rfl,s1.trans s2,by rw [sd];exact e2⟩
 rintro σ' J ⟨rfl,sJ,eJ⟩;subst_eqs;refine ⟨by omega,by omega,?_⟩;rw [B7];refine GZ (C9 (by omega)) (fun D4 i ys J4=>ys=((Bo i).map fun j=>if j∈Fx z then (1:Ab) else 0).map V.int/\J4=upd J D4 (.lst ys)) (fun D4 hD4=>⟨rfl,rfl⟩) (fun D4 i ys J4 hq_=>by obtain ⟨f1,f2⟩:=hq_;exact ⟨by rw [f2];exact Az,by rw [f1,At,At,D6];exact A1 _⟩) ?_ ?_
 ·rintro D4 i ys J4 K1 K2 hD4 hi ⟨e,rfl⟩ kk1 kk2;have z0:(0:Ab)+(i:Ab)=(i:Ab):=F9 _;refine yes (ifT rfl ?_);refine ⟨_,rfl,_,rfl,D,_,rfl,.inl (SqL.of (AN hD4 _ _ _ eJ)),rfl,Qr _,?_⟩;rw [z0,Ao (by decide),Q9];refine ⟨_,rfl,?_⟩;have fin:∀y:Ab,y=(if i∈Fx z then (1:Ab) else 0)->K1 (V.int y) (upd J D4 (.lst ys)):=fun y hy=>kk1 _ _ Az ⟨by rw [Hw,AK,AK,e,hy];rfl,by rw [DV]⟩;by_cases c:i∈Fx z
  ·rw [AT c];exact ifT rfl (fin 1 (by rw [Ar c]))
  ·rw [AS c];exact ifF rfl (fin 0 (by rw [Ao c]))
 rintro D4 ys J4 hD4 ⟨rfl,rfl⟩;exact q D4 _ (none_of sJ hD4) (sJ.trans (AN hD4 _)) Az
theorem ok_r (T:Tx K mg base ad):AG P w K mg base CX0 3 ad.f_r ad.d_r ["self","hands","seats","lots"] (UE K):=by
 exists r
 obtain ⟨a,C,dx,l,h,s,ns,rfl,ha,cl,n1,n2,n3,h1,h12,s1,s60,hl,pm,q⟩:=h;refine ⟨_,(@Av _ _ _ _ _ ((PW.pt (@Hj _ _ _ _ _ _ _ (@Es _ _ _ _ (@C5 _ _ _ (t<*((pv 1)*>Al)) (by intro _;rfl))) (@Ij _ _ _ _ (@Es _ _ _ _ (@C5 _ _ _ (u<*((pv 2)*>Al)) (by intro _;rfl))))))⊆((@AY _ _ _ FX)∪Bp)) (@Av _ _ _ _ _ ((PW.pt (@Lh _ _ _ _ _ _ _ (Aa1⊂((pv 3)∪FS)) (@Li _ _ _ _ (@Es _ _ _ _ (@C5 _ _ _ (k<*((pv 3)*>((pv 1)*>Al))) (by intro _;rfl))))))⊆((@AY _ _ _ FX)∪Bp)) (@Av _ _ _ _ _ (FW (pv 0) (pv 1) rfl) (@Av _ _ _ _ _ (FW (pv 0) (pv 2) rfl) (@AY _ _ _ (FW (pv 0) (G5 (NA⊂((pv 3)∪FS)) (NI rfl (by rfl) T.z_b4 (by rfl) T.z_b2 (pv 1)) (@Hf _ _ _ _ _ _ _ _ _ HS (by rfl) T.z_b4 GM ((pv 3)*>Al) (by decide) (by decide) (by rfl) (by rfl))) rfl)))))),?_⟩;refine ⟨_,rfl,h,rfl,h1,h12,?_⟩;subst_eqs;refine ⟨s1,s60,?_⟩;subst_eqs;obtain ⟨n,rfl⟩:∃n:Ae,h=(n:Ab):=⟨h.toNat,by omega⟩;rw [B7] at pm;subst_eqs;refine ⟨l,ns,n,rfl,hl,pm,by omega,fun H1 e1=>?_⟩;subst_eqs;have g1:=(Ia H a).trans e1;refine ⟨a,C,dx,[],rfl,e1 _ _ ha,cl,n1,(by simp only [BP,DI];decide),?_⟩;rw [Abh];have g2:=ET (o:=.ins C dx [("hands",.int (n:Ab))]) g1;have a2:(upd H1 a (.ins C dx [("hands",.int (n:Ab))])) a=_:=Az;generalize upd H1 a (.ins C dx [("hands",.int (n:Ab))])=H2 at g2 a2 ⊢;subst_eqs;refine ⟨a,C,dx,_,rfl,a2,cl,n2,(by simp only [BP,DI];decide),?_⟩;rw [Abi];have g3:=ET (o:=.ins C dx [("hands",.int (n:Ab)),("seats",.int s)]) g2;have a3:(upd H2 a (.ins C dx [("hands",.int (n:Ab)),("seats",.int s)])) a=_:=Az;generalize upd H2 a (.ins C dx [("hands",.int (n:Ab)),("seats",.int s)])=H3 at g3 a3 ⊢;have la:l≠a:=fun z=>by rw [z,ha] at hl;cases hl
 have l3:=g3 _ _ (Du hl la);subst_eqs;intro b hb;have ba:b≠a:=fun z=>by rw [z,a3] at hb;cases hb
 have hbH:H b=Ai:=by
  cases e:H b with
  | none=>rfl
  | some o =>
    have:=g3 _ _ (Du e ba);rw [hb] at this
    cases this
 have g4:=g3.trans (AN hb (.lst (ns.map V.int)));have a4:=AN hb (.lst (ns.map V.int)) _ _ a3;have b4:(upd H3 b (.lst (ns.map V.int))) b=Aa (.lst (ns.map V.int)):=Az;generalize upd H3 b (.lst (ns.map V.int))=H4 at g4 a4 b4 ⊢;subst_eqs;refine ⟨a,C,dx,_,rfl,a4,cl,n3,(by simp only [BP,DI];decide),?_⟩;rw [Abj];exact q b _ ba hbH (ET g4) Az (by rw [AF ba];exact b4)
theorem ok_aw (T:Tx K mg base ad):AG P w K mg base CX0 3 ad.f_aw ad.d_aw ["self","sums","standing"] (N_ ad.c_b DA):=by
 exists aw
 obtain ⟨a,l,h,s,xs,m,fs,su,rfl,is,sg,hx,x12,ne,q⟩:=h;refine ⟨_,(@Av _ _ _ _ _ (3<$>((pv 0)=<<(b.dc.ay>=>((pv 2)*>Al)))) (@Av _ _ _ _ _ (4<$>(CM∩((pv 3)∪As))) (@Av _ _ _ _ _ (C4 Ci rfl (BV (pv 3)) (B5 (i:=5) sc_aw.nd rfl (B2 rfl)) (@AY _ _ _ ((@C5 _ _ _ (bk<*((CM∩((pv 1)∪(pv 4)))*>((CM∩((pv 1)∪(pv 5)))*>Al))) (by intro _;rfl))⊆((@AY _ _ _ (4<$>(pv 5)))∪Bp)))) (~~~(pv 4))))),?_⟩;have is':=id is;obtain ⟨dx,lo,k1,k2⟩:=is';refine ⟨_,rfl,a,dx,_,rfl,k1,rfl,?_⟩;subst_eqs;refine ⟨a,h,s,xs,m,rfl,is,(fun x k=>(hx x k).1),x12,fun bl H1 s1 e1=>?_⟩;have zin:∀x∈BR xs m,0<=x/\x.toNat < su.length:=fun x k=>hx x (mem_filter.mp k).1;have zl:(BR xs m).length<=12:=BE (EH ..) x12;generalize BR xs m=zs at ne e1 zin zl q;obtain ⟨z0,zt,rfl⟩:∃a b,zs=a :: b:=by cases zs with | nil=>exact Aw rfl ne | cons a b=>exact ⟨a,b,rfl⟩
 subst_eqs;refine ⟨bl,_,_,_,rfl,rfl,SqL.of e1,(atN (i:=0) rfl:atI ((z0 :: zt).map V.int) ((0:Ae):Ab)=Aa (.int z0)),?_⟩;subst_eqs;refine ⟨⟨_,SqL.of e1⟩,DC (xs:=(z0 :: zt).map V.int) (fun i σ' J=>Ex2 fun (b:Ab) (v5:A5 V)=>σ'=[Aa (.ref a),Aa (.ref l),Aa (.int m),Aa (.ref bl),Aa (.int b),v5]/\H1=J/\b∈z0 :: zt/\b=((z0 :: zt).take i).foldl (fun b x=>if at0 su b < at0 su x then x else b) z0) ⟨z0,Ai,rfl,rfl,AV ..,rfl⟩ (fun i σ' J _ hq_=>by obtain ⟨_,_,_,e,_⟩:=hq_;rw [<- e];exact SqL.of e1) ?_ ?_⟩
 ·rintro i y σ' J hy ⟨b,v5,rfl,rfl,bm,be⟩;obtain ⟨x,hx',rfl⟩:=E8 hy;have xm:=Bt hx';obtain ⟨ab,a1,a2,a3,a4⟩:=(sg.same s1).at (zin b bm).1 (zin b bm).2;obtain ⟨ax,b1,b2,b3,b4⟩:=(sg.same s1).at (zin x xm).1 (zin x xm).2;have l1:=s1 _ _ sg.l
  have tk:((z0 :: zt).take (i+1)).foldl (fun b x=>if at0 su b < at0 su x then x else b) z0=((fun b x=>if at0 su b < at0 su x then x else b)) b x:=by
   rw [Dk,hx',OA,<- be];rfl
  subst_eqs;refine ⟨l,_,_,_,rfl,rfl,SqL.of l1,a1,?_⟩;subst_eqs;refine ⟨l,_,_,_,rfl,rfl,SqL.of l1,b1,?_⟩;subst_eqs;refine ⟨ab,ax,_,_,_,_,rfl,a2,b2,a3,a4,b3,b4,?_⟩;rw [show decide ((pr (at0 su b)).1*(pr (at0 su x)).2 < (pr (at0 su x)).1*(pr (at0 su b)).2)=decide (at0 su b < at0 su x) from decide_eq_decide.mpr (KO _ _)];by_cases c:at0 su b < at0 su x
  ·rw [AT c];subst_eqs;exact ⟨xm,by rw [tk];exact (Ar c).symm⟩
  ·rw [AS c];subst_eqs;exact ⟨bm,by rw [tk];exact (Ao c).symm⟩
 rintro σ' J ⟨b,v5,rfl,rfl,bm,be⟩;rw [At,Cn (A1 _)] at be;subst_eqs;have:=q H1 s1;rw [show DA su (z0 :: zt)=b from be.symm] at this;exact this
theorem ok_ax (T:Tx K mg base ad):AG P w K mg base CX0 3 ad.f_ax ad.d_ax ["self","sums","standing"] (N_ ad.c_b EZ):=by
 exists ax
 obtain ⟨a,l,h,s,xs,m,fs,su,rfl,is,sg,hx,x12,ne,q⟩:=h;refine ⟨_,(@Av _ _ _ _ _ (3<$>((pv 0)=<<(b.dc.ay>=>((pv 2)*>Al)))) (@Av _ _ _ _ _ (4<$>(CM∩((pv 3)∪As))) (@Av _ _ _ _ _ (C4 Ci rfl (BV (pv 3)) (B5 (i:=5) sc_ax.nd rfl (B2 rfl)) (@AY _ _ _ ((@Es _ _ _ _ (@C5 _ _ _ (bk<*((CM∩((pv 1)∪(pv 4)))*>((CM∩((pv 1)∪(pv 5)))*>Al))) (by intro _;rfl)))⊆((@AY _ _ _ (4<$>(pv 5)))∪Bp)))) (~~~(pv 4))))),?_⟩;have is':=id is;obtain ⟨dx,lo,k1,k2⟩:=is';refine ⟨_,rfl,a,dx,_,rfl,k1,rfl,?_⟩;subst_eqs;refine ⟨a,h,s,xs,m,rfl,is,(fun x k=>(hx x k).1),x12,fun bl H1 s1 e1=>?_⟩;have zin:∀x∈BR xs m,0<=x/\x.toNat < su.length:=fun x k=>hx x (mem_filter.mp k).1;have zl:(BR xs m).length<=12:=BE (EH ..) x12;generalize BR xs m=zs at ne e1 zin zl q;obtain ⟨z0,zt,rfl⟩:∃a b,zs=a :: b:=by cases zs with | nil=>exact Aw rfl ne | cons a b=>exact ⟨a,b,rfl⟩
 subst_eqs;refine ⟨bl,_,_,_,rfl,rfl,SqL.of e1,(atN (i:=0) rfl:atI ((z0 :: zt).map V.int) ((0:Ae):Ab)=Aa (.int z0)),?_⟩;subst_eqs;refine ⟨⟨_,SqL.of e1⟩,DC (xs:=(z0 :: zt).map V.int) (fun i σ' J=>Ex2 fun (b:Ab) (v5:A5 V)=>σ'=[Aa (.ref a),Aa (.ref l),Aa (.int m),Aa (.ref bl),Aa (.int b),v5]/\H1=J/\b∈z0 :: zt/\b=((z0 :: zt).take i).foldl (fun b x=>if at0 su b < at0 su x then b else x) z0) ⟨z0,Ai,rfl,rfl,AV ..,rfl⟩ (fun i σ' J _ hq_=>by obtain ⟨_,_,_,e,_⟩:=hq_;rw [<- e];exact SqL.of e1) ?_ ?_⟩
 ·rintro i y σ' J hy ⟨b,v5,rfl,rfl,bm,be⟩;obtain ⟨x,hx',rfl⟩:=E8 hy;have xm:=Bt hx';obtain ⟨ab,a1,a2,a3,a4⟩:=(sg.same s1).at (zin b bm).1 (zin b bm).2;obtain ⟨ax,b1,b2,b3,b4⟩:=(sg.same s1).at (zin x xm).1 (zin x xm).2;have l1:=s1 _ _ sg.l
  have tk:((z0 :: zt).take (i+1)).foldl (fun b x=>if at0 su b < at0 su x then b else x) z0=((fun b x=>if at0 su b < at0 su x then b else x)) b x:=by
   rw [Dk,hx',OA,<- be];rfl
  subst_eqs;refine ⟨l,_,_,_,rfl,rfl,SqL.of l1,a1,?_⟩;subst_eqs;refine ⟨l,_,_,_,rfl,rfl,SqL.of l1,b1,?_⟩;subst_eqs;refine ⟨ab,ax,_,_,_,_,rfl,a2,b2,a3,a4,b3,b4,?_⟩;rw [show decide ((pr (at0 su b)).1*(pr (at0 su x)).2 < (pr (at0 su x)).1*(pr (at0 su b)).2)=decide (at0 su b < at0 su x) from decide_eq_decide.mpr (KO _ _)];by_cases c:at0 su b < at0 su x
  ·rw [AT c];subst_eqs;exact ⟨bm,by rw [tk];exact (Ar c).symm⟩
  ·rw [AS c];subst_eqs;exact ⟨xm,by rw [tk];exact (Ao c).symm⟩
 rintro σ' J ⟨b,v5,rfl,rfl,bm,be⟩;rw [At,Cn (A1 _)] at be;subst_eqs;have:=q H1 s1;rw [show EZ su (z0 :: zt)=b from be.symm] at this;exact this
theorem ok_d (T:Tx K mg base ad):AG P w K mg base CX0 4 ad.f_d ad.d_d ["sheet","x","y","slip","many"] (Uz ad.lP):=by
 refine T.F_d.okC sc_d (fun vs H Q E h=>?_) (fun cdv hcd A outer s H vs Q E hr h=>?_)
 ·obtain ⟨l,sl,ls,put,x,y,m,rfl,_⟩:=h;rfl
 obtain ⟨l,sl,ls,put,x,y,m,rfl,hl,gl,ok,l13,hs,hx,hy,lt,q⟩:=h;refine ⟨_,(@Av _ _ _ _ _ (Abd (j:=5) (fsc:=A7 s_d) (N:=["sheet","x","y","slip","many","others"]) (Nc:=["sheet","x","y","slip","many","others","line"]) rfl rfl (by nofun) rfl sc_d.nd rfl rfl (BV (pv 0)) (fun _ _ _ _=>(Fv ((R5 (K:=K) hr.units)⊂(((Ek K)∩((pv 6)∪As))∪(pv 3))))) (fun _ _ _ _=>(pv 6)) rfl) (~~~(ab<*((AaP (fsc:=A7 s_d) (N:=["sheet","x","y","slip","many","others"]) (Nc:=["sheet","x","y","slip","many","others","line"]) (x:="line") rfl T.lam (hcd.symm.trans T.lcode) (hr.mono (by decide)) rfl T.z_cd rfl rfl (by nofun) rfl rfl (pv 5) (fun _ _ _ _ _=>(@RE _ _ _ _ _ _ _ _ _ _ _ _ _ _ _ _ (ok_g T) (BB.lam (hr.mono (by decide)) _) rfl T.m_g T.F_g.kp T.b_g .nil Fs (((Ek K)∩((pv 6)∪As))*>((pv 1)*>((pv 2)*>Al))) (by decide) (by rfl) (by rfl))))*>((pv 3)*>((pv 4)*>Al)))))),?_⟩;subst_eqs;refine ⟨⟨_,SqL.of hl⟩,?_⟩
 refine FL (xs:=vls ls) (by rw [CI];exact C9 (by omega)) (fun D i ys G=>ys=vls (He put (ls.take i))/\G=upd H D (.lst ys)) (fun D hD=>⟨rfl,rfl⟩) (fun D i ys G ⟨f1,f2⟩=>⟨by rw [f2];exact Az,by
  rw [f1,CI];exact BE (EH _ _) (FD _ _)⟩) (fun D i ys G hD hq_=>by obtain ⟨_,f2⟩:=hq_;rw [f2];exact SqL.of (AN hD _ _ _ hl)) ?_ ?_
 ·rintro D i w ys G K1 K2 hD hw ⟨f1,rfl⟩ kk1 kk2;obtain ⟨f,hf,rfl,fm,et⟩:=F3 hw;have g1:=AN hD (.lst ys) _ _ (gl f fm).1;have g2:=AN hD (.lst ys) _ _ (gl f fm).2;have g3:=AN hD (.lst ys) _ _ hs;subst_eqs;refine ⟨f.2.1,sl,_,_,rfl,rfl,SqT.of g2,SqT.of g3,?_⟩;subst_eqs;by_cases c:f.2.2.1=put
  ·refine ifF (by rw [AT c];rfl) ?_;refine kk2 _ ⟨?_,rfl⟩;rw [f1,et];unfold He;rw [EG,LQ (by rw [AT c];decide),Wc,Ch]
  ·refine ifT (by rw [AS c];rfl) ?_;subst_eqs;refine kk1 _ _ Az ⟨?_,by rw [DV]⟩;rw [f1,et];unfold He;rw [EG,LR (by rw [AS c];rfl),Wc];unfold vls;rw [AK];rfl
 rintro D ys G hD ⟨rfl,rfl⟩;rw [CI,OH]
 exists D,hD,H,(.lst (vls (He put ls))),H1,s1,e1
 obtain ⟨OL,eO⟩:∃OL,OL=He put ls:=⟨_,rfl⟩;have sub:∀q∈OL,q∈ls:=by rw [eO];exact Aa5 put ls
 have ol:OL.length<=13:=by rw [eO];exact BE (EH _ _) l13
 rw [<- eO] at e1;subst_eqs;refine ⟨D,vls OL,fun i=>Cp (OL.getD i (0,0,[],0)).2.2.1 x y,rfl,by rw [CI];omega,lt.same s1,fun H2 l2 sm l12 fr=>⟨SqL.of (sm.at (lt.same s1) e1 (fun _ z=>by cases z)),fun i z G hz sG=>?_,fun R p G pm st sG hR=>?_⟩⟩
 ·obtain ⟨f,hf,rfl,fm,_⟩:=F3 hz;have fl:=sub f fm;have g1:=sG _ _ (sm.at (lt.same s1) (s1 _ _ (gl f fl).1) (fun _ z=>by cases z));have g2:=sG _ _ (sm.at (lt.same s1) (s1 _ _ (gl f fl).2) (fun _ z=>by cases z));subst_eqs;refine ⟨f.2.1,f.2.2.1,x,y,rfl,g2,ok (f.2.2.1,f.2.2.2) (mem_map.mpr ⟨f,fl,rfl⟩),hx,hy,fun G' sG'=>⟨?_,sG'⟩⟩;show V.int (Cp f.2.2.1 x y)=V.int (Cp (OL.getD i (0,0,[],0)).2.2.1 x y);rw [BI,hf];rfl
 ·have smH:Sm H H2:=(Sm.of s1).trans (AbW (lt.same s1) sm fr)
  have e3:(p.toList.map fun i=>(vls OL).getD i .non)=vls (p.toList.map fun i=>OL.getD i (0,0,[],0)):=by
   unfold vls;rw [Bf];refine E1 fun i m=>?_
   have hi:i < OL.length:=by
    have:=mem_range.mp (pm.mem_iff.mp m);rwa [CI] at this
   show (OL.map fun q=>V.ref q.1).getD i .non=V.ref (OL.getD i (0,0,[],0)).1;rw [BI,BI,Ba,Cm hi];rfl
  rw [CI] at pm st;rw [e3];obtain ⟨SL,eS⟩:∃SL,SL=p.toList.map fun i=>OL.getD i (0,0,[],0):=⟨_,rfl⟩;rw [<- eS]
  have pS:SL.Perm OL:=by
   have e:OL=(Bo OL.length).map fun i=>OL.getD i (0,0,[],0):=by
    apply JU
    ·simp
    ·intro i h1 h2;simp [Cm h1]
   rw [eS];exact (pm.map _).trans (by rw [<- e])
  have subS:∀q∈SL,q∈ls:=fun q m=>sub q (pS.mem_iff.mp m);have sl60:SL.length<=60:=by have:=pS.length_eq;omega
  have srt:(Am SL).Pairwise fun a b=>Cp a.1 x y<=Cp b.1 x y:=by
   rw [eS];unfold Am;rw [Bf,Md,Mc];intro i j hi hj hij;have hz:=pm.length_eq;rw [D6,Ec] at hz;have a:=st i j (DK hij) (by rw [<- hz];simpa using hj);have a:decide (Cp (OL.getD (p.getD j 0) (0,0,[],0)).2.2.1 x y < Cp (OL.getD (p.getD i 0) (0,0,[],0)).2.2.1 x y)=Aq:=a;have a:=HL a;rw [show p.getD i 0=p.toList[i] by simp [Hn,show i < p.size by simpa using hi],show p.getD j 0=p.toList[j] by simp [Hn,show j < p.size by simpa using hj]] at a;exact Int.not_lt.mp a
  have pD:(Am SL).Perm ((Am ls).filter fun q=>!decide (q.1=put)):=by
   refine (pS.map _).trans ?_;rw [eO];unfold He Am;rw [filter_map];exact Hs _
  have sG2:Ax H2 (upd G R (.lst (vls SL))):=Bs sG hR;have gS:By (upd G R (.lst (vls SL))) SL:=fun q m=>⟨sG2 _ _ (smH.tup (gl q (subS q m)).1),sG2 _ _ (smH.tup (gl q (subS q m)).2)⟩;have eR:(upd G R (.lst (vls SL))) R=Aa (.lst (vls SL)):=Az;generalize upd G R (.lst (vls SL))=G2 at sG2 gS eR ⊢;subst_eqs;refine ⟨R,sl,SL,m,rfl,eR,gS,sl60,fun r rs H' hr' s' er gr' et=>?_⟩;subst_eqs;exact q r rs H' (smH.gone _ (none_of sG2 hr')) (smH.trans (Sm.of (sG2.trans s'))) (.inr (l2.same (sG2.trans s'))) er gr' ⟨_,pD,srt,et⟩
theorem ok_aq (T:Tx K mg base ad):AG P w K mg base CX0 4 ad.f_aq ad.d_aq ["sheet","state","standing"] (U4 4500):=by
 exists aq
 obtain ⟨l,st,h,ls,xs,s,rfl,hl,gl,hs,gx,le,l60,h12,li,q⟩:=h;refine ⟨_,(~~~(Ih (fsc:=A7 NX) (N:=["sheet","state","standing"]) (Nc:=["sheet","state","standing","line","one"]) rfl rfl ⟨rfl,by decide +kernel,by decide +kernel,by decide +kernel,by decide +kernel,rfl,by decide +kernel,rfl,by decide +kernel⟩ rfl (Le rfl T.z_ck ((pv 0)*>((pv 1)*>Al))) (fun _ _ _ _=>DD) (fun _ _ _ _=>(ar<*(((Ek K)∩((pv 3)∪As))*>(((Ek K)∩((pv 4)∪As))*>(((Ek K)∩((pv 4)∪As))*>((pv 2)*>Al)))))))),?_⟩;have vl:=CI ls;have xl:(shv xs).length=xs.length:=At ..;have zl:(FZ s ls xs).length=ls.length:=by unfold FZ;rw [At,GI,le,Mj]
 subst_eqs;refine ⟨l,st,rfl,⟨_,SqL.of hl⟩,⟨_,SqL.of hs⟩,?_⟩;refine Qc (xs:=vls ls) (zs:=shv xs) rfl rfl (by omega) (by rw [vl];exact C9 (by omega)) (fun D i ys J=>∃rs:Ac Rw,ys=rwv rs/\J D=Aa (.lst ys)/\rs.length=i/\Ax H J/\(∀x∈rs,RwG J x/\H x.1=Ai/\x.1≠D)/\(rs.map fun x=>x.2.map (·.2))=(FZ s ls xs).take i) (fun D hD=>⟨[],rfl,Az,rfl,AN hD _,(fun _ m=>Aw m Bm),rfl⟩) (fun D i ys J hq_=>by obtain ⟨rs,f1,f2,f3,_⟩:=hq_;exact ⟨f2,by rw [f1];unfold rwv;rw [At,f3];exact A1 _⟩) (fun D i ys J hD hq_=>by obtain ⟨_,_,_,_,f4,_⟩:=hq_;exact ⟨SqL.of (f4 _ _ hl),SqL.of (f4 _ _ hs)⟩) ?_ ?_
 ·rintro D i x y T ys J K1 K2 hD hx hy ⟨rs,rfl,n1,n2,n3,n4,n5⟩ hT kk1 kk2;obtain ⟨f,hf,rfl,fm,et⟩:=F3 hx;unfold shv at hy;rw [Ba] at hy;obtain ⟨g,hg,rfl⟩:=Option.map_eq_some_iff.mp hy;obtain ⟨gg,gb,gl'⟩:=gx g (Bt hg);obtain ⟨l1,l2,l3,l4⟩:=li f fm;have s1:=AN hT (.tup [V.ref f.1,V.ref g.1]);generalize upd J T (.tup [V.ref f.1,V.ref g.1])=J1 at s1 ⊢;have sJ:=n3.trans s1;refine yes (ifT rfl ?_);refine ⟨_,rfl,f.1,_,_,_,rfl,rfl,SqT.of (sJ _ _ (gl f fm).1),rfl,?_⟩;refine ⟨_,rfl,g.1,_,_,_,rfl,rfl,SqT.of (sJ _ _ gg.t),rfl,?_⟩;refine ⟨_,rfl,g.1,_,_,_,rfl,rfl,SqT.of (sJ _ _ gg.t),rfl,?_⟩;refine ⟨_,rfl,?_⟩;refine ⟨f.2.1,g.2.2.1,h,f.2.2.1,g.2.1,g.2.2.2,s,rfl,sJ _ _ (gl f fm).2,gg.f.same sJ,gb,sJ _ _ gg.l,(fun x m=>(gg.k x m).same sJ),gl',h12,l1,l2,l3,l4,fun r fs J2 hr2 s2 e2 g2 v2=>?_⟩;have n1':=(s1.trans s2) _ _ n1;have rD:r≠D:=fun z=>by rw [z,s1 _ _ n1] at hr2;cases hr2
  have n4':∀x∈rs++[(r,fs)],RwG (upd J2 D (.lst (rwv rs++[V.ref r]))) x/\H x.1=Ai/\x.1≠D:=fun x m=>by
   have key:RwG J2 x/\H x.1=Ai/\x.1≠D:=by
    rcases mem_append.mp m with m | m
    ·exact ⟨(n4 x m).1.same (s1.trans s2),(n4 x m).2⟩
    ·rw [mem_singleton.mp m];exact ⟨⟨e2,g2⟩,none_of sJ hr2,rD⟩
   exact ⟨⟨by rw [AF key.2.2];exact key.1.1,fun f m=>(key.1.2 f m).upd n1'⟩,key.2⟩
  refine kk1 _ _ n1' ⟨rs++[(r,fs)],by unfold rwv;rw [AK];rfl,Az,by rw [Bj,n2];rfl,Bs (n3.trans (s1.trans s2)) (none_of (fun _ _ e=>e) hD),n4',?_⟩
  have tz:(FZ s ls xs)[i]?=Aa (G6 (B9 f.2.2.1 s) g.2.1.2 (g.2.2.2.map (·.2))):=by
   unfold FZ;rw [Ba,show (ls.zip xs)[i]?=Aa (f,g) from List.getElem?_zip_eq_some.mpr ⟨hf,hg⟩];rfl
  rw [Dk,tz,AK,n5];show _++[fs.map (·.2)]=_;rw [v2];rfl
 rintro D ys J hD ⟨rs,rfl,n1,n2,n3,n4,n5⟩;rw [vl,<- zl,Cn (A1 _)] at n5;exact q D rs J hD n3 n1 (fun x m=>⟨(n4 x m).1,(n4 x m).2.1⟩) n5
theorem ok_ad (T:Tx K mg base ad):AG P w K mg base CX0 4 ad.f_ad ad.d_ad ["sheet","rows","hands"] U7:=by
 exists ad
 obtain ⟨l,rl,h,ls,rs,M,rfl,hl,gl,hr',gr,M0,Mz,le,l60,h12,nz,q⟩:=h;refine ⟨_,(~~~(AaE (fsc:=A7 Lk) (N:=["sheet","rows","hands"]) (Nc:=["sheet","rows","hands","place"]) rfl rfl (by nofun) rfl (FV rfl T.z_b2 ((@AA _ _ _ _ _ _ _ _ C3 (pv 2) As)*>Al)) (fun _ _ _ _=>DD) (fun _ _ _ _=>(p<*((pv 0)*>((by exact (AaF (fsc:=A7 Lk) (Nc:=["sheet","rows","hands","place"]) (Nd:=["sheet","rows","hands","place","row"]) rfl (by nofun) rfl (AaV K (pv 1)) (fun _ _ _ _=>DD) (fun _ _ _ _=>((QH K)∩((pv 4)∪(pv 3))))))*>Al)))))),?_⟩;have rl':(rwv rs).length=rs.length:=At ..;subst_eqs;refine ⟨by omega,by omega,?_⟩;have hn:((h:Ab)+1).toNat=h+1:=by omega
 rw [hn];refine GZ (C9 (by omega)) (fun D i ys J=>∃fs:Ac Fq,ys=fqv fs/\fs.length=i/\J D=Aa (.lst ys)/\Ax H J/\(∀f∈fs,FqG J f)/\∀j f,fs[j]?=Aa f->WM M ls (Dt rs j) f.2) (fun D hD=>⟨[],rfl,rfl,Az,AN hD _,(fun _ m=>Aw m Bm),fun j f e=>by rw [List.getElem?_nil] at e;cases e⟩) (fun D i ys J hq_=>by obtain ⟨fs,f1,f2,f3,_⟩:=hq_;exact ⟨f3,by rw [f1];unfold fqv;rw [At,f2];exact A1 _⟩) ?_ ?_
 ·rintro D i ys J K1 K2 hD hi ⟨fs,rfl,n1,n2,n3,n4,n5⟩ kk1 kk2;refine yes (ifT rfl ?_);refine ⟨_,rfl,?_⟩;refine ⟨_,rfl,rl,rfl,⟨_,SqL.of (n3 _ _ hr')⟩,?_⟩;refine FL (xs:=rwv rs) (by rw [rl'];exact C9 (by omega)) (fun D2 k ys J2=>ys=fqv ((Dt rs i).take k)/\J2=upd J D2 (.lst ys)) (fun D2 hD2=>⟨rfl,rfl⟩) (fun D2 k ys J2 hq_=>by obtain ⟨f1,f2⟩:=hq_;exact ⟨by rw [f2];exact Az,by rw [f1];unfold fqv;rw [At];exact FD _ _⟩) (fun D2 k ys J2 hD2 hq_=>by obtain ⟨_,f2⟩:=hq_;rw [f2];exact SqL.of (AN hD2 _ _ _ (n3 _ _ hr'))) ?_ ?_
  ·rintro D2 k y ys J2 L1 L2 hD2 hy ⟨e,rfl⟩ ll1 ll2;unfold rwv at hy;rw [Ba] at hy;obtain ⟨x,hx,rfl⟩:=Option.map_eq_some_iff.mp hy;obtain ⟨gx,xl,xb⟩:=gr x (Bt hx);have sD:=n3.trans (AN hD2 (.lst ys));refine yes (ifT rfl ?_);refine ⟨_,rfl,_,rfl,x.1,_,_,_,rfl,rfl,SqL.of (sD _ _ gx.1),(by rw [F9];exact HQ (by unfold fqv;rw [Ba,Nl (by omega)];rfl)),?_⟩;refine ll1 _ _ Az ⟨?_,by rw [DV]⟩;rw [e,Dk,show (Dt rs i)[k]?=Aa (x.2.getD i (0,0,1)) from by unfold Dt;rw [Ba,hx];rfl];unfold fqv;rw [AK];rfl
  rintro D2 ys J2 hD2 ⟨rfl,rfl⟩;have cl:(Dt rs i).length=rs.length:=At ..;rw [rl',<- cl,Cn (A1 _)]
  exists D2,hD2,J,(.lst (fqv (Dt rs i))),J3,s2,e2
  have sJ:=n3.trans s2
  have gc:∀f∈Dt rs i,FqG J3 f/\FqM M f.2:=fun f m=>by
   obtain ⟨x,xm,rfl⟩:=mem_map.mp m;obtain ⟨gx,xl,xb⟩:=gr x xm;have hm:x.2.getD i (0,0,1)∈x.2:=Bt (Nl (by omega));exact ⟨(gx.2 _ hm).same sJ,xb _ hm⟩
  refine ⟨l,D2,ls,Dt rs i,M,rfl,sJ _ _ hl,(fun q m=>⟨sJ _ _ (gl q m).1,sJ _ _ (gl q m).2⟩),e2,gc,M0,Mz,by rw [cl];exact le,l60,nz,fun T v3 J4 s4 wm4 e4=>?_⟩;have n2':=(s2.trans s4) _ _ n2;refine kk1 _ _ n2' ⟨fs++[(T,v3)],by unfold fqv;rw [AK];rfl,by rw [Bj,n1];rfl,Az,Bs (sJ.trans s4) hD,fun f m=>FqG.upd ?_ n2',fun j f e=>?_⟩
  ·rcases mem_append.mp m with m | m
   ·exact (n4 f m).same (s2.trans s4)
   ·rw [mem_singleton.mp m];exact e4
  ·rcases (by omega:j < i\/j=i\/i < j) with lt | eq | gt
   ·rw [LU (by omega)] at e;exact n5 j f e
   ·subst eq;rw [<- n1,JX (A1 _),EI] at e;have e':=Bn e;rw [<- e'];exact wm4
   ·rw [FB (by rw [Bj,n1];exact gt)] at e
    cases e
 rintro D ys J hD ⟨fs,rfl,n1,n2,n3,n4,n5⟩;exact q D fs J hD n3 n2 n4 n1 n5
theorem ok_bc (T:Tx K mg base ad):AG P w K mg base CX0 4 ad.f_bc ad.d_bc ["tally","quota"] Ur:=by
 exists bc
 obtain ⟨f,qu,rfl,gf,b0,q1,szq,szt,szb,q⟩:=h;refine ⟨_,(@Av _ _ _ _ _ ((@C5 _ _ _ (bk<*((@Bq _ _ _ _ _ ((pv 1)*>(As*>Al)))*>((pv 0)*>Al))) (by intro _;rfl))⊆((~~~(bd<*((@Bq _ _ _ _ _ ((pv 1)*>(As*>Al)))*>((pv 0)*>Al))))∪Bp)) (~~~(@Bq _ _ _ _ _ (As*>(As*>Al))))),?_⟩;symm
 exists 2,a,ha,H,(.tup [V.int qu,V.int 1]),H1,s1,e1,rfl
 have one:Sz 9000 (1:Ab):=B_ (by decide +kernel) (by decide +kernel);symm;refine ⟨a,f.1,qu,1,f.2.1,f.2.2,rfl,e1,s1 _ _ gf,szq.mono (by decide),one,szt.mono (by decide),szb.mono (by decide),?_⟩;by_cases c:qu*f.2.2 < f.2.1*1
 ·have e:Eo f.2 qu=(BN (qu*f.2.2) (1*f.2.1),BL (qu*f.2.2) (1*f.2.1)):=by unfold Eo;rw [Ar c]
  rw [AT c];symm
  exists 2,b,hb,H1,(.tup [V.int qu,V.int 1]),H2,s2,e2,rfl
  symm
  have t0:0 < f.2.1:=by
   have:=D1 (show 0 < qu by omega) b0;omega
  refine ⟨b,f.1,qu,1,f.2.1,f.2.2,rfl,e2,(s1.trans s2) _ _ gf,(by show (1:Ab)*f.2.1≠0;omega),szq.mono (by decide),(B_ (by decide) (by decide):Sz 64 (1:Ab)).mono (by decide),szt.mono (by decide),szb.mono (by decide),fun z H' s' e'=>q z H' (s1.trans (s2.trans s')) (by rw [e];exact e')⟩
 ·have e:Eo f.2 qu=(1,1):=by unfold Eo;rw [Ao c]
  rw [AS c];symm;refine ⟨(by show 2<=AB;decide),fun b hb=>?_⟩;exact q b _ (s1.trans (AN hb _)) (by rw [e];exact Az)
theorem ok_bb (T:Tx K mg base ad):AG P w K mg base CX0 4 ad.f_bb ad.d_bb ["way","ballots","sums","standing","deed"] (Ul ad.c_b):=by
 exists bb
 obtain ⟨a,l,d,h,s,xs,m,n,hd,fs,su,seat,rfl,hd0,is,s1,s6,sg,m0,m1,bh,hd12,all,q1,szq,q⟩:=h;refine ⟨_,(@Av _ _ _ _ _ ((CU⊂((AX∩((pv 4)∪As))∪Dw))⊆((~~~(an<*((pv 0)*>(((pv 0)=<<(b.c9.bx>=>((pv 1)*>Al)))*>((pv 2)*>((pv 3)*>((AX∩((pv 4)∪As))*>Al)))))))∪Bp)) (~~~(z<*((pv 0)*>(((pv 0)=<<(b.c9.bx>=>((pv 1)*>Al)))*>((pv 2)*>((pv 3)*>((AX∩((pv 4)∪As))*>Al)))))))),?_⟩;obtain ⟨dx,la,k1,k2⟩:=id is
 cases seat with
 | true =>
   rw [Ar rfl] at hd0;subst_eqs;refine ⟨a,dx,_,rfl,k1,rfl,?_⟩;subst_eqs;refine ⟨a,h,s,xs,n,rfl,is,s1,s6,?_⟩;subst_eqs;exact ⟨a,l,h,s,xs,m,_,hd,fs,su,rfl,is,sg,m0,m1,bh,hd12,all,q1,szq,q⟩
 | false =>
   rw [Ao (by decide)] at hd0;subst_eqs;refine ⟨a,dx,_,rfl,k1,rfl,?_⟩;subst_eqs;refine ⟨a,h,s,xs,n,rfl,is,s1,s6,?_⟩;subst_eqs;exact ⟨a,l,h,s,xs,m,_,hd,fs,su,rfl,is,sg,m0,m1,bh,hd12,all,q1,szq,q⟩
theorem ok_bu (T:Tx K mg base ad):AG P w K mg base CX0 4 ad.f_bu ad.d_bu ["self","outcome","low","case"] (UK ad.c_b ad.c_a ad.c_c):=by
 exists bu
 obtain ⟨g,a,oc,h,s',xs,out,low,z,rfl,im,is,h12,hoc,gz,m0,m1,l12,q⟩:=h;refine ⟨_,(@Av _ _ _ _ _ ((@C5 _ _ _ (RK (pv 3) T.cl_a T.me_a_cn (ok_h T) (hr.mono (by decide)) T.b_h .nil Fs) (by intro _;rfl))⊆((~~~(G5 ((Ry hr.units)⊂(((pv 3)=<<(a.dd.ae>=>((Be (Be (pv 0) rfl) rfl)*>Al)))∪(pv 1))) Dw Dw))∪Bp)) (~~~(G5 (EV⊂((Be (pv 3) rfl)∪(pv 2))) Dw Dw))),?_⟩;obtain ⟨dx,ho⟩:=id gz.o;symm;refine ⟨z.a,dx,_,rfl,ho,rfl,?_⟩;refine ⟨z,rfl,gz,m0,m1,fun H1 s1=>?_⟩;have gz1:=gz.same s1;have ho1:=s1 _ _ ho;obtain ⟨dm,hg⟩:=id (im.same s1);obtain ⟨dx2,la,k1,k2⟩:=id (is.same s1);refine ⟨_,rfl,?_⟩
 cases hE:Ha z.m z.pl with
 | true =>
   refine ifT rfl ?_;symm;refine ⟨z.a,dx,_,rfl,ho1,rfl,?_⟩;symm;refine ⟨g,_,dm,_,_,rfl,hg,T.cl_c,T.na_c_b6,rfl,?_⟩;refine ⟨a,_,dx2,_,_,rfl,k1,T.cl_b,T.na_b_b1,rfl,?_⟩;symm;refine ⟨z,h,rfl,gz1,m0,m1,h12,l12,fun lt H2 hlt s2 e2=>?_⟩;have hoc2:=(s1.trans s2) _ _ hoc;symm;refine ⟨lt,oc,F2 h z,out,rfl,rfl,SqL.of e2,SqL.of hoc2,?_⟩;refine ⟨_,rfl,?_⟩;by_cases c:F2 h z=out
   ·exact ifT (AT c) (q _ H2 (s1.trans s2))
   ·exact ifF (AS c) (q _ H2 (s1.trans s2))
 | false =>
   refine ifF rfl ?_;symm;refine ⟨z.a,_,dx,_,_,rfl,ho1,T.cl_a,T.na_a_b5,rfl,?_⟩;symm;by_cases c:z.nd < low
   ·exact ifT (AT c) (q _ H1 s1)
   ·exact ifF (AS c) (q _ H1 s1)
theorem ok_ag (T:Tx K mg base ad):AG P w K mg base CX0 4 ad.f_ag ad.d_ag ["self","hands","seats","lots"] (Ux K):=by
 exists ag
 obtain ⟨a,C,dx,l,h,s,ns,rfl,ha,cl,n1,n2,n3,h1,h12,s1,s6,hl,pm,q⟩:=h;refine ⟨_,(@Av _ _ _ _ _ (@CG _ _ _ _ (AaD (ok_r T) (hr.mono (by decide)) rfl T.m_ca T.cf_ca_cw T.F_r.kp T.b_r .nil Fs ((pv 0)*>((pv 1)*>((pv 2)*>((pv 3)*>Al))))) (by rfl)) (@AY _ _ _ ((FR⊂((pv 2)∪(Jw (v:=.int 6) rfl T.k_cs ⟨_,rfl⟩)))⊆((@AY _ _ _ FX)∪Bp)))),?_⟩;symm;refine ⟨a,C,dx,l,h,s,ns,rfl,ha,cl,n1,n2,n3,h1,h12,s1,by omega,hl,pm,fun l' H1 la hl' g1 a1 l1=>?_⟩;symm;refine ifF (AS (by omega)) ?_;exact q l' H1 g1 a1 l1
theorem ok_bw (T:Tx K mg base ad):AG P w K mg base CX0 4 ad.f_bw ad.d_bw ["self","sums","standing","places","quota"] (TV ad.c_b):=by
 exists bw
 obtain ⟨a,l,h,s,xs,m,qu,pl,fs,su,rfl,is,sg,hx,x12,m0,m1,hb,szq,q⟩:=h;refine ⟨_,(@Av _ _ _ _ _ ((Hd⊂((ac<*((pv 2)*>Al))∪(pv 3)))⊆((~~~(@Bq _ _ _ _ _ (Dw*>(FS*>Al))))∪Bp)) (@Av _ _ _ _ _ ((CU⊂((pv 3)∪As))⊆((~~~(@Bq _ _ _ _ _ (Dw*>(FS*>Al))))∪Bp)) (@Av _ _ _ _ _ (5<$>((pv 0)=<<(b.c2.aw>=>((pv 1)*>((pv 2)*>Al))))) (@Av _ _ _ _ _ ((@Es _ _ _ _ (@C5 _ _ _ (bk<*((CM∩((pv 1)∪(pv 5)))*>((@Bq _ _ _ _ _ ((pv 4)*>(As*>Al)))*>Al))) (by intro _;rfl)))⊆((~~~(@Bq _ _ _ _ _ (Dw*>((pv 5)*>Al))))∪Bp)) (~~~(@Bq _ _ _ _ _ (Dw*>(((pv 0)=<<(b.c5.ax>=>((pv 1)*>((pv 2)*>Al))))*>Al)))))))),?_⟩;have is':=id is;obtain ⟨dx,lo,k1,k2⟩:=is';unfold Dh at q;subst_eqs;refine ⟨m0,m1,fun H1 s1=>?_⟩;have k11:=s1 _ _ k1;by_cases c1:(hands 12 (bit m)).length<=pl
 ·rw [Ar c1] at q;subst_eqs;refine ifT (AT (by omega)) ?_;subst_eqs;refine ⟨(by show 2<=AB;decide),fun t ht=>?_⟩;exact q t _ (none_of s1 ht) (s1.trans (AN ht _)) Az
 rw [Ao c1] at q;subst_eqs;refine ifF (AS (by omega)) ?_;subst_eqs;by_cases c2:pl=0
 ·rw [Ar c2] at q;refine ifT (Hb (by omega)) ?_;subst_eqs;refine ⟨(by show 2<=AB;decide),fun t ht=>?_⟩;exact q t _ (none_of s1 ht) (s1.trans (AN ht _)) Az
 rw [Ao c2] at q;refine ifF (HW (by omega)) ?_
 have ne:BR xs m≠[]:=fun e=>by
  have:hands 12 (bit m)≠[]:=fun z=>by rw [z] at c1;exact c1 (Br _)
  obtain ⟨z,zm⟩:=V' _ this;obtain ⟨j,j12,bj,rfl⟩:=E7.mp zm;have:(j:Ab)∈BR xs m:=mem_filter.mpr ⟨hb j bj,by rw [B7];exact bj⟩;rw [e] at this;exact nomatch this
 have bm:=MX (su:=su) ne;have wm:=Oj (su:=su) ne;have bx:=hx _ (mem_filter.mp bm).1;have wx:=hx _ (mem_filter.mp wm).1;subst_eqs;refine ⟨a,dx,_,rfl,k11,rfl,?_⟩;subst_eqs;refine ⟨a,l,h,s,xs,m,fs,su,rfl,is.same s1,sg.same s1,hx,x12,ne,fun H2 s2=>?_⟩;have s12:=s1.trans s2;have sg2:=sg.same s12;have l2:=sg2.l;obtain ⟨ab,a1,a2,a3,a4⟩:=sg2.at bx.1 bx.2;subst_eqs;refine ⟨l,_,_,_,rfl,rfl,SqL.of l2,a1,?_⟩;subst_eqs
 exists 2,t0,ht0,H2,(.tup [V.int qu,V.int 1]),H3,s3,e3,rfl
 have s13:=s12.trans s3;subst_eqs;refine ⟨ab,t0,_,_,qu,1,rfl,s3 _ _ a2,e3,a3,a4,szq.mono (by decide),(B_ (by decide) (by decide):Sz 64 (1:Ab)).mono (by decide),?_⟩;rw [show decide ((pr (at0 su (DA su (BR xs m)))).1*1 < qu*(pr (at0 su (DA su (BR xs m)))).2)=decide (at0 su (DA su (BR xs m)) < (qu:Ap)) from decide_eq_decide.mpr (KO _ (qu:Ap))];by_cases c3:at0 su (DA su (BR xs m)) < (qu:Ap)
 ·rw [Ar c3] at q;rw [AT c3];have k13:=s13 _ _ k1;subst_eqs;refine ⟨a,dx,_,rfl,k13,rfl,?_⟩;subst_eqs;refine ⟨a,l,h,s,xs,m,fs,su,rfl,is.same s13,sg.same s13,hx,x12,ne,fun H4 s4=>?_⟩;refine ⟨(by show 2<=AB;decide),fun t ht=>?_⟩;refine q t _ (none_of (s13.trans s4) ht) ((s13.trans s4).trans (AN ht _)) ?_;rw [Az];show _=Aa (HO.tup [V.str "out",V.int ((EZ su (BR xs m)).toNat:Ab)]);rw [VV wx.1]
 ·rw [Ao c3] at q;rw [AS c3];subst_eqs;refine ⟨(by show 2<=AB;decide),fun t ht=>?_⟩;refine q t _ (none_of s13 ht) (s13.trans (AN ht _)) ?_;rw [Az];show _=Aa (HO.tup [V.str "seat",V.int ((DA su (BR xs m)).toNat:Ab)]);rw [VV bx.1]
theorem ok_f (T:Tx K mg base ad):AG P w K mg base CX0 5 ad.f_f ad.d_f ["sheet","state","standing","hand","quota"] Uc:=by
 exists f
 obtain ⟨l,st,h,hd,ls,xs,s,qu,M,rfl,hl,gl,hs,gx,M0,Mz,le,l60,h12,hh,q1,szq,li,q⟩:=h;refine ⟨_,(@Av _ _ _ _ _ (Abe (j:=5) (fsc:=A7 s_f) (N:=["sheet","state","standing","hand","quota","shares","part","reckoned","behind","one","share","asked","given"]) (Nc:=["sheet","state","standing","hand","quota","shares","part","reckoned","behind",".s9","share","asked","given","line","one"]) rfl rfl ⟨rfl,by decide +kernel,by decide +kernel,by decide +kernel,by decide +kernel,rfl,by decide +kernel,rfl,by decide +kernel⟩ rfl sc_f.nd rfl rfl (Le rfl T.z_ck ((pv 0)*>((pv 1)*>Al))) (fun _ _ _ _=>DD) (fun _ _ _ _=>(bf<*(((Ek K)∩((pv 13)∪As))*>(((Ek K)∩((pv 14)∪As))*>((pv 2)*>((pv 3)*>Al)))))) rfl) (@Av _ _ _ _ _ (6<$>(bc<*((p<*((pv 0)*>((pv 5)*>Al)))*>((pv 4)*>Al)))) (@Av _ _ _ _ _ (7<$>AaI) (@Av _ _ _ _ _ (8<$>(@CV _ _ _ _ Al)) (@Av _ _ _ _ _ (C4 Ci rfl (Le rfl T.z_ck ((pv 1)*>((pv 5)*>Al))) (EC rfl (BY (B5 (i:=9) sc_f.nd rfl (B2 rfl)) (BY (B5 (i:=10) sc_f.nd rfl (B2 rfl)) ED))) (@Av _ _ _ _ _ (11<$>(@Bq _ _ _ _ _ ((AX∩((pv 9)∪As))*>((pv 10)*>Al)))) (@Av _ _ _ _ _ (@Hh _ _ _ _ _ _ _ _ (@Jz _ _ _ _ _ _ _ _ (Aay (u2 hr.units)) (pv 11) (pv 7) (by with_unfolding_all rfl)) (@Av _ _ _ _ _ (12<$>(bj<*((pv 10)*>((pv 6)*>Al)))) (@AY _ _ _ (Aba (u2 hr.units) (pv 7) (pv 11) (@Bq _ _ _ _ _ ((pv 12)*>((ba<*((AX∩((pv 9)∪As))*>((pv 12)*>Al)))*>Al))) rfl))) Bp) (@AY _ _ _ (@CG _ _ _ _ (CN CP EJ PySem.F.type_list_append El (pv 8) ((@Bq _ _ _ _ _ ((AX∩((RI (u2 hr.units) (pv 7) (pv 11) (fun _ _=>rfl))∪As))*>((bm<*((AX∩((pv 9)∪As))*>((pv 3)*>((AX∩((RI (u2 hr.units) (pv 7) (pv 11) (fun _ _=>rfl))∪As))*>Al))))*>Al)))*>Al)) (by rfl)))))) (~~~(pv 8))))))),?_⟩;have vl:=CI ls;have xl:(shv xs).length=xs.length:=At ..;have zl:(DT ls xs s hd).length=ls.length:=by unfold DT;rw [At,GI,le,Mj]
 subst_eqs;refine ⟨l,st,rfl,⟨_,SqL.of hl⟩,⟨_,SqL.of hs⟩,?_⟩;refine Qc (xs:=vls ls) (zs:=shv xs) rfl rfl (by omega) (by rw [vl];exact C9 (by omega)) (fun D i ys J=>∃fs:Ac Fq,ys=fqv fs/\J D=Aa (.lst ys)/\fs.length=i/\Ax H J/\(∀f∈fs,FqG J f)/\fs.map (·.2)=(DT ls xs s hd).take i) (fun D hD=>⟨[],rfl,Az,rfl,AN hD _,(fun _ m=>Aw m Bm),rfl⟩) (fun D i ys J hq_=>by obtain ⟨fs,f1,f2,f3,_⟩:=hq_;exact ⟨f2,by rw [f1];unfold fqv;rw [At,f3];exact A1 _⟩) (fun D i ys J hD hq_=>by obtain ⟨_,_,_,_,f4,_⟩:=hq_;exact ⟨SqL.of (f4 _ _ hl),SqL.of (f4 _ _ hs)⟩) ?_ ?_
 ·rintro D i x y T ys J K1 K2 hD hx hy ⟨fs,rfl,n1,n2,n3,n4,n5⟩ hT kk1 kk2;obtain ⟨f,hf,rfl,fm,et⟩:=F3 hx;unfold shv at hy;rw [Ba] at hy;obtain ⟨g,hg,rfl⟩:=Option.map_eq_some_iff.mp hy;obtain ⟨gg,gb,ggc,gl'⟩:=gx g (Bt hg);have s1:=AN hT (.tup [V.ref f.1,V.ref g.1]);generalize upd J T (.tup [V.ref f.1,V.ref g.1])=J1 at s1 ⊢;have sJ:=n3.trans s1;refine yes (ifT rfl ?_);refine ⟨_,rfl,f.1,_,_,_,rfl,rfl,SqT.of (sJ _ _ (gl f fm).1),rfl,?_⟩;refine ⟨_,rfl,g.1,_,_,_,rfl,rfl,SqT.of (sJ _ _ gg.t),rfl,?_⟩;refine ⟨_,rfl,_,rfl,?_⟩;refine ⟨f.2.1,h,hd,f.2.2.1,g.2.1,s,rfl,sJ _ _ (gl f fm).2,gg.f.same sJ,gb.fq M0 (Mz.mono (by decide)),h12,hh,(li f fm).1,fun a J2 s2 g2=>?_⟩;have n1':=(s1.trans s2) _ _ n1;refine kk1 _ _ n1' ⟨fs++[(a,DF f.2.2.1 s hd g.2.1.2)],by unfold fqv;rw [AK];rfl,Az,by rw [Bj,n2];rfl,Bs (n3.trans (s1.trans s2)) hD,(fun f m=>FqG.upd ?_ n1'),?_⟩
  ·rcases mem_append.mp m with m | m
   ·exact (n4 f m).same (s1.trans s2)
   ·rw [mem_singleton.mp m];exact g2
  ·have tz:(DT ls xs s hd)[i]?=Aa (DF f.2.2.1 s hd g.2.1.2):=by
    unfold DT;rw [Ba,show (ls.zip xs)[i]?=Aa (f,g) from List.getElem?_zip_eq_some.mpr ⟨hf,hg⟩];rfl
   rw [Dk,tz,AK,n5];rfl
 rintro D ys H1 hD ⟨fs,rfl,e1,fl,s1,g1,v1⟩;rw [vl,<- zl,Cn (A1 _)] at v1;rw [vl] at fl;have M1:0 < M*27720:=by omega
 have Mz1:Sz 2225 (M*27720):=(Mz.mul (B_ (by decide) (by decide):Sz 15 (27720:Ab))).mono (by decide)
 have flow:∀f∈fs,FqM (M*27720) f.2/\AW f.2.1 f.2.2=1:=fun f m=>by
  have:f.2∈fs.map (·.2):=mem_map.mpr ⟨f,m,rfl⟩;rw [v1] at this;obtain ⟨p,pm,e⟩:=mem_map.mp this;rw [<- e];obtain ⟨_,pm1,pm2,_⟩:=gx p.2 (Fd pm).2;obtain ⟨a1,a2,_⟩:=T4 (ts:=p.1.2.2.1) (s:=s) (hd:=hd) (by omega) M0 pm1 pm2;exact ⟨a1,a2⟩
 subst_eqs;refine ⟨l,D,ls,fs,M*27720,rfl,s1 _ _ hl,(fun q m=>⟨s1 _ _ (gl q m).1,s1 _ _ (gl q m).2⟩),e1,(fun f m=>⟨g1 f m,(flow f m).1⟩),M1,Mz1.mono (by decide),by omega,l60,(fun q m=>(li q m).2),fun T v H2 s2 wi g2=>?_⟩;obtain ⟨t0v,v0,vg,vzb,_,vzt⟩:=Vu wi M1 Mz1 (fun q m=>(li q m).2) (fun f m=>(flow f m).1) l60;subst_eqs;refine ⟨(T,v),qu,rfl,g2,v0,q1,szq.mono (by decide),vzt.mono (by decide),vzb.mono (by decide),fun pa H3 s3 g3=>?_⟩;have pr:=AaC (n:=0) v0 q1 vzt;generalize hpt:Eo v qu=part at g3 pr;have s13:=s2.trans s3;have s03:=s1.trans s13;have g3':H3 pa=Aa (.tup [.int part.1,.int part.2]):=g3;subst_eqs;intro d ob hd0 nt0;have s4:=AN hd0 (hoF d ob);generalize upd H3 d (hoF d ob)=H4 at s4 nt0 ⊢;subst_eqs
 exists 0,bh,hbh,H4,(.lst []),H5,s5,e5,rfl
 have dH:H d=Ai:=none_of s03 hd0;have bH:H bh=Ai:=none_of (s03.trans s4) hbh;subst_eqs;refine ⟨st,D,rfl,⟨_,SqL.of ((s03.trans (s4.trans s5)) _ _ hs)⟩,⟨_,SqL.of ((s13.trans (s4.trans s5)) _ _ e1)⟩,?_⟩;refine Qw (xs:=shv xs) (ys:=fqv fs) (by unfold fqv;rw [xl,At];omega) (fun i σ' J=>Ex6 fun (v9 v10 v11 v12:A5 V) (kvs:Ac (Ac (Ac Key) × V)) (ys:Ac Sh)=>σ'=[Aa (.ref l),Aa (.ref st),Aa (.int s),Aa (.int (hd:Ab)),Aa (.int qu),Aa (.ref D),Aa (.ref pa),Aa (.ref d),Aa (.ref bh),v9,v10,v11,v12]/\Ax H3 J/\NT P w J d kvs/\kvs.length<=i/\RIn part J kvs/\J bh=Aa (.lst (shv ys))/\ys.length=i/\(∀y∈ys,ShG J y/\H y.2.2.1=Ai/\y.2.2.1≠bh)/\(ys.map fun y=>y.2.2.1).Nodup/\ys.map shV=((xs.zip (DT ls xs s hd)).take i).map fun p=>HY hd p.2 part (shV p.1)) ⟨Ai,Ai,Ai,Ai,[],[],rfl,s4.trans s5,nt0.same s5,A1 _,(fun k v z=>nomatch z),e5,rfl,(fun _ m=>Aw m Bm),Fc,rfl⟩ (fun i σ' J _ hq_=>by obtain ⟨_,_,_,_,_,_,_,e,_⟩:=hq_;exact ⟨SqL.of (e _ _ (s03 _ _ hs)),SqL.of (e _ _ (s13 _ _ e1))⟩) ?_ ?_
 ·rintro i x0 y0 T0 σ' J hx hy ⟨v9,v10,v11,v12,kvs,ys,rfl,sJ,nt,kl,ri,eb,yl,gy,nd,vy⟩ hT0;unfold shv at hx;rw [Ba] at hx;obtain ⟨x,hx',rfl⟩:=Option.map_eq_some_iff.mp hx;unfold fqv at hy;rw [Ba] at hy;obtain ⟨f,hf,rfl⟩:=Option.map_eq_some_iff.mp hy;obtain ⟨gx0,lx,lxg,lenx⟩:=gx x (Bt hx');have fm:=Bt hf;obtain ⟨lf,lfg⟩:=flow f fm;have lzt:=lf.szt M1 Mz1;have lzb:=lf.szb M1 Mz1;obtain ⟨glo,gle⟩:=YV lf.t0 lf.b0 lzt lzb pr
  exists T0,hT0,J,(.tup [V.ref x.1,V.ref f.1]),J1,s6,e6
  have xt1:=(s03.trans (sJ.trans s6)) _ _ gx0.t;refine ⟨T0,_,rfl,SqT.of e6,rfl,_,_,rfl,_,_,rfl,rfl,?_⟩;subst_eqs
  exists 2,A,hA,J1,(.tup [V.ref x.2.1.1,V.ref f.1]),J2,s7,e7,rfl
  have s67:=s6.trans s7;have sJ2:=sJ.trans s67;have gxJ:=gx0.same (s03.trans sJ2);have gfJ:=(g1 f fm).same (s13.trans sJ2);have key:=Aam (f:=x.2.1) (s:=f) e7 gxJ.f gfJ;have nt2:=nt.same s67;have ri2:=ri.same s67;have xt2:=gxJ.t
  have ge:L2' (Cs f.2 part) x.2.1.2:=by
   refine L2'.trans lf.b0 (BH glo.b0) (BH lx.b0) gle ?_;have:f.2∈fs.map (·.2):=mem_map.mpr ⟨f,fm,rfl⟩;have hz:(DT ls xs s hd)[i]?=Aa f.2:=by rw [<- v1,Ba,hf];rfl
   unfold DT at hz;rw [Ba] at hz;obtain ⟨pp,hp,e⟩:=Option.map_eq_some_iff.mp hz;obtain ⟨p1,p2⟩:=List.getElem?_zip_eq_some.mp hp;have:pp.2=x:=Bn (p2.symm.trans hx');rw [<- e,this];exact (T4 (by omega) M0 lx lxg).2.2
  obtain ⟨ob2,hob2⟩:∃ob,J2 d=Aa (hoF d ob):=by obtain ⟨ob,z,_⟩:=id nt2;exact ⟨ob,z⟩
  subst_eqs;refine ⟨fun σ' J3=>∃(v12:A5 V) (kvs':Ac (Ac (Ac Key) × V)),σ'=[Aa (.ref l),Aa (.ref st),Aa (.int s),Aa (.int (hd:Ab)),Aa (.int qu),Aa (.ref D),Aa (.ref pa),Aa (.ref d),Aa (.ref bh),Aa (.ref x.1),Aa (.ref f.1),Aa (.ref A),v12]/\GY d J2 J3/\NT P w J3 d kvs'/\kvs'.length<=i+1/\RIn part J3 kvs'/\∃u,A' kvs' (nk x.2.1.2 f.2)=Aa u,?_,?_⟩
  ·subst_eqs;refine ⟨d,A,kvs,nk x.2.1.2 f.2,rfl,rfl,nt2,key,?_⟩
   cases hv:A' kvs (nk x.2.1.2 f.2) with
   | some u =>
     subst_eqs;exact ⟨_,kvs,rfl,(fun b u e _=>e),nt2,by omega,ri2,u,hv⟩
   | none =>
     subst_eqs;refine ⟨f.1,pa,f.2.1,f.2.2,part.1,part.2,rfl,gfJ,sJ2 _ _ g3,(by show f.2.2*part.2≠0;exact E_ (D1 lf.b0 pr.b0)),lzt.mono (by decide),lzb.mono (by decide),pr.szt.mono (by decide),pr.szb.mono (by decide),fun g J4 s8 g8=>?_⟩;have g8':FqG J4 (g,Cs f.2 part):=g8;have xt4:=s8 _ _ xt2;subst_eqs;refine ⟨x.2.1.1,g,x.2.1.2.1,x.2.1.2.2,(Cs f.2 part).1,(Cs f.2 part).2,rfl,s8 _ _ gxJ.f,g8',(by show x.2.1.2.2*(Cs f.2 part).2≠0;exact E_ (D1 lx.b0 glo.b0)),(lx.szt M0 Mz).mono (by decide),(lx.szb M0 Mz).mono (by decide),glo.szt.mono (by decide),glo.szb.mono (by decide),fun r J5 s9 g9=>?_⟩;have g9':FqG J5 (r,Fw x.2.1.2 (Cs f.2 part)):=g9;subst_eqs
     exists 2,tt,htt,J5,(.tup [V.ref g,V.ref r]),J6,s10,e10,rfl
     have s26:=s8.trans (s9.trans s10);subst_eqs;refine ⟨d,A,kvs,nk x.2.1.2 f.2,rfl,rfl,nt2.same s26,key.same s26,Dn kl (B' (List.getElem?_eq_some_iff.mp hf).1 (by rw [fl];exact C9 (by omega))),fun ob3 nt3=>?_⟩;have hob6:J6 d=Aa (hoF d ob2):=s26 _ _ hob2;have tk:∀b zs,J6 b=Aa (.tup zs)->(upd J6 d (hoF d ob3)) b=Aa (.tup zs):=fun b zs e=>by rw [AF (Ce e hob6 (fun z=>by cases z))];exact e
     refine ⟨_,_,rfl,(fun b u e n=>by rw [AF n];exact s26 _ _ e),nt3,BE (Jk ..) (by omega),((ri2.same s26).put e10 (g8'.same (s9.trans s10)) (g9'.same s10)).tups tk,.ref tt,?_⟩;rw [Oe,Ar rfl]
  rintro σ' J3 ⟨v12',kvs',rfl,oD,nt3,kl3,ri3,u,hu⟩;obtain ⟨fr,sh,tt,g,r,k1,rfl,k3,k4,k5⟩:=ri3 _ _ hu;obtain ⟨rfl,rfl⟩:=Aal k1;have eb3:=oD.lst hob2 _ _ (s67 _ _ eb);have gx3:=oD.sh hob2 gxJ;have xt3:=gx3.t;have key3:=key.tups (oD.tup hob2);subst_eqs;refine ⟨.inl ⟨rfl,_,SqL.of eb3⟩,?_⟩;subst_eqs;refine ⟨d,A,kvs',nk x.2.1.2 f.2,.ref tt,rfl,rfl,nt3,key3,hu,?_⟩;subst_eqs;refine ⟨d,A,kvs',nk x.2.1.2 f.2,.ref tt,rfl,rfl,nt3,key3,hu,?_⟩;subst_eqs;refine ⟨x.2.2.1,hd,x.2.2.2,(g,Cs f.2 part),rfl,gx3.l,gx3.k,k4,by omega,by omega,fun kl2 J4 hkl s8 e8=>?_⟩
  exists 2,t2,ht2,J4,(.tup [V.ref r,V.ref kl2]),J5,s9,e9,rfl
  have s89:=s8.trans s9;have eb5:=s89 _ _ eb3;have klb:kl2≠bh:=fun z=>by rw [z,eb3] at hkl;cases hkl
  have sJ3:∀b u,H3 b=Aa u->J3 b=Aa u:=fun b u e=>oD b u (sJ2 _ _ e) (Em e hd0);have klH:H kl2=Ai:=none_of (show Ax H J3 from fun b u e=>sJ3 b u (s03 _ _ e)) hkl;have tz:(xs.zip (DT ls xs s hd))[i]?=Aa (x,f.2):=List.getElem?_zip_eq_some.mpr ⟨hx',by rw [<- v1,Ba,hf];rfl⟩;refine ⟨bh,_,_,rfl,rfl,eb5,(by unfold shv;rw [At,yl];exact C8 (by have:=(List.getElem?_eq_some_iff.mp hf).1;omega)),?_⟩;refine ⟨_,_,_,_,kvs',ys++[(t2,(r,Fw x.2.1.2 (Cs f.2 part)),kl2,x.2.2.2.set hd (g,Cs f.2 part))],rfl,Bs (fun b u e=>s89 _ _ (sJ3 b u e)) (none_of s4 hbh),?_,kl3,?_,(by rw [Az];unfold shv;rw [AK];rfl),by rw [Bj,yl];rfl,(fun y k=>?_),?_,?_⟩
  ·obtain ⟨ob5,z1,z2,z3,xs5,z4,z5⟩:=nt3.same s89;exact ⟨ob5,by rw [AF (fun z=>by rw [z,eb5] at z1;cases z1)];exact z1,z2,z3,xs5,z4.tups fun c cs e=>by rw [AF (Ce e eb5 (fun z=>by cases z))];exact e,z5⟩
  ·exact (ri3.same s89).tups fun c cs e=>by rw [AF (Ce e eb5 (fun z=>by cases z))];exact e
  ·rcases mem_append.mp k with k | k
   ·obtain ⟨a1,a2,a3⟩:=gy y k;exact ⟨(((oD.sh hob2 (a1.same s67)).same s89)).upd eb5 a3,a2,a3⟩
   ·rw [mem_singleton.mp k];refine ⟨ShG.upd ⟨e9,k5.same s89,s9 _ _ e8,fun z zm=>?_⟩ eb5 klb,klH,klb⟩;rcases Mb zm with zm | rfl
    ·exact (gx3.k z zm).same s89
    ·exact k4.same s89
  ·rw [AK,Wp];refine ⟨nd,nodup_cons.mpr ⟨(fun m=>nomatch m),Fc⟩,fun y m z k e=>?_⟩;obtain ⟨y',ym,rfl⟩:=mem_map.mp m;rw [mem_singleton.mp k] at e;have:=(oD.sh hob2 ((gy y' ym).1.same s67)).l;rw [e] at this;rw [hkl] at this
   cases this
  ·rw [Dk,tz,AK,AK,vy];show _++[_]=_++[_]
   congr 2
   show ((Fw x.2.1.2 (Cs f.2 part)),(x.2.2.2.set hd (g,Cs f.2 part)).map (·.2))=(Fw x.2.1.2 (Cs f.2 part),(x.2.2.2.map (·.2)).set hd (Cs f.2 part));rw [JY]
 rintro σ' J ⟨v9,v10,v11,v12,kvs,ys,rfl,sJ,nt,kl,ri,eb,yl,gy,nd,vy⟩;rw [xl,Cn (by rw [GI,zl,le,Mj];exact A1 _)] at vy;subst_eqs;rw [<- hpt] at vy;exact q bh ys fs v J bH (s03.trans sJ) eb gy nd v1 wi vy
theorem ok_az (T:Tx K mg base ad):AG P w K mg base CX0 5 ad.f_az ad.d_az ["way","ballots","sums","state","case","deed"] (TJ ad.c_b ad.c_a):=by
 exists az
 obtain ⟨a,l,d,st,h,s',xs,n,hd,fs,su,seat,z,rfl,hd0,is,s1,s6,sg,gz,ed,m0,m1,bh,hd12,all,q1,szq,q⟩:=h;refine ⟨_,(@Av _ _ _ _ _ (6<$>(G5 (CU⊂((AX∩((pv 5)∪As))∪Dw)) (@AA _ _ _ _ _ _ _ _ Ea (Be (pv 4) rfl) As) (Be (pv 4) rfl))) (@Av _ _ _ _ _ (7<$>(@B4 _ _ _ _ _ _ _ _ _ (PV rfl) (by rfl) T.z_ch Mq ((Be (pv 4) rfl)*>((bb<*((pv 0)*>((pv 1)*>((pv 2)*>((Be (pv 4) rfl)*>((pv 5)*>Al))))))*>Al)) (by decide) (by decide) (by rfl) (by rfl))) (~~~(Ld T.mk_a (ok_i T) (hr.mono (by decide)) rfl T.m_a T.b_i .nil Fs ((@AA _ _ _ _ _ _ _ _ Aau (Be (pv 4) rfl) (@Bq _ _ _ _ _ ((pv 5)*>Al)))*>((bo<*((Be (pv 4) rfl)*>((AX∩((pv 5)∪As))*>Al)))*>((pv 6)*>((pv 7)*>((pv 3)*>Al))))))))),?_⟩;obtain ⟨dx,ho⟩:=id gz.o;have ht:=gz.t;rw [ed] at ht
 cases seat with
 | true =>
   rw [Ar rfl] at hd0;subst_eqs;refine ⟨z.a,_,dx,_,_,rfl,ho,T.cl_a,T.na_a_cb,rfl,?_⟩;subst_eqs;refine ⟨z.a,_,dx,_,_,rfl,ho,T.cl_a,T.na_a_b5,rfl,?_⟩;subst_eqs;refine ⟨z.a,_,dx,_,_,rfl,ho,T.cl_a,T.na_a_b3,rfl,?_⟩;subst_eqs;refine ⟨a,l,d,h,s',xs,z.m,n,hd,fs,su,Af,rfl,(by rw [Ar rfl];exact hd0),is,s1,s6,sg,m0,m1,bh,hd12,all,q1,szq,fun f H1 t1 ff=>?_⟩;have ho1:=t1 _ _ ho;have hd1:=t1 _ _ hd0;refine ⟨z.nd,f,rfl,?_⟩;have mx:(if f > z.nd then f else z.nd)=max z.nd f:=by split <;> omega
   rw [mx];subst_eqs;refine ⟨z.a,_,dx,_,_,rfl,ho1,T.cl_a,T.na_a_b8,rfl,?_⟩;subst_eqs
   exists 1,t,ht1,H1,(.tup [V.ref d]),H2,t2,e2,rfl
   have ho2:=t2 _ _ ho1;have hd2:=t2 _ _ hd1;refine ⟨z.dt,t,_,rfl,rfl,SqT.of ((t1.trans t2) _ _ ht),SqT.of e2,?_⟩;subst_eqs;refine ⟨z.a,_,dx,_,_,rfl,ho2,T.cl_a,T.na_a_b3,rfl,?_⟩;subst_eqs;refine ⟨z.m,(hd:Ab),rfl,by omega,by omega,?_⟩;rw [B7,H_,Ar bh,EF];subst_eqs;intro c cx hc hcx nec;have kc:Ax H2 (upd (upd H2 cx (.own c)) c (.ins ad.c_a cx [])):=(AN hcx _).trans (AN (by rw [AF (BF nec)];exact hc) _);refine ⟨c,ad.c_a,cx,t,st,z.m - 2 ^ hd,_,_,rfl,Az,T.cl_a,T.na_a_b8,T.na_a_b3,T.na_a_cb,T.na_a_b5,T.na_a_ci,fun H3 s3 o3=>?_⟩;rw [Jq] at s3;have s3:=(Ib (AN hcx (.own c)) hc).trans s3;refine ⟨rfl,?_⟩;clear kc;have t3:=t1.trans (t2.trans s3);refine q ⟨c,t,st,[(d,.seat hd)],z.m - 2 ^ hd,z.pl - 1,max z.nd f⟩ H3 (none_of (t1.trans t2) hc) t3 ⟨⟨cx,o3⟩,s3 _ _ e2,fun x k=>?_⟩ ⟨by rw [ed];rfl,rfl,rfl,f,rfl,ff⟩;rw [mem_singleton.mp k];exact s3 _ _ hd2
 | false =>
   rw [Ao (by decide)] at hd0;subst_eqs;refine ⟨z.a,_,dx,_,_,rfl,ho,T.cl_a,T.na_a_cb,rfl,?_⟩;subst_eqs;refine ⟨z.a,_,dx,_,_,rfl,ho,T.cl_a,T.na_a_b5,rfl,?_⟩;subst_eqs;refine ⟨z.a,_,dx,_,_,rfl,ho,T.cl_a,T.na_a_b3,rfl,?_⟩;subst_eqs;refine ⟨a,l,d,h,s',xs,z.m,n,hd,fs,su,Aq,rfl,(by rw [Ao (by decide)];exact hd0),is,s1,s6,sg,m0,m1,bh,hd12,all,q1,szq,fun f H1 t1 ff=>?_⟩;have ho1:=t1 _ _ ho;have hd1:=t1 _ _ hd0;refine ⟨z.nd,f,rfl,?_⟩;have mx:(if f > z.nd then f else z.nd)=max z.nd f:=by split <;> omega
   rw [mx];subst_eqs;refine ⟨z.a,_,dx,_,_,rfl,ho1,T.cl_a,T.na_a_b8,rfl,?_⟩;subst_eqs
   exists 1,t,ht1,H1,(.tup [V.ref d]),H2,t2,e2,rfl
   have ho2:=t2 _ _ ho1;have hd2:=t2 _ _ hd1;refine ⟨z.dt,t,_,rfl,rfl,SqT.of ((t1.trans t2) _ _ ht),SqT.of e2,?_⟩;subst_eqs;refine ⟨z.a,_,dx,_,_,rfl,ho2,T.cl_a,T.na_a_b3,rfl,?_⟩;subst_eqs;refine ⟨z.m,(hd:Ab),rfl,by omega,by omega,?_⟩;rw [B7,H_,Ar bh,EF];subst_eqs;intro c cx hc hcx nec;have kc:Ax H2 (upd (upd H2 cx (.own c)) c (.ins ad.c_a cx [])):=(AN hcx _).trans (AN (by rw [AF (BF nec)];exact hc) _);refine ⟨c,ad.c_a,cx,t,st,z.m - 2 ^ hd,_,_,rfl,Az,T.cl_a,T.na_a_b8,T.na_a_b3,T.na_a_cb,T.na_a_b5,T.na_a_ci,fun H3 s3 o3=>?_⟩;rw [Jq] at s3;have s3:=(Ib (AN hcx (.own c)) hc).trans s3;refine ⟨rfl,?_⟩;clear kc;have t3:=t1.trans (t2.trans s3);refine q ⟨c,t,st,[(d,.out hd)],z.m - 2 ^ hd,z.pl,max z.nd f⟩ H3 (none_of (t1.trans t2) hc) t3 ⟨⟨cx,o3⟩,s3 _ _ e2,fun x k=>?_⟩ ⟨by rw [ed];rfl,rfl,rfl,f,rfl,ff⟩;rw [mem_singleton.mp k];exact s3 _ _ hd2
theorem ok_br (T:Tx K mg base ad):AG P w K mg base CX0 5 ad.f_br ad.d_br ["self","sheet","pair","many"] (U0 ad.lP ad.c_c):=by
 exists br
 obtain ⟨g,a,l,p,ls,x,y,m,rfl,im,hp,hl,gl,ok,l13,x12,y12,lt,q⟩:=h;refine ⟨_,(~~~(d<*((pv 1)*>((AX∩((pv 2)∪As))*>((AX∩((pv 2)∪As))*>(((pv 0)=<<(c.db.bs>=>((AX∩((pv 2)∪As))*>((AX∩((pv 2)∪As))*>Al))))*>((pv 3)*>Al))))))),?_⟩;obtain ⟨dm,hg⟩:=id im;symm;refine ⟨g,dm,_,rfl,hg,rfl,?_⟩;symm;refine ⟨g,x,y,rfl,y12,fun sl H1 hsl s1 e1=>?_⟩;symm;refine ⟨l,sl,ls,[(2:Ab) ^ y],x,y,m,rfl,s1 _ _ hl,gl.same s1,ok,l13,e1,x12,y12,lt.same s1,fun r rs H2 hr2 s2 lt2 e2 g2 ev=>?_⟩;exact q r sl rs H2 (none_of s1 hr2) ((Sm.of s1).trans s2) lt2 e2 g2 (s2.tup e1) ev
theorem ok_q (T:Tx K mg base ad):AG P w K mg base CX0 5 ad.f_q ad.d_q ["self","outcome","low","start","opened"] (Uq ad.c_b ad.c_a ad.c_c):=by
 exists q
 obtain ⟨g,a,oc,op,h,s',xs,out,low,z,os,rfl,im,is,h12,hoc,gz,bz,hop,gos,o30,q⟩:=h;refine ⟨_,(@Av _ _ _ _ _ (5<$>(@CV _ _ _ _ ((pv 3)*>Al))) (@Av _ _ _ _ _ (C4 Ci rfl (BV (pv 4)) (EC rfl (BY (B5 (i:=6) sc_q.nd rfl (B2 rfl)) (BY (B5 (i:=7) sc_q.nd rfl (B2 rfl)) ED))) (@AY _ _ _ ((EV⊂((Be (pv 6) rfl)∪(pv 2)))⊆((@AY _ _ _ (@CG _ _ _ _ (CN CP Mu PySem.F.type_list_extend KS (pv 5) ((pv 7)*>Al)) (by rfl)))∪Bp)))) (~~~(DS (fsc:=A7 s_q) (N:=["self","outcome","low","start","opened","cases","case","behind"]) (Nc:=["self","outcome","low","start","opened","cases",".s6","behind","case"]) rfl rfl (by nofun) rfl (BV (pv 5)) (fun _ _ _ _=>DD) (fun _ _ _ _=>(@Bq _ _ _ _ _ ((RJ K (pv 8) rfl)*>((RJ K (pv 8) rfl)*>(((pv 0)=<<(c.dg.bu>=>((pv 1)*>((pv 2)*>((pv 8)*>Al)))))*>Al))))))))),?_⟩;subst_eqs
 exists 1,cl,hcl,H,(.lst [V.ref z.a]),H1,s1,e1,rfl
 have hop1:=s1 _ _ hop;subst_eqs;refine ⟨⟨_,SqL.of hop1⟩,DC (xs:=os.map fun o=>V.ref o.1) (fun i σ' J=>Ex3 fun (v6 v7:A5 V) (zs:Ac Cz)=>σ'=[Aa (.ref g),Aa (.ref oc),Aa (.int low),Aa (.ref z.a),Aa (.ref op),Aa (.ref cl),v6,v7]/\Ax H J/\J cl=Aa (.lst (zrf zs))/\(∀y∈zs,CzG ad.c_a J y/\CzB y)/\zs.length<=1+24*i) ⟨Ai,Ai,[z],rfl,s1,e1,(fun y m=>by rw [mem_singleton.mp m];exact ⟨gz.same s1,bz⟩),A1 _⟩ (fun i σ' J _ hq_=>by obtain ⟨_,_,_,_,e,_⟩:=hq_;exact SqL.of (e _ _ hop)) ?_ ?_⟩
 ·rintro i y σ' J hy ⟨v6,v7,zs,rfl,sJ,eJ,gJ,lJ⟩;rw [Ba] at hy;obtain ⟨o,ho0,rfl⟩:=Option.map_eq_some_iff.mp hy;have il:=(List.getElem?_eq_some_iff.mp ho0).1;have go:=(gos o (Bt ho0)).same sJ;obtain ⟨dx,hz⟩:=id go.z.o;refine ⟨o.1,_,rfl,SqT.of go.t,rfl,_,_,rfl,_,_,rfl,rfl,?_⟩;subst_eqs;refine ⟨o.2.1.a,_,dx,_,_,rfl,hz,T.cl_a,T.na_a_b5,rfl,?_⟩;subst_eqs;by_cases c:o.2.1.nd < low
  ·refine ifT (AT c) ?_;subst_eqs;refine ⟨.inl ⟨rfl,_,SqL.of eJ⟩,?_⟩;subst_eqs;have n24:=go.n;refine ⟨cl,o.2.2.1,_,_,rfl,rfl,eJ,go.l,(by unfold zrf;rw [At,At];exact DK (C8 (by omega))),?_⟩;refine ⟨_,_,zs++o.2.2.2,rfl,Bs sJ hcl,by rw [Az];unfold zrf;rw [AK],fun y m=>?_,by rw [Bj];omega⟩;rcases mem_append.mp m with m | m
   ·exact ⟨CzG.upd eJ (gJ y m).1,(gJ y m).2⟩
   ·exact ⟨CzG.upd eJ (go.c y m).1,(go.c y m).2⟩
  ·refine ifF (AS c) ?_;exact ⟨_,_,zs,rfl,sJ,eJ,gJ,by omega⟩
 rintro σ' J ⟨v6,v7,zs,rfl,sJ,eJ,gJ,lJ⟩;rw [At] at lJ;have zl:(zrf zs).length=zs.length:=At _;subst_eqs;refine ⟨⟨_,SqL.of eJ⟩,?_⟩;refine FL (xs:=zrf zs) (by rw [zl];exact JC (by omega)) (fun D i ys G=>ys.length<=i/\G D=Aa (.lst ys)/\Ax J G) (fun D hD=>⟨A1 _,Az,AN hD _⟩) (fun D i ys G hq_=>by obtain ⟨f1,f2,_⟩:=hq_;exact ⟨f2,f1⟩) (fun D i ys G hD hq_=>by obtain ⟨_,_,f3⟩:=hq_;exact SqL.of (f3 _ _ eJ)) ?_ ?_
 ·rintro D i x ys G K1 K2 hD hx ⟨f1,f2,f3⟩ kk1 kk2;unfold zrf at hx;rw [Ba] at hx;obtain ⟨y,hy0,rfl⟩:=Option.map_eq_some_iff.mp hx;have gy:=(gJ y (Bt hy0)).1.same f3;have by':=(gJ y (Bt hy0)).2
  obtain ⟨dx,hz⟩:=id gy.o;have imG:=(im.same sJ).same f3;obtain ⟨dm,hg⟩:=id imG;refine yes (ifT rfl ?_);subst_eqs;refine ⟨y.a,_,dx,_,_,rfl,hz,T.cl_a,T.na_a_b8,rfl,?_⟩;subst_eqs;refine ⟨y.a,_,dx,_,_,rfl,hz,T.cl_a,T.na_a_b5,rfl,?_⟩;subst_eqs;refine ⟨g,dm,_,rfl,hg,rfl,?_⟩;subst_eqs;refine ⟨g,a,oc,h,s',xs,out,low,y,rfl,imG,(is.same sJ).same f3,h12,f3 _ _ (sJ _ _ hoc),gy,by'.1,by'.2.1,by'.2.2,fun x G1 s4=>?_⟩;refine ⟨(by show 3<=AB;decide),fun t ht=>?_⟩;have s5:=s4.trans (AN ht (.tup [V.ref y.dt,V.int y.nd,V.str x]));exact kk1 _ _ (s5 _ _ f2) ⟨by rw [Bj];show _+1<=_;omega,Az,Bs (f3.trans s5) hD⟩
 rintro D ys G hD ⟨f1,f2,f3⟩;exact q D G (none_of sJ hD) (sJ.trans f3)
theorem ok_bg (T:Tx K mg base ad):AG P w K mg base CX0 6 ad.f_bg ad.d_bg ["sheet","state","standing","deed","quota"] TD:=by
 exists bg
 obtain ⟨l,st,dt,h,ls,xs,rs,s,qu,M,d,rfl,hd,hm,hl,gl,hs,gx,xv,si,M0,le,l60,h12,q1,szq,li,q⟩:=h;refine ⟨_,(@Av _ _ _ _ _ ((CU⊂((AX∩((pv 3)∪As))∪Dw))⊆((~~~(f<*((pv 0)*>((pv 1)*>((pv 2)*>((AX∩((pv 3)∪As))*>((pv 4)*>Al)))))))∪Bp)) (~~~(pv 1))),?_⟩;have hn:∀p∈Am ls,0<=p.2:=fun p m=>by obtain ⟨x,xm,rfl⟩:=mem_map.mp m;exact (li x xm).2.1
 have h0:∀x∈rs,0<=x.1:=fun x m=>(si.free x m).1
 have xin:∀x∈xs,FqM M x.2.1.2/\AW x.2.1.2.1 x.2.1.2.2=1/\x.2.2.2.length=h:=fun x m=>by
  have:shV x∈rs.map C2:=by rw [<- xv];exact mem_map.mpr ⟨x,m,rfl⟩
  obtain ⟨r,rm,e⟩:=mem_map.mp this;obtain ⟨f0,f1,f2⟩:=si.free r rm;have e1:pr r.1=x.2.1.2:=Bx Kb e;have e2:r.2.map pr=x.2.2.2.map (·.2):=Bx OR e;refine ⟨by rw [<- e1];exact K9 f0 f1 f2,by rw [<- e1];exact Lf _,?_⟩;have:=Bx BM e2;rw [At,At,si.len r rm] at this;exact this.symm
 cases d with
 | seat hd' =>
   obtain ⟨hh,Mz⟩:=hm hd' rfl;have hd1:H dt=Aa (.tup [.str "seat",.int (hd':Ab)]):=hd;subst_eqs;refine ⟨l,st,h,hd',ls,xs,s,qu,M,rfl,hl,gl,hs,(fun x m=>⟨gx x m,xin x m⟩),M0,Mz,le,l60,h12,hh,q1,szq,li,fun a ys fs v H' ha s' e' g' nd fv wm vy=>?_⟩;refine q a ys H' s' e' (fun y m=>⟨(g' y m).1,.inl (g' y m).2.1⟩) (.inl ha) ?_;rw [T5 (by omega) xv h0] at fv
   have sn:∀r∈CH (Am ls) rs s hd',0<=r:=fun r m=>by
    obtain ⟨p,pm,rfl⟩:=mem_map.mp m;exact (Ik (h0 _ (Fd pm).2) (by omega)).1
   rw [vy,Oi wm fv hn sn];exact Aak (by omega) q1 xv h0 hn
 | out hd' =>
   have hd1:H dt=Aa (.tup [.str "out",.int (hd':Ab)]):=hd;subst_eqs;exact q st xs H (fun _ _ e=>e) hs (fun x m=>⟨gx x m,.inr ⟨x,m,rfl⟩⟩) (.inr rfl) xv
 | rest =>
   have hd1:H dt=Aa (.tup [.str "rest",.non]):=hd;subst_eqs;exact q st xs H (fun _ _ e=>e) hs (fun x m=>⟨gx x m,.inr ⟨x,m,rfl⟩⟩) (.inr rfl) xv
 | fin =>
   have hd1:H dt=Aa (.tup [.str "end",.non]):=hd;subst_eqs;exact q st xs H (fun _ _ e=>e) hs (fun x m=>⟨gx x m,.inr ⟨x,m,rfl⟩⟩) (.inr rfl) xv
theorem ok_bh (T:Tx K mg base ad):AG P w K mg base CX0 7 ad.f_bh ad.d_bh ["way","sheet","case"] (U3 ad.c_a):=by
 exists bh
 obtain ⟨a,l,z,rfl,g,ed,q⟩:=h;refine ⟨_,(@Av _ _ _ _ _ (((R1 hr.units0)⊂((Be (pv 2) rfl)∪(@Bq _ _ _ _ _ Al)))⊆((~~~(Be (pv 2) rfl))∪Bp)) (@Av _ _ _ _ _ (3<$>(AX∩((Be (pv 2) rfl)∪(@Hg _ _ _ _ _ _ Iq As)))) (@Av _ _ _ _ _ (4<$>((pv 0)=<<(b.c9.bx>=>((ah<*((pv 1)*>Al))*>Al)))) (~~~(bg<*((pv 1)*>((Be (pv 2) rfl)*>((bn<*((Be (pv 2) rfl)*>((AX∩((pv 3)∪As))*>Al)))*>((pv 3)*>((pv 4)*>Al)))))))))),?_⟩;obtain ⟨dx,ho⟩:=id g.o;have ht:=g.t;rw [ed] at ht;symm;refine ⟨z.a,_,dx,_,_,rfl,ho,T.cl_a,T.na_a_b8,rfl,?_⟩
 exists 0,t0,ht0,H,(.tup []),H1,s1,e1,rfl
 refine ⟨z.dt,t0,[],[],rfl,rfl,SqT.of (s1 _ _ ht),SqT.of e1,?_⟩;have ho1:=s1 _ _ ho;symm;refine ⟨z.a,_,dx,_,_,rfl,ho1,T.cl_a,T.na_a_ci,rfl,?_⟩;exact q H1 s1
theorem ok_bv (T:Tx K mg base ad):AG P w K mg base CX0 7 ad.f_bv ad.d_bv ["self","sheet"] (TR ad.c_b):=by
 exists bv
 obtain ⟨a,l,h,s,xs,ls,rfl,is,h1,h12,s1,s6,pm,hl,gl,okl,l60,nN,q⟩:=h;refine ⟨_,(@Av _ _ _ _ _ (2<$>((pv 0)=<<(b.c9.bx>=>((ah<*((pv 1)*>Al))*>Al)))) (@Av _ _ _ _ _ (3<$>(v<*((pv 1)*>((Be (pv 0) rfl)*>Al)))) (@Av _ _ _ _ _ (4<$>(s<*((Be (pv 0) rfl)*>Al))) (@Av _ _ _ _ _ (5<$>(Be (pv 0) rfl)) (@Av _ _ _ _ _ (6<$>(@CV _ _ _ _ Al)) (@AY _ _ _ (Lg Ci (@C5 _ _ _ Fu (by intro _;rfl)) (@Av _ _ _ _ _ (7<$>(aq<*((pv 1)*>((pv 3)*>((pv 4)*>Al))))) (@Av _ _ _ _ _ (8<$>(ad<*((pv 1)*>((pv 7)*>((Be (pv 0) rfl)*>Al))))) (@Av _ _ _ _ _ (9<$>((pv 0)=<<(b.c0.bw>=>((pv 8)*>((pv 4)*>((pv 5)*>((pv 2)*>Al))))))) (@Av _ _ _ _ _ (@CG _ _ _ _ (CN CP EJ PySem.F.type_list_append El (pv 6) ((@Bq _ _ _ _ _ ((pv 7)*>((pv 8)*>((pv 9)*>Al))))*>Al)) (by rfl)) (@Av _ _ _ _ _ ((NA⊂((AX∩((pv 9)∪As))∪FS))⊆((~~~(pv 6))∪Bp)) (@Av _ _ _ _ _ (3<$>(bg<*((pv 1)*>((pv 3)*>((pv 4)*>((pv 9)*>((pv 2)*>Al))))))) (@Av _ _ _ _ _ (4<$>(bo<*((pv 4)*>((AX∩((pv 9)∪As))*>Al)))) (@AY _ _ _ ((CU⊂((AX∩((pv 9)∪As))∪Dw))⊆((@AY _ _ _ (5<$>(@AA _ _ _ _ _ _ _ _ Ea (pv 5) As)))∪Bp))))))))))))))))),?_⟩;have is':=id is;obtain ⟨dx,lo,k1,k2⟩:=is';have hn:∀p∈Am ls,0<=p.2:=fun p m=>by obtain ⟨x,xm,rfl⟩:=mem_map.mp m;exact (okl x xm).2.1
 have N0:0<=AZ (Am ls):=by
  have:=JK (ds:=Am ls) (rs:=[]) hn (fun _ m=>Aw m Bm);have e:BU (Am ls) []=0:=by unfold BU;rw [OJ];rfl
  rw [e] at this;exact Rat.intCast_nonneg.mp this
 have hx:∀x∈xs,0<=x/\x < h:=fun x m=>JJ.mp (pm.mem_iff.mp m);have xl:xs.length=h:=by rw [pm.length_eq,Vi]
 have dl:(Am ls).length=ls.length:=by unfold Am;rw [At]
 subst_eqs;refine ⟨a,dx,_,rfl,k1,rfl,?_⟩;subst_eqs;refine ⟨l,ls,rfl,hl,gl,by omega,fun H1 t1=>?_⟩;subst_eqs;refine ⟨a,(h:Ab),(s:Ab),xs,_,rfl,is.same t1,by omega,by omega,?_⟩;generalize hqu:(((Am ls).map (fun x:Ac Ab × Ab=>x.2)).sum).fdiv ((s:Ab)+1)+1=qu
 have qb:1<=qu/\Sz 64 qu:=by
  have e:((Am ls).map (fun x:Ac Ab × Ab=>x.2)).sum=AZ (Am ls):=rfl;rw [e] at hqu;have d:=DH (AZ (Am ls)) (show (0:Ab)<=(s:Ab)+1 by omega);rw [d] at hqu;have a1:0<=AZ (Am ls) / ((s:Ab)+1):=O3 N0 (by omega);have a2:AZ (Am ls) / ((s:Ab)+1)<=AZ (Am ls):=VN _ N0;have n40:AZ (Am ls) < 1099511627776:=nN;exact ⟨by omega,B_ (by omega) (by omega)⟩
 have k11:=t1 _ _ k1;subst_eqs;refine ⟨a,_,dx,_,_,rfl,k11,T.cl_b,T.na_b_b1,rfl,?_⟩;subst_eqs;refine ⟨l,h,ls,rfl,t1 _ _ hl,l60,h12,fun sa xh H2 hsa t2 e2 g2 nd2 xl2=>?_⟩;have k12:=t2 _ _ k11;have t12:=t1.trans t2;subst_eqs;refine ⟨a,_,dx,_,_,rfl,k12,T.cl_b,T.na_b_b1,rfl,?_⟩;subst_eqs;refine ⟨by omega,by omega,?_⟩;subst_eqs;refine ⟨a,_,dx,_,_,rfl,k12,T.cl_b,T.na_b_ce,rfl,?_⟩;subst_eqs
 exists 0,p,hp,H2,(.lst []),H3,t3,e3,rfl
 have t13:=t12.trans t3;have pH:H p=Ai:=none_of t12 hp
 have xv2:xh.map shV=(CA ls.length h).map C2:=by
  unfold CA;rw [L'];refine JV fun i=>?_;rw [Ba,LW];by_cases c:i < ls.length
  ·obtain ⟨x,hx'⟩:∃x,xh[i]?=Aa x:=⟨_,Cm (by omega)⟩;obtain ⟨_,a1,a2,_⟩:=g2 x (Bt hx');rw [hx',Ar c];show Aa (shV x)=Aa (C2 (1,Cy h 0));unfold shV C2;rw [a1,a2,L'];rfl
  ·rw [FB (by omega),Ao c];rfl
 have F0:E6 (Am ls) h xs s=Dx (Am ls) h xs qu (h+1) (CA ls.length h) (2 ^ h - 1) s:=by
  unfold E6;rw [dl,<- hqu];rfl
 have sap:sa≠p:=fun z=>by rw [z,hp] at e2;cases e2
 have start1:(1:Ab)*2 ^ (h:Ab).toNat - 1=2 ^ h - 1:=by rw [LM,B7]
 have p2h:(2:Ab) ^ h<=4096:=by
  have:=GJ (show 0 < 2 by decide) h12
  exact_mod_cast this
 have p20:(0:Ab) < 2 ^ h:=ID (by decide);subst_eqs;refine Oh (fun σ' J=>P6 fun (sa:Ad) (m:Ab) (pl n:Ae) (v7 v8 v9:A5 V) (ps:Ac Rq) (xh:Ac Sh) (st:Ac Sr) (M:Ab)=>σ'=[Aa (.ref a),Aa (.ref l),Aa (.int qu),Aa (.ref sa),Aa (.int m),Aa (.int (pl:Ab)),Aa (.ref p),v7,v8,v9]/\Ax H J/\J p=Aa (.lst (rqs ps))/\ps.length+n=h+1/\(∀r∈ps,RqG J r/\Kv p r)/\J sa=Aa (.lst (shv xh))/\sa≠p/\(∀x∈xh,ShG J x/\x.2.2.1≠p)/\xh.map shV=st.map C2/\StI M h st/\0 < M/\Sz (mB (s - pl)) M/\pl<=s/\st.length=ls.length/\0<=m/\m < 2 ^ h/\(hands 12 (bit m)).length < n/\ps.map rqV++(Dx (Am ls) h xs qu n st m pl).map Ej=(E6 (Am ls) h xs s).map Ej) (fun σ' _=>match σ' with | [_,_,_,_,Aa (.int m),_,_,_,_,_]=>(hands 12 (bit m)).length | _=>0) ⟨sa,2 ^ h - 1,s,h+1,Ai,Ai,Ai,[],xh,CA ls.length h,1,(by rw [start1];rfl),t13,e3,by show 0+(h+1)=h+1;omega,(fun _ m=>Aw m Bm),t3 _ _ e2,sap,(fun x k=>⟨(g2 x k).1.same t3,fun z=>by have:=(g2 x k).1.l;rw [z,hp] at this;cases this⟩),xv2,UL _ _,by decide,by rw [EI];exact (B_ (by decide) (by decide):Sz 1 (1:Ab)),A1 _,FC ..,by omega,by omega,?_,by rw [F0];rfl⟩ ?_ Vr
 ·exact Dn (by rw [XR h12];exact A1 _) (Mi h)
 rintro σ1 J ⟨sa,m,pl,n,v7,v8,v9,ps,xh,st,M,rfl,sJ,eJ,pn,gps,esa,sap,gxh,xv,si,M0,Mz,pls,stl,m0,m1,hlen,eqF⟩;have hlJ:=sJ _ _ hl;have glJ:By J ls:=gl.same sJ;have k1J:=sJ _ _ k1;have Mz4:Sz 4480 M:=Mz.mono (ZM (by omega))
 have xin:∀x∈xh,FqM M x.2.1.2/\AW x.2.1.2.1 x.2.1.2.2=1/\x.2.2.2.length=h:=fun x k=>by
  have:shV x∈st.map C2:=by rw [<- xv];exact mem_map.mpr ⟨x,k,rfl⟩
  obtain ⟨r,rm,e⟩:=mem_map.mp this;obtain ⟨f0,f1,f2⟩:=si.free r rm;have e1:pr r.1=x.2.1.2:=Bx Kb e;have e2:r.2.map pr=x.2.2.2.map (·.2):=Bx OR e;refine ⟨by rw [<- e1];exact K9 f0 f1 f2,by rw [<- e1];exact Lf _,?_⟩;have:=Bx BM e2;rw [At,At,si.len r rm] at this;exact this.symm
 have hbm:∀j,bit m j=Af->(j:Ab)∈xs:=fun j b=>by
  rcases (by omega:j < h\/h<=j) with c | c
  ·exact pm.mem_iff.mpr (JJ.mpr ⟨by omega,by omega⟩)
  ·have:(2:Ab) ^ h<=2 ^ j:=by
    have:=GJ (show 0 < 2 by decide) c
    exact_mod_cast this
   rw [Je m0 (by omega)] at b
   cases b
 have h0st:∀x∈st,0<=x.1:=fun x k=>(si.free x k).1
 have lesz:ls.length=xh.length:=by
  have:=Bx BM xv;rw [At,At] at this;have l2:st.length=ls.length:=stl;omega
 refine ⟨_,rfl,ifT rfl ?_⟩;subst_eqs;refine ⟨l,sa,h,ls,xh,m,rfl,hlJ,glJ,esa,(fun x k=>⟨(gxh x k).1,(xin x k).1.fq M0 (Mz4.mono (by decide)),(xin x k).2.2⟩),lesz,l60,h12,(fun q k=>KH (okl q k).1),fun r rs J1 hr1 u1 f1 gr vr=>?_⟩;rw [UY xv h0st] at vr;have M1:0 < M*27720:=by omega
 have Mz5:Sz 4500 (M*27720):=(Mz4.mul (B_ (by decide) (by decide):Sz 15 (27720:Ab))).mono (by decide)
 have rin:∀x∈rs,x.2.length=h+1/\∀f∈x.2,FqM (M*27720) f.2:=fun x k=>by
  have:x.2.map (·.2)∈(BZ (Am ls) st m).map (fun r=>r.map pr):=by rw [<- vr];exact mem_map.mpr ⟨x,k,rfl⟩
  obtain ⟨y,ym,e⟩:=mem_map.mp this;obtain ⟨yl,yz⟩:=J9 (ds:=Am ls) (s:=m) si y ym;refine ⟨?_,fun f fm=>?_⟩
  ·have:=Bx BM e;rw [At,At,yl] at this;exact this.symm
  ·have:f.2∈y.map pr:=by rw [e];exact mem_map.mpr ⟨f,fm,rfl⟩
   obtain ⟨z,zm,ez⟩:=mem_map.mp this;rw [<- ez];exact K9 (yz z zm).1 (yz z zm).2.1 (yz z zm).2.2
 have rsl:ls.length=rs.length:=by
  have:=Bx BM vr;rw [At,At] at this;rw [this];unfold BZ;rw [At,GI,dl];have l2:st.length=ls.length:=stl;omega
 have k1J1:=u1 _ _ k1J;subst_eqs;refine ⟨a,_,dx,_,_,rfl,k1J1,T.cl_b,T.na_b_b1,rfl,?_⟩;subst_eqs;have hn2:∀q∈ls,0<=q.2.2.2/\Sz 64 q.2.2.2:=fun q k=>(okl q k).2;refine ⟨l,r,h,ls,rs,M*27720,rfl,u1 _ _ hlJ,glJ.same u1,f1,(fun x k=>⟨(gr x k).1,rin x k⟩),M1,Mz5,rsl,l60,h12,hn2,fun su fs J2 hsu' u2 f2 gf fl wm=>?_⟩;have u12:=u1.trans u2
 have colv:∀j,(Dt rs j).map (·.2)=((BZ (Am ls) st m).map fun r=>r.getD j 0).map pr:=fun j=>by
  have e1:(Dt rs j).map (·.2)=(rs.map fun x=>x.2.map (·.2)).map fun vs=>vs.getD j (0,1):=by
   unfold Dt;rw [Bf,Bf];refine E1 fun r _=>?_;show (r.2.getD j (0,0,1)).2=(r.2.map (·.2)).getD j (0,1);rw [BI,BI,Ba]
   cases r.2[j]? <;> rfl
  rw [e1,vr,Bf,Bf];refine E1 fun r _=>?_;show (r.map pr).getD j (0,1)=pr (r.getD j 0);rw [BI,BI,Ba]
  cases r[j]? <;> rfl
 have coln:∀j,∀r∈(BZ (Am ls) st m).map fun r=>r.getD j 0,0<=r:=fun j r k=>by
  obtain ⟨y,ym,rfl⟩:=mem_map.mp k;obtain ⟨yl,yz⟩:=J9 (ds:=Am ls) (s:=m) si y ym;rw [BI]
  cases e:y[j]? with
  | none=>exact DL
  | some z=>exact (yz z (Bt e)).1
 have fv:fs.map (·.2)=(Et (Am ls) (BZ (Am ls) st m) h).map pr:=by
  refine JV fun j=>?_;unfold Et;rw [Ba,Ba,Ba];by_cases c:j < h+1
  ·obtain ⟨f,hf⟩:∃f,fs[j]?=Aa f:=⟨_,Cm (by omega)⟩;rw [hf,LV c];show Aa f.2=Aa (pr _);rw [Oi (wm j f hf) (colv j) hn (coln j)]
  ·rw [FB (by omega),FB (by rw [D6];omega)];rfl
 have colm:∀j,j < h+1->∀f∈Dt rs j,FqM (M*27720) f.2:=fun j hj f k=>by
  obtain ⟨x,xm,rfl⟩:=mem_map.mp k;exact (rin x xm).2 _ (Bt (Nl (by have:=(rin x xm).1;omega)))
 have sg:SuG J2 su fs (Et (Am ls) (BZ (Am ls) st m) h):=⟨f2,gf,fv,fun r k=>by
  have:pr r∈fs.map (·.2):=by rw [fv];exact mem_map.mpr ⟨r,k,rfl⟩
  obtain ⟨f,fm,e⟩:=mem_map.mp this;obtain ⟨j,hj⟩:=mem_iff_getElem?.mp fm;have jl:=(List.getElem?_eq_some_iff.mp hj).1;obtain ⟨_,_,_,z1,_,z2⟩:=Vu (wm j f hj) M1 Mz5 hn2 (colm j (by omega)) l60;rw [<- e];exact ⟨z2.mono (by decide),z1.mono (by decide)⟩⟩
 have sl:(Et (Am ls) (BZ (Am ls) st m) h).length=h+1:=by unfold Et;rw [At,D6]
 have k1J2:=u2 _ _ k1J1;subst_eqs;refine ⟨a,dx,_,rfl,k1J2,rfl,?_⟩;subst_eqs;refine ⟨a,su,(h:Ab),(s:Ab),xs,m,qu,pl,fs,_,rfl,is.same (sJ.trans u12),sg,(fun x k=>⟨(hx x k).1,by rw [sl];have:=(hx x k).2;have:=(hx x k).1;omega⟩),by omega,m0,by omega,hbm,qb.2,fun dt J3 hdt u3 e3'=>?_⟩;generalize hsu:Et (Am ls) (BZ (Am ls) st m) h=sums at e3' sg fv sl;generalize hD:Dh xs sums m pl qu=D at e3';have u13:=u12.trans u3;have eJ3:=u13 _ _ eJ;subst_eqs;refine ⟨.inl ⟨rfl,_,SqL.of eJ3⟩,?_⟩;subst_eqs
 exists 3,tt,htt,J3,(.tup [V.ref r,V.ref su,V.ref dt]),J4,u4,e4,rfl
 have u14:=u13.trans u4;have eJ4:=u4 _ _ eJ3;have rqsl:(rqs ps).length=ps.length:=At ..;refine ⟨p,_,_,rfl,rfl,eJ4,(by rw [rqsl];exact C8 (by omega)),?_⟩;have rp:r≠p:=fun z=>by rw [z,eJ] at hr1;cases hr1
 have sup:su≠p:=fun z=>by rw [z,u1 _ _ eJ] at hsu';cases hsu'
 have gnew:RqG J4 (tt,(r,rs),(su,fs),(dt,D)):=⟨e4,(u2.trans (u3.trans u4)) _ _ f1,(fun x k=>(gr x k).1.same (u2.trans (u3.trans u4))),(u3.trans u4) _ _ f2,(fun f k=>(gf f k).same (u3.trans u4)),u4 _ _ e3'⟩;have anew:Kv p (tt,(r,rs),(su,fs),(dt,D)):=⟨rp,sup,fun x k z=>by have:=(gr x k).2;rw [z,eJ] at this;cases this⟩
 have gps':∀x∈ps++[(tt,(r,rs),(su,fs),(dt,D))],RqG (upd J4 p (.lst (rqs ps++[V.ref tt]))) x/\Kv p x:=fun x k=>by
  rcases mem_append.mp k with k | k
  ·exact ⟨((gps x k).1.same u14).upd eJ4 (gps x k).2,(gps x k).2⟩
  ·rw [mem_singleton.mp k];exact ⟨gnew.upd eJ4 anew,anew⟩
 have eP:(upd J4 p (.lst (rqs ps++[V.ref tt]))) p=Aa (.lst (rqs (ps++[(tt,(r,rs),(su,fs),(dt,D))]))):=by rw [Az];unfold rqs;rw [AK];rfl
 have sP:Ax H (upd J4 p (.lst (rqs ps++[V.ref tt]))):=Bs (sJ.trans u14) pH;have tupP:∀c cs,J4 c=Aa (.tup cs)->(upd J4 p (.lst (rqs ps++[V.ref tt]))) c=Aa (.tup cs):=fun c cs ec=>by rw [AF (Ce ec eJ4 (fun z=>by cases z))];exact ec
 have dtP:=tupP _ _ (u4 _ _ e3');have saP:(upd J4 p (.lst (rqs ps++[V.ref tt]))) sa=Aa (.lst (shv xh)):=by rw [AF sap];exact u14 _ _ esa
 have gxP:∀x∈xh,ShG (upd J4 p (.lst (rqs ps++[V.ref tt]))) x:=fun x k=>((gxh x k).1.same u14).upd eJ4 (gxh x k).2;generalize upd J4 p (.lst (rqs ps++[V.ref tt]))=J5 at gps' eP sP tupP dtP saP gxP ⊢;obtain ⟨n',rfl⟩:∃n',n=n'+1:=⟨n - 1,by omega⟩
 have hnew:rqV (tt,(r,rs),(su,fs),(dt,D))=Ej (DE (Am ls) h xs qu st m pl):=by
  unfold rqV Ej DE;rw [hsu,hD];show (rs.map fun x=>x.2.map (·.2),fs.map (·.2),D)=_;rw [vr,fv]
 have hD':(DE (Am ls) h xs qu st m pl).2.2=D:=by unfold DE;rw [hsu,hD]
 have fin:(D=.rest\/D=.fin)->(ps++[(tt,(r,rs),(su,fs),(dt,D))]).map rqV=(E6 (Am ls) h xs s).map Ej:=fun c=>by
  rw [<- eqF,AK,Bg,IG,hnew]
  congr 1
  show _=(DE (Am ls) h xs qu st m pl :: _).map Ej;rw [hD'];rcases c with rfl | rfl <;> rfl
 cases D with
 | rest =>
   have dtP':J5 dt=Aa (.tup [.str "rest",.non]):=dtP;subst_eqs;exact q p _ J5 pH sP eP (fun x k=>(gps' x k).1) (fin (.inl rfl))
 | fin =>
   have dtP':J5 dt=Aa (.tup [.str "end",.non]):=dtP;subst_eqs;exact q p _ J5 pH sP eP (fun x k=>(gps' x k).1) (fin (.inr rfl))
 | out hd =>
   have dtP':J5 dt=Aa (.tup [.str "out",.int (hd:Ab)]):=dtP;subst_eqs;have bi:=Ql (fun x k=>(hx x k).1) hbm (.inr hD);have hdh:=(hx _ (hbm hd bi.1)).2;have hd12:hd < 12:=by omega
   obtain ⟨lm0,lb,ll⟩:=Jl m0 bi.1 hd12;have k1P:=sP _ _ k1;refine ⟨l,sa,dt,h,ls,xh,st,m,qu,M,Dd.out hd,rfl,dtP',(fun _ e=>nomatch e),sP _ _ hl,gl.same sP,saP,gxP,xv,si,M0,lesz,l60,h12,qb.1,qb.2,(fun q k=>⟨KH (okl q k).1,(okl q k).2⟩),fun a2 ys J6 u6 e6 g6 n6 v6=>?_⟩;have dt6:=u6 _ _ dtP';subst_eqs;refine ⟨m,(hd:Ab),rfl,by omega,by omega,?_⟩;rw [B7,H_,Ar bi.1,EF];subst_eqs
   have a2p:a2≠p:=by
    rcases n6 with z | z
    ·exact fun e=>by rw [e,eP] at z;cases z
    ·rw [z];exact sap
   have gy:∀y∈ys,ShG J6 y/\y.2.2.1≠p:=fun y k=>by
    obtain ⟨y1,y2⟩:=g6 y k;refine ⟨y1,?_⟩;rcases y2 with z | ⟨x,xm,z⟩
    ·exact fun e=>by rw [e,eP] at z;cases z
    ·rw [<- z];exact (gxh x xm).2
   have eqF':(ps++[(tt,(r,rs),(su,fs),(dt,Dd.out hd))]).map rqV++(Dx (Am ls) h xs qu n' st (m - 2 ^ hd) pl).map Ej=(E6 (Am ls) h xs s).map Ej:=by
    rw [<- eqF,AK,Bg,IG,hnew,Ee]
    congr 1
    show _=(DE (Am ls) h xs qu st m pl :: _).map Ej;rw [hD'];rfl
   refine ⟨⟨a2,m - 2 ^ hd,pl,n',_,_,_,ps++[(tt,(r,rs),(su,fs),(dt,Dd.out hd))],ys,st,M,rfl,sP.trans u6,u6 _ _ eP,by rw [Bj];show ps.length+1+n'=h+1;omega,(fun x k=>⟨(gps' x k).1.same u6,(gps' x k).2⟩),e6,a2p,gy,v6,si,M0,Mz,by omega,stl,lm0,by have:(0:Ab) < 2 ^ hd:=ID (by decide);omega,by omega,eqF'⟩,?_⟩;show (hands 12 (bit (m - 2 ^ hd))).length < (hands 12 (bit m)).length;exact ll
 | seat hd =>
   have dtP':J5 dt=Aa (.tup [.str "seat",.int (hd:Ab)]):=dtP;subst_eqs;have bi:=Ql (fun x k=>(hx x k).1) hbm (.inl hD);have hdh:=(hx _ (hbm hd bi.1)).2;have hd12:hd < 12:=by omega
   obtain ⟨lm0,lb,ll⟩:=Jl m0 bi.1 hd12;have k1P:=sP _ _ k1;refine ⟨l,sa,dt,h,ls,xh,st,m,qu,M,Dd.seat hd,rfl,dtP',(fun hd2 e=>by injection e with e;subst e;exact ⟨by omega,Mz.mono (Ra (by omega))⟩),sP _ _ hl,gl.same sP,saP,gxP,xv,si,M0,lesz,l60,h12,qb.1,qb.2,(fun q k=>⟨KH (okl q k).1,(okl q k).2⟩),fun a2 ys J6 u6 e6 g6 n6 v6=>?_⟩;have dt6:=u6 _ _ dtP';subst_eqs;refine ⟨m,(hd:Ab),rfl,by omega,by omega,?_⟩;rw [B7,H_,Ar bi.1,EF];subst_eqs
   have a2p:a2≠p:=by
    rcases n6 with z | z
    ·exact fun e=>by rw [e,eP] at z;cases z
    ·rw [z];exact sap
   have gy:∀y∈ys,ShG J6 y/\y.2.2.1≠p:=fun y k=>by
    obtain ⟨y1,y2⟩:=g6 y k;refine ⟨y1,?_⟩;rcases y2 with z | ⟨x,xm,z⟩
    ·exact fun e=>by rw [e,eP] at z;cases z
    ·rw [<- z];exact (gxh x xm).2
   have eqF':(ps++[(tt,(r,rs),(su,fs),(dt,Dd.seat hd))]).map rqV++(Dx (Am ls) h xs qu n' (En (Am ls) st m hd qu) (m - 2 ^ hd) (pl - 1)).map Ej=(E6 (Am ls) h xs s).map Ej:=by
    rw [<- eqF,AK,Bg,IG,hnew,Ee]
    congr 1
    show _=(DE (Am ls) h xs qu st m pl :: _).map Ej;rw [hD'];rfl
   obtain ⟨M2,M20,Mz2,si2⟩:=si.step (k:=s - pl) (ds:=Am ls) (s:=m) (q:=qu) M0 Mz hd12 qb.1 hn nN;refine ⟨⟨a2,m - 2 ^ hd,(pl - 1),n',_,_,_,ps++[(tt,(r,rs),(su,fs),(dt,Dd.seat hd))],ys,(En (Am ls) st m hd qu),M2,(by rw [show ((pl - 1:Ae):Ab)=(pl:Ab) - 1 from by omega];rfl),sP.trans u6,u6 _ _ eP,by rw [Bj];show ps.length+1+n'=h+1;omega,(fun x k=>⟨(gps' x k).1.same u6,(gps' x k).2⟩),e6,a2p,gy,v6,si2,M20,(by rw [show s - (pl - 1)=s - pl+1 from by omega];exact Mz2),by omega,(by unfold En CH;rw [At,GI,At,GI,dl,stl];omega),lm0,by have:(0:Ab) < 2 ^ hd:=ID (by decide);omega,by omega,eqF'⟩,?_⟩;show (hands 12 (bit (m - 2 ^ hd))).length < (hands 12 (bit m)).length;exact ll
theorem ok_w (T:Tx K mg base ad):AG P w K mg base CX0 8 ad.f_w ad.d_w ["way","sheet","case"] (TL ad.c_b ad.c_a):=by
 exists w
 obtain ⟨a,l,xs,ls,z,yh,rfl,sc,gz,ed,em,epl,est,gy,yl,q⟩:=h;refine ⟨_,(@Av _ _ _ _ _ (3<$>(ah<*((pv 1)*>Al))) (@Av _ _ _ _ _ (4<$>(bh<*((pv 0)*>((pv 1)*>((pv 2)*>Al))))) (@Av _ _ _ _ _ (5<$>(ad<*((pv 1)*>((aq<*((pv 1)*>((pv 4)*>((Be (pv 2) rfl)*>Al))))*>((Be (pv 0) rfl)*>Al))))) (@Av _ _ _ _ _ (6<$>(@CV _ _ _ _ Al)) (@Av _ _ _ _ _ (C4 Ci rfl (BV (n<*((Be (pv 2) rfl)*>Al))) (B5 (i:=7) sc_w.nd rfl (B2 rfl)) (@AY _ _ _ (C4 Ci rfl (NJ (@Bq _ _ _ _ _ (Dw*>(Dw*>Al)))) (B5 (i:=8) sc_w.nd rfl (B2 rfl)) (@AY _ _ _ (@CG _ _ _ _ (CN CP EJ PySem.F.type_list_append El (pv 6) ((az<*((pv 0)*>((pv 3)*>((pv 5)*>((pv 4)*>((pv 2)*>((@Bq _ _ _ _ _ ((pv 8)*>((pv 7)*>Al)))*>Al)))))))*>Al)) (by rfl)))))) (~~~(pv 6))))))),?_⟩;have dl:(Am ls).length=ls.length:=by unfold Am;rw [At]
 have l6:=sc.len;subst_eqs;refine ⟨l,ls,rfl,sc.l,sc.g,by omega,fun H1 t1=>?_⟩;subst_eqs;refine ⟨a,l,z,rfl,gz.same t1,ed,fun H2 t2=>?_⟩;have t12:=t1.trans t2;have sc2:=sc.same t12;obtain ⟨dx,ho⟩:=id (gz.same t12).o;obtain ⟨da,la,k1,k2⟩:=id sc2.is;have si:StI 1 2 (CA ls.length 2):=UL _ _;have xv:=Ach (fun x k=>(gy x k).2) yl;have okl:=sc.ok;subst_eqs;refine ⟨z.a,_,dx,_,_,rfl,ho,T.cl_a,T.na_a_b3,rfl,?_⟩;have f11:FqM 1 ((1,1):Ab × Ab):=⟨by decide,by decide,by decide,⟨1,rfl⟩⟩;have h0st:∀x∈CA ls.length 2,0<=x.1:=fun x k=>(si.free x k).1;have ylen:∀x∈yh,x.2.2.2.length=2:=fun x k=>by have:=Bx BM (gy x k).2.2;rw [At,FC] at this;exact this
 have hn2:∀q∈ls,0<=q.2.2.2/\Sz 64 q.2.2.2:=fun q k=>(okl q k).2;have hn:∀p∈Am ls,0<=p.2:=fun p k=>by have:=sc.n1 p k;omega
 rw [em];subst_eqs;refine ⟨l,z.st,2,ls,yh,3,rfl,sc2.l,sc2.g,t12 _ _ est,(fun x k=>⟨(gy x k).1.same t12,(show FqM 1 x.2.1.2 by rw [(gy x k).2.1];exact f11).fq (by decide) (B_ (by decide) (by decide)),ylen x k⟩),yl.symm,by omega,by decide,(fun q k=>KH (okl q k).1),fun r rs J1 hr1 u1 f1 gr vr=>?_⟩;rw [UY xv h0st] at vr
 have rsl:ls.length=rs.length:=by
  have:=Bx BM vr;rw [At,At] at this;rw [this];unfold BZ CA;rw [At,GI,dl,FC];omega
 have k11:=u1 _ _ k1;subst_eqs;refine ⟨a,_,da,_,_,rfl,k11,T.cl_b,T.na_b_b1,rfl,?_⟩;subst_eqs;refine ⟨l,r,2,ls,rs,1*27720,rfl,u1 _ _ sc2.l,sc2.g.same u1,f1,(fun x k=>⟨(gr x k).1,AbG si vr x k⟩),by decide,B_ (by decide) (by decide),rsl,by omega,by decide,hn2,fun su fs J2 hsu u2 f2 gf fl wm=>?_⟩;have sv:=AcK si hn vr fl wm;have ez:=Acm (m:=3) si (by decide) (B_ (by decide) (by decide)) hn sc.tot;rw [<- dl] at sv ez;have sg:SuZ J2 su fs (suR (Am ls)):=⟨f2,gf,sv,fun v k=>(ez v k).2⟩;clear sv ez wm vr gr f1 xv;have u12:=u1.trans u2;have t4:=t12.trans u12;have sc4:=sc.same t4;have gz4:=gz.same t4;subst_eqs
 exists 0,b,hb,J2,(.lst []),J3,s3,e3,rfl
 have ho3:=(u12.trans s3) _ _ ho;subst_eqs;refine ⟨z.a,_,dx,_,_,rfl,ho3,T.cl_a,T.na_a_b3,rfl,?_⟩;rw [em];subst_eqs;refine ⟨by decide,by decide,fun mp J4 hmp u4 e4=>?_⟩;have hs2:hands 12 (bit 3)=[0,1]:=by decide +kernel
 rw [hs2] at e4;have qn:((Am ls).map (fun x:Ac Ab × Ab=>x.2)).sum=AZ (Am ls):=rfl;rw [qn];have N0:=(Jp sc.n1).1;have qd:(AZ (Am ls)).fdiv (1+1)=AZ (Am ls) / 2:=DH _ (by decide)
 have qb:1<=(AZ (Am ls)).fdiv (1+1)+1/\Sz 64 ((AZ (Am ls)).fdiv (1+1)+1):=by
  have n40:AZ (Am ls) < 1099511627776:=sc.tot;rw [qd];exact ⟨by omega,B_ (by omega) (by omega)⟩
 have sl:(suR (Am ls)).length=3:=rfl;have all3:∀j,bit 3 j=Af->(j:Ab)∈xs/\j < (suR (Am ls)).length:=fun j h=>⟨sc.pm.mem_iff.mpr (JJ.mpr ⟨by omega,by have:=Gs j h;omega⟩),by rw [sl];have:=Gs j h;omega⟩;have b3:∀j,j < 2->bit 3 j=Af:=by decide +kernel
 generalize hN:AZ (Am ls)=N at qb q;refine ⟨mp,rfl,⟨_,SqL.of e4⟩,DC (xs:=([0,1]:Ac Ab).map V.int) (fun i σ' J=>Ex3 fun (v7 v8:A5 V) (zs:Ac Cz)=>σ'=[Aa (.ref a),Aa (.ref l),Aa (.ref z.a),Aa (.int N),Aa (.ref z.st),Aa (.ref su),Aa (.ref b),v7,v8]/\Ax J2 J/\J mp=Aa (.lst (([0,1]:Ac Ab).map V.int))/\J b=Aa (.lst (zrf zs))/\(∀y∈zs,CzG ad.c_a J y)/\zs.length=2*i/\(∀y∈zs,∃d seat hd,hd < 2/\Bhd xs (suR (Am ls)) (N.fdiv (1+1)+1) z y d seat hd)/\(∀seat hd,hd < i->∃y∈zs,∃d,Bhd xs (suR (Am ls)) (N.fdiv (1+1)+1) z y d seat hd)) ⟨Ai,Ai,[],rfl,s3.trans u4,e4,u4 _ _ e3,(fun _ m=>Aw m Bm),rfl,(fun _ m=>Aw m Bm),(fun _ _ m=>nomatch m)⟩ (fun i σ' J _ hq_=>by obtain ⟨_,_,_,_,_,e,_⟩:=hq_;exact SqL.of e) ?_ ?_⟩
 ·rintro i y σ' J hy ⟨v7,v8,zs,rfl,sJ,emp,eb,gb,zl,al,ex⟩;have hi:i < 2:=(List.getElem?_eq_some_iff.mp hy).1
  have ey:y=.int (i:Ab):=by
   rcases (by omega:i=0\/i=1) with rfl | rfl <;> exact (Bn hy).symm
  subst ey;have mb:mp≠b:=fun e=>by rw [e,e3] at hmp;cases hmp
  exists 2,tw,htw,J,(.tup [V.str "seat",V.str "out"]),G0,w0,ew,rfl
  refine ⟨tw,rfl,⟨_,SqT.of ew⟩,Qv (xs:=[V.str "seat",V.str "out"]) (fun k σ' G=>Ex2 fun (v8:A5 V) (zs:Ac Cz)=>σ'=[Aa (.ref a),Aa (.ref l),Aa (.ref z.a),Aa (.int N),Aa (.ref z.st),Aa (.ref su),Aa (.ref b),Aa (.int (i:Ab)),v8]/\Ax J2 G/\G tw=Aa (.tup [V.str "seat",V.str "out"])/\G mp=Aa (.lst (([0,1]:Ac Ab).map V.int))/\G b=Aa (.lst (zrf zs))/\(∀y∈zs,CzG ad.c_a G y)/\zs.length=2*i+k/\(∀y∈zs,∃d seat hd,hd < 2/\Bhd xs (suR (Am ls)) (N.fdiv (1+1)+1) z y d seat hd)/\(∀seat hd,(hd < i\/(hd=i/\(if seat=Af then 1 else 2)<=k))->∃y∈zs,∃d,Bhd xs (suR (Am ls)) (N.fdiv (1+1)+1) z y d seat hd)) ⟨_,zs,rfl,sJ.trans w0,ew,w0 _ _ emp,w0 _ _ eb,(fun y m=>(gb y m).same w0),zl,al,(fun seat hd h=>ex seat hd (by rcases h with h | h;exact h;exfalso;have:=h.2;split at this <;> omega))⟩ (fun k σ' G _ hq_=>by obtain ⟨_,_,_,_,e,_⟩:=hq_;exact SqT.of e) ?_ ?_⟩
  ·rintro k y σ' G hy ⟨v8,zs,rfl,sG,etw,emp,eb,gb,zl,al,ex⟩;have hk:k < 2:=(List.getElem?_eq_some_iff.mp hy).1
   have ey:y=.str (if decide (k=0)=Af then "seat" else "out"):=by
    rcases (by omega:k=0\/k=1) with rfl | rfl <;> exact (Bn hy).symm
   subst ey;subst_eqs;refine ⟨.inl ⟨rfl,_,SqL.of eb⟩,?_⟩;subst_eqs
   exists 2,d,hd,G,(.tup [V.str (if decide (k=0)=Af then "seat" else "out"),V.int (i:Ab)]),G1,w1,ed1,rfl
   have sG1:=sG.trans w1;refine ⟨a,su,d,z.st,2,1,xs,N,i,fs,suR (Am ls),decide (k=0),z,rfl,ed1,(sc4.same sG1).is,by decide,by decide,sg.same sG1,gz4.same sG1,ed,by rw [em];decide,by rw [em];decide,by rw [em];exact b3 i hi,by omega,(by rw [em];exact all3),qb.1,qb.2,fun y G2 ny w2 gy2 bh=>?_⟩;have eb2:=(w1.trans w2) _ _ eb;refine ⟨b,_,_,rfl,rfl,eb2,(by unfold zrf;rw [At];exact C8 (by omega)),?_⟩;have tb:tw≠b:=fun e=>by rw [e,eb] at etw;cases etw
   refine ⟨_,zs++[y],rfl,Bs (sG1.trans w2) hb,by rw [AF tb];exact (w1.trans w2) _ _ etw,by rw [AF mb];exact (w1.trans w2) _ _ emp,by rw [Az];unfold zrf;rw [AK];rfl,fun x m=>CzG.upd eb2 ?_,by rw [Bj,zl];show 2*i+k+1=_;omega,fun x m=>?_,fun seat g h=>?_⟩
   ·rcases mem_append.mp m with m | m
    ·exact (gb x m).same (w1.trans w2)
    ·rw [mem_singleton.mp m];exact gy2
   ·rcases mem_append.mp m with m | m
    ·exact al x m
    ·rw [mem_singleton.mp m];exact ⟨d,_,i,hi,bh⟩
   ·by_cases c:g < i\/(g=i/\(if seat=Af then 1 else 2)<=k)
    ·obtain ⟨x,xm,r⟩:=ex seat g c;exact ⟨x,CB _ xm,r⟩
    ·have e:g=i/\seat=decide (k=0):=by
      rcases h with h | ⟨h1,h2⟩
      ·exact Aw (.inl h) c
      ·refine ⟨h1,?_⟩
       cases seat
       ·rw [Ao (by decide)] at h2;exact (AS (by omega)).symm
       ·rw [Ar rfl] at h2 c;exact (AT (by omega)).symm
     rw [e.1,e.2];exact ⟨y,B8 _ (mem_singleton.mpr rfl),d,bh⟩
  ·rintro σ' G ⟨v8,zs,rfl,sG,etw,emp,eb,gb,zl,al,ex⟩;exact ⟨_,_,zs,rfl,sG,emp,eb,gb,by rw [zl];show 2*i+2=_;omega,al,fun seat hd h=>ex seat hd (by rcases (by omega:hd < i\/hd=i) with h | h;exact .inl h;exact .inr ⟨h,by show _<=2;split <;> omega⟩)⟩
 rintro σ' J ⟨v7,v8,zs,rfl,sJ,emp,eb,gb,zl,al,ex⟩;subst_eqs;exact q b zs J (none_of t4 hb) (t4.trans sJ) eb gb ⟨zl,al,ex⟩
theorem ok_b0 (T:Tx K mg base ad):AG P w K mg base CX0 8 ad.f_b0 ad.d_b0 ["self","sheet"] (Uo ad.c_b):=by
 exists b0
 obtain ⟨a,l,h,s,xs,ls,rfl,is,h1,h12,s1,s6,pm,hl,gl,okl,l60,nN,q⟩:=h;refine ⟨_,(~~~((pv 0)=<<(b.df.j>=>(((pv 0)=<<(b.cz.bv>=>((pv 1)*>Al)))*>Al)))),?_⟩;obtain ⟨dx,lo,k1,k2⟩:=id is;symm;refine ⟨a,dx,_,rfl,k1,rfl,?_⟩;symm;refine ⟨a,dx,_,rfl,k1,rfl,?_⟩;symm;refine ⟨a,l,h,s,xs,ls,rfl,is,h1,h12,s1,s6,pm,hl,gl,okl,l60,nN,fun p ps H1 hp t1 e1 g1 v1=>?_⟩;have rl:=NQ (Am ls) h xs ((AZ (Am ls)).fdiv ((s:Ab)+1)+1) (h+1) (CA (Am ls).length h) (2 ^ h - 1) s
 have vl:ps.length=(E6 (Am ls) h xs s).length:=by
  have:=Bx BM v1;rw [At,At] at this;exact this
 have vd:DB ps=(E6 (Am ls) h xs s).map fun r=>r.2.2:=by
  have:=Bx (fun l:Ac Rv=>l.map fun z=>z.2.2) v1;rw [Bf,Bf] at this;exact this
 refine ⟨a,p,h,(s:Ab),xs,ps,rfl,is.same t1,h12,e1,g1,(fun z=>by
  rw [z] at vl;exact rl.2 (by omega) (length_eq_zero_iff.mp vl.symm)),(by rw [vl];exact BE rl.1 (by omega)),fun o H2 ho t2 e2=>?_⟩
 rw [vd] at e2;exact q o H2 (none_of t1 ho) (t1.trans t2) e2
theorem ok_bp (T:Tx K mg base ad):AG P w K mg base CX0 9 ad.f_bp ad.d_bp ["self","sheet","outcome","pair","below"] (TX ad.c_b ad.lP ad.c_c):=by
 exists bp
 obtain ⟨g,a,l,oc,p,xs,ls,w',be,rfl,im,sc,w2,win,hoc,hp,lbe,N1,lt,q⟩:=h;refine ⟨_,(@Av _ _ _ _ _ (5<$>As) (@Av _ _ _ _ _ (6<$>(a5<*((pv 1)*>(((pv 0)=<<(c.db.bs>=>((AX∩((pv 3)∪As))*>((AX∩((pv 3)∪As))*>Al))))*>Al)))) (@Av _ _ _ _ _ (Lg Ci (PW.pt (@Lh _ _ _ _ _ _ _ (FR⊂((@AA _ _ _ _ _ _ _ _ Ea (pv 6) (pv 5))∪As)) (@Li _ _ _ _ (EV⊂((@AA _ _ _ _ _ _ _ _ C3 (pv 5) As)∪(pv 4)))))) (@Av _ _ _ _ _ (7<$>(@AA _ _ _ _ _ _ _ _ EU (@AA _ _ _ _ _ _ _ _ C3 (pv 5) (pv 6)) As)) (@AY _ _ _ (((NB hr.units)⊂(((Be (pv 0) rfl)=<<(b.c6.b0>=>((e<*((pv 1)*>(((pv 0)=<<(c.da.br>=>((pv 1)*>((pv 3)*>((pv 7)*>Al)))))*>Al)))*>Al)))∪(pv 2)))⊆((@AY _ _ _ (6<$>(pv 7)))∪(@AY _ _ _ (5<$>(pv 7)))))))) (~~~(pv 6))))),?_⟩;obtain ⟨dm,hg⟩:=id im;have l6:=sc.len;subst_eqs;refine ⟨g,dm,_,rfl,hg,rfl,?_⟩;subst_eqs;refine ⟨g,w',1 - w',rfl,by omega,fun sl H1 hsl s1 e1=>?_⟩;subst_eqs;refine ⟨l,sl,ls,[(2:Ab) ^ (1 - w')],rfl,s1 _ _ sc.l,sc.g.same s1,e1,by omega,fun H2 s2=>?_⟩;have t0:∀ts,0<=tot (Am ls) ts:=fun ts=>JI sc.n1;have df:=Qk sc.k6 t0 w2 win N1;have dp:=Nh win;have s12:=s1.trans s2;have N40:AZ (Am ls) < 1099511627776:=sc.tot;have tp:=t0 [2 ^ (1 - w')];have fe:((Am ls).map (fun x:Ac Ab × Ab=>x.2)).sum - tot (Am ls) [2 ^ (1 - w')]=Bw (Am ls) - tot (Am ls) [2 ^ (1 - w')]:=rfl;rw [fe];have fb:Bw (Am ls) - tot (Am ls) [2 ^ (1 - w')]<=AZ (Am ls):=by show AZ (Am ls) - _<=_;omega
 generalize hfr:Bw (Am ls) - tot (Am ls) [2 ^ (1 - w')]=free at df fb;subst_eqs;dsimp only;refine Oh (fun σ' J=>Ex3 fun (lo hi:Ab) (v7:A5 V)=>σ'=[Aa (.ref g),Aa (.ref l),Aa (.ref oc),Aa (.ref p),Aa (.int be),Aa (.int lo),Aa (.int hi),v7]/\Sm H J/\LT ad.lP J/\0<=lo/\lo < B3 (Am ls) xs w'/\B3 (Am ls) xs w'<=hi/\hi<=free) (fun σ' _=>match σ' with | [_,_,_,_,_,Aa (.int lo),Aa (.int hi),_]=>(hi - lo).toNat | _=>0) ⟨0,free,Ai,rfl,Sm.of s12,lt.same s12,by omega,by omega,df,by omega⟩ ?_ (ZX (Ri (KQ (KQ KR KR) Rh)) (Ri (KQ (KQ KR Rh) KR)));rintro σ1 J ⟨lo,hi,v7,rfl,sJ,ltJ,lo0,lod,dhi,hif⟩;subst_eqs;by_cases c:1 < hi - lo
 ·refine ifT (AT c) ?_;subst_eqs;refine ifT (AT (show lo+1 < be by omega)) ?_;subst_eqs;dsimp only
  have md:lo < (lo+hi).fdiv 2/\(lo+hi).fdiv 2 < hi:=by
   have:=DH (lo+hi) (show (0:Ab)<=2 by decide);omega
  generalize (lo+hi).fdiv 2=mid at md ⊢;have scJ:=sc.sm sJ;have imJ:=im.sm sJ;obtain ⟨dm1,hg1⟩:=id imJ;obtain ⟨da,la,k1,k2⟩:=id scJ.is;subst_eqs;refine ⟨g,_,dm1,_,_,rfl,hg1,T.cl_c,T.na_c_b6,rfl,?_⟩;refine ⟨a,da,_,rfl,k1,rfl,?_⟩;subst_eqs;refine ⟨g,dm1,_,rfl,hg1,rfl,?_⟩;subst_eqs;refine ⟨g,a,l,p,ls,w',1 - w',mid,rfl,imJ,sJ.tup hp,scJ.l,scJ.g,(fun q m=>S3 _ (sc.k6 q m)),by omega,by omega,by omega,ltJ,fun r sr rs J1 hr1 u1 lt1 er gr esr ev=>?_⟩;obtain ⟨L,lp,lsr,ev⟩:=ev;have od:Ky (Am ls) w' L:=⟨lp,lsr⟩;have sc1:=scJ.sm u1;have mf:mid<=Bw (Am ls) - tot (Am ls) [2 ^ (1 - w')]:=by omega
  have n0:∀q∈Am ls,0<=q.2:=fun q m=>by have:=sc.n1 q m;omega
  obtain ⟨_,_,_,_,f5⟩:=Ny od sc.k6 n0 w2 (show 0<=mid by omega) mf
  have rd:CW (rs.map fun q=>(q.1,(q.2.1,q.2.2.1),(sr,[(2:Ab) ^ (1 - w')]),q.2.2.2))=(Bb L mid).map fun q=>(q.1,[(2:Ab) ^ (1 - w')],q.2):=by
   rw [<- ev];unfold CW;rw [Bf,Bf];rfl
  have pu:([2 ^ (1 - w')]:Ac Ab)∈S6:=by rcases (by omega:w'=0\/w'=1) with rfl | rfl <;> decide
  have mm:∀q∈Bb L mid,q.1≠[2 ^ (1 - w')]/\1<=q.2/\q.1∈S6:=fun q h=>by
   obtain ⟨h1,x,xm,e⟩:=Lr _ q h;rw [<- e];have xm:=mem_filter.mp (lp.mem_iff.mp xm);have ne:x∈Am ls/\x.1≠[2 ^ (1 - w')]:=⟨xm.1,HL (by have:=xm.2;rw [Bool.not_eq_true'] at this;exact this)⟩;exact ⟨ne.2,by omega,sc.k6 x ne.1⟩
  refine ⟨l,r,ls,rs.map fun q=>(q.1,(q.2.1,q.2.2.1),(sr,[(2:Ab) ^ (1 - w')]),q.2.2.2),S6,rfl,sc1.l,sc1.g,(by rw [er];unfold vrz vrs;rw [Bf];rfl),(fun q m=>by obtain ⟨x,xm,rfl⟩:=mem_map.mp m;exact ⟨(gr x xm).1,(gr x xm).2,esr⟩),(by rw [rd];exact fun q m=>by obtain ⟨x,xm,rfl⟩:=mem_map.mp m;exact ⟨(mm x xm).1,(mm x xm).2.1⟩),sc.k6,(by rw [rd];exact fun q m=>by obtain ⟨x,xm,rfl⟩:=mem_map.mp m;exact ⟨(mm x xm).2.2,pu⟩),by decide,(fun ts=>by rw [rd,Io,Ob];have:=f5 ts;omega),fun l' ls' J2 hl' u2 el gl sh _=>?_⟩;rw [rd] at sh;obtain ⟨te,k6',n1',len',tot'⟩:=ZZ od sc.k6 sc.n1 w2 (by omega) mf sh;have sc2:Sc ad.c_b J2 a l' xs ls':=⟨sc1.is.same u2,sc.pm,el,gl,k6',n1',by unfold Am at len';rw [At] at len';exact len',by rw [tot'];exact sc.tot⟩;obtain ⟨mw1,mw2⟩:=Z_ od sc.pm sc.k6 n0 w2 win (by omega) mf te;refine ⟨a,l',2,1,xs,ls',rfl,sc2.is,by decide,by decide,by decide,by decide,sc2.pm,sc2.l,sc2.g,sc2.ok,by have:=sc2.len;omega,sc2.tot,fun o2 J3 ho2 u3 e3=>?_⟩;have u23:=u2.trans u3;have sJ3:=(sJ.trans u1).trans (Sm.of u23);have lt3:=lt1.same u23;subst_eqs;by_cases c2:mid < B3 (Am ls) xs w'
  ·rw [JH k6' sc.pm w2 (mw1 c2)] at e3;refine ⟨o2,oc,CT w',CT w',rfl,rfl,SqL.of e3,SqL.of (sJ3.lst hoc),?_⟩;refine ⟨_,rfl,ifF (by rw [AT rfl];rfl) ?_⟩;subst_eqs;exact ⟨⟨mid,hi,_,rfl,sJ3,lt3,by omega,c2,dhi,hif⟩,by show (hi - mid).toNat < (hi - lo).toNat;omega⟩
  ·rw [JH k6' sc.pm (by omega) (mw2 (by omega))] at e3;refine ⟨o2,oc,CT (1 - w'),CT w',rfl,rfl,SqL.of e3,SqL.of (sJ3.lst hoc),?_⟩;refine ⟨_,rfl,ifT (by rw [AS (by rcases (by omega:w'=0\/w'=1) with rfl | rfl <;> decide)];rfl) ?_⟩;subst_eqs;exact ⟨⟨lo,mid,_,rfl,sJ3,lt3,lo0,lod,by omega,by omega⟩,by show (mid - lo).toNat < (hi - lo).toNat;omega⟩
 ·refine ifF (AS c) ?_;subst_eqs;have:hi=B3 (Am ls) xs w':=by omega
  rw [this];exact q J sJ ltJ
theorem ok_av (T:Tx K mg base ad):AG P w K mg base CX0 9 ad.f_av ad.d_av ["self","sheet"] (Ue ad.c_b ad.c_a ad.c_c):=by
 exists av
 obtain ⟨g,a,l,xs,ls,w',rfl,im,sc,w2,win,q⟩:=h;refine ⟨_,(@Av _ _ _ _ _ (2<$>((Be (pv 0) rfl)=<<(b.c6.b0>=>((pv 1)*>Al)))) (@Av _ _ _ _ _ (3<$>(a3<*((Be (pv 0) rfl)*>((pv 1)*>Al)))) (@Av _ _ _ _ _ (4<$>NH) (@Av _ _ _ _ _ (@CG _ _ _ _ (be<*((pv 4)*>((pv 3)*>Al))) (by rfl)) (@Av _ _ _ _ _ (5<$>(@CV _ _ _ _ Al)) (@AY _ _ _ (Lg Ci (@C5 _ _ _ Fu (by intro _;rfl)) (@Av _ _ _ _ _ (6<$>(bi<*((pv 4)*>Al))) (@AY _ _ _ ((@C5 _ _ _ (RK (pv 6) T.cl_a T.me_a_cn (ok_h T) (hr.mono (by decide)) T.b_h .nil Fs) (by intro _;rfl))⊆((@AY _ _ _ (((NB hr.units)⊂(((pv 6)=<<(a.dd.ae>=>((Be (Be (pv 0) rfl) rfl)*>Al)))∪(pv 2)))⊆((~~~(@Bq _ _ _ _ _ ((Be (pv 6) rfl)*>(((pv 0)=<<(c.c7.q>=>((pv 2)*>((Be (pv 6) rfl)*>((pv 3)*>((pv 5)*>Al))))))*>Al))))∪Bp)))∪(@AY _ _ _ ((CU⊂((@B4 _ _ _ _ _ _ _ _ _ FK (by rfl) T.z_b9 Gi ((pv 5)*>Al) (by decide) (by decide) (by rfl) (by rfl))∪(Jw (v:=.int 100) rfl T.k_cr ⟨_,rfl⟩)))⊆((@AY _ _ _ FX)∪(@Av _ _ _ _ _ (7<$>(w<*((Be (pv 0) rfl)*>((pv 1)*>((pv 6)*>Al))))) (@Av _ _ _ _ _ (@CG _ _ _ _ (CN CP EJ PySem.F.type_list_append El (pv 5) ((@Bq _ _ _ _ _ ((pv 6)*>((pv 7)*>Al)))*>Al)) (by rfl)) (@AY _ _ _ (C4 Ci rfl (BV (pv 7)) (B5 (i:=8) sc_av.nd rfl (B2 rfl)) (@AY _ _ _ (@CG _ _ _ _ (be<*((pv 4)*>((pv 8)*>Al))) (by rfl))))))))))))))))))))),?_⟩;obtain ⟨dm,hg⟩:=id im;obtain ⟨da,la,k1,k2⟩:=id sc.is;have l6:=sc.len;subst_eqs;refine ⟨g,_,dm,_,_,rfl,hg,T.cl_c,T.na_c_b6,rfl,?_⟩;refine ⟨a,da,_,rfl,k1,rfl,?_⟩;subst_eqs;refine ⟨a,l,2,1,xs,ls,rfl,sc.is,by decide,by decide,by decide,by decide,sc.pm,sc.l,sc.g,sc.ok,by omega,sc.tot,fun oc H1 hoc s1 e1=>?_⟩;rw [JH sc.k6 sc.pm w2 win] at e1;have sc1:=sc.same s1;have im1:=im.same s1;obtain ⟨dm1,hg1⟩:=id im1;subst_eqs;refine ⟨g,_,dm1,_,_,rfl,hg1,T.cl_c,T.na_c_b6,rfl,?_⟩;subst_eqs;refine ⟨a,l,2,1,xs,ls,rfl,sc1.is,by decide,sc1.l,by omega,fun z yh H2 nz s2 gz ed em epl end0 est gy yl=>?_⟩;have em:z.m=3:=em;have epl:z.pl=1:=epl;have sc2:=sc1.same s2;have im2:=im1.same s2;have oc2:=s2 _ _ e1;subst_eqs;intro d hd
 exists d,hd,H2,(.dT []),H3,s3,e3
 have w3:Wt ad.c_a H2 H3 d []:=⟨s3,hd,e3,(fun _ m=>Aw m Bm),LO,(fun _ m=>Aw m Bm)⟩;subst_eqs;refine ⟨H2,d,[],z,rfl,w3,gz,Br _,fun W1 H4 w4 b4 l4=>?_⟩;subst_eqs
 exists 0,op,hop,H4,(.lst []),H5,s5,e5,rfl
 have wop:∀v∈W1,v.2.1≠op:=fun v m e=>by have:=(w4.l v m).1;rw [e,hop] at this;cases this
 have four:=fun {zs:Ac Cz} (f:Kx xs (Am ls) ((AZ (Am ls)).fdiv 2+1) z zs)=>YK f ed em epl end0 sc.k6 sc.n1 w2 win;have s12:=s1.trans s2;subst_eqs;refine Adk (fun m σ' J=>Ex3 fun (v6 v7 v8:A5 V)=>σ'=[Aa (.ref g),Aa (.ref l),Aa (.ref oc),Aa (.ref z.a),Aa (.ref d),Aa (.ref op),v6,v7,v8]/\XN ad.c_a H2 xs (Am ls) w' z d op m J) 10 ⟨Ai,Ai,Ai,rfl,.inl ⟨rfl,W1,w4.same s5,(fun y=>by rw [b4];exact ⟨fun h=>h.resolve_left (fun m=>nomatch m),.inr⟩),by rw [l4];rfl,none_of w4.b hop,e5,wop⟩⟩ ?_ Vr;rintro m σ1 J ⟨v6,v7,v8,rfl,sr⟩;refine ⟨_,rfl,ifT rfl ?_⟩;rcases sr with ⟨rfl,W,gW,bW,lW,bop,eop,wop⟩ | ⟨m4,B,W,o,sB,gW,bop,go,eo,fo,sub,oth,lW⟩
 ·subst_eqs;refine ⟨H2,d,W,rfl,gW,PH ((bW z).mpr rfl),by omega,fun z1 W' J1 g1 zb low lft sb ln kp=>?_⟩;have ez:=(bW z1).mp zb;subst ez;have W0:=X' g1 (by omega);subst W0;have eop1:=kp _ _ eop (fun e=>by have:=gW.d;rw [<- e,eop] at this;cases this) wop;obtain ⟨dz,hz⟩:=id (gz.same g1.b).o;subst_eqs;refine ⟨z1.a,dz,_,rfl,hz,rfl,?_⟩;refine ⟨z1,rfl,gz.same g1.b,by rw [em];decide,by rw [em];decide,fun J2 t2=>?_⟩;have eE:Ha z1.m z1.pl=Aq:=by rw [em,epl];decide +kernel
  rw [eE];refine ⟨_,rfl,ifF rfl ?_⟩;have eop2:=t2 _ _ eop1;have g2:=g1.b.trans t2;obtain ⟨dm3,hg3⟩:=id (im2.same g2);subst_eqs;refine ⟨g,_,dm3,_,_,rfl,hg3,T.cl_c,T.na_c_b6,rfl,?_⟩;subst_eqs;refine ⟨a,l,xs,ls,z1,yh,rfl,sc2.same g2,gz.same g2,ed,em,epl,g2 _ _ est,(fun x k=>⟨(gy x k).1.same g2,(gy x k).2⟩),yl,fun bb zs J3 nb t3 eb gb fo=>?_⟩;have eop3:=t3 _ _ eop2;subst_eqs;refine ⟨.inl ⟨rfl,_,SqL.of eop3⟩,?_⟩;subst_eqs
  exists 2,tb,htb,J3,(.tup [V.ref z1.a,V.ref bb]),J4,t4,e4,rfl
  have eop4:=t4 _ _ eop3;have ed4:=((t2.trans t3).trans t4) _ _ g1.d;have eb4:=t4 _ _ eb;refine ⟨op,_,_,rfl,rfl,eop4,(by decide),?_⟩;have g5:Ax H2 (upd J4 op (.lst ([]++[V.ref tb]))):=Bs (g2.trans (t3.trans t4)) bop;have eop5:(upd J4 op (.lst ([]++[V.ref tb]))) op=Aa (.lst [V.ref tb]):=Az;have dop:d≠op:=fun e=>by rw [e,eop4] at ed4;cases ed4
  have bbop:bb≠op:=fun e=>by rw [<- e,nb] at eop2;cases eop2
  have ed5:(upd J4 op (.lst ([]++[V.ref tb]))) d=Aa (.dT (wkv [])):=by rw [AF dop];exact ed4
  have etb5:(upd J4 op (.lst ([]++[V.ref tb]))) tb=Aa (.tup [V.ref z1.a,V.ref bb]):=by rw [AF (Ce e4 eop4 (fun z=>by cases z))];exact e4
  have eb5:(upd J4 op (.lst ([]++[V.ref tb]))) bb=Aa (.lst (zrf zs)):=by rw [AF bbop];exact eb4
  have gb5:∀y∈zs,CzG ad.c_a (upd J4 op (.lst ([]++[V.ref tb]))) y:=fun y m=>CzG.upd eop4 ((gb y m).same t4);generalize upd J4 op (.lst ([]++[V.ref tb]))=J5 at g5 eop5 ed5 etb5 eb5 gb5 ⊢;have sB:=Ib g5 hd;have w5:Wt ad.c_a (off J5 d) J5 d []:=⟨Ia _ _,Ru,ed5,(fun _ m=>Aw m Bm),LO,(fun _ m=>Aw m Bm)⟩;have go:OpG ad.c_a (off J5 d) (tb,z1,bb,zs):=⟨Du etb5 (Ce etb5 ed5 (fun z=>by cases z)),gz.same sB,Du eb5 (Ce eb5 ed5 (fun z=>by cases z)),fun y m=>⟨CzG.off ed5 (gb5 y m),((four fo).1 y m).2⟩,by show zs.length<=24;rw [fo.len];decide⟩;have bop5:off J5 d op=Aa (.lst [V.ref tb]):=Du eop5 (BF dop);have eb6:=go.l;have gc:=go.c;subst_eqs;refine ⟨⟨_,SqL.of eb5⟩,DC (xs:=zrf zs) (fun k σ' J=>Ex2 fun (v8:A5 V) (W:Ac Wr)=>σ'=[Aa (.ref g),Aa (.ref l),Aa (.ref oc),Aa (.ref z1.a),Aa (.ref d),Aa (.ref op),Aa (.ref z1.a),Aa (.ref bb),v8]/\Wt ad.c_a (off J5 d) J d W/\(∀y,y∈bag W↔y∈zs.take k)/\(bag W).length=k) ⟨_,[],rfl,w5,(fun y=>⟨(fun m=>nomatch m),(fun m=>nomatch m)⟩),rfl⟩ (fun k σ' J _ hq_=>by obtain ⟨_,_,_,e,_⟩:=hq_;exact SqL.of (e.b _ _ eb6)) ?_ ?_⟩
  ·rintro k x σ' J hx ⟨v8,W,rfl,gJ,bJ,lJ⟩;unfold zrf at hx;rw [Ba] at hx;obtain ⟨y,hy0,rfl⟩:=Option.map_eq_some_iff.mp hx;have kl:=(List.getElem?_eq_some_iff.mp hy0).1;rw [fo.len] at kl;subst_eqs;refine ⟨off J5 d,d,W,y,rfl,gJ,(gc y (Bt hy0)).1,by omega,fun W2 J6 g6 b6 l6'=>?_⟩;refine ⟨_,W2,rfl,g6,fun x=>?_,by omega⟩;rw [b6,bJ,Dk,hy0,Hv];exact or_congr Iff.rfl (by rw [Option.toList_some,OG])
  ·rintro σ' J ⟨v8,W,rfl,gJ,bJ,lJ⟩;have zl:(zrf zs).length=4:=by unfold zrf;rw [At];exact fo.len
   rw [zl] at lJ bJ;rw [Cn (by rw [fo.len];exact A1 _)] at bJ;exact ⟨4,by decide,_,_,_,rfl,.inr ⟨A1 _,off J5 d,W,(tb,z1,bb,zs),sB,gJ,bop5,go,rfl,fo,(fun y m=>(bJ y).mp m),(fun y m _=>(bJ y).mpr m),lJ⟩⟩
 ·obtain ⟨f1,⟨y0,y0m,y0n,y0d⟩,f3⟩:=four fo;subst_eqs;refine ⟨B,d,W,rfl,gW,PH (oth y0 y0m y0n),by omega,fun z1 W' J1 g1 zb low lft sb ln kp=>?_⟩;have zm:=sub z1 zb;have gz1:=(go.c z1 zm).1.same g1.b;obtain ⟨dz,hz⟩:=id gz1.o;have bz:=(f1 z1 zm).2;subst_eqs;refine ⟨z1.a,dz,_,rfl,hz,rfl,?_⟩;refine ⟨z1,rfl,gz1,bz.1,bz.2.1,fun J2 t2=>?_⟩;rw [(f1 z1 zm).1];refine ⟨_,rfl,ifT rfl ?_⟩;have g2:=g1.b.trans t2;have b2:=sB.trans g2;obtain ⟨dm3,hg3⟩:=id (im2.same b2);obtain ⟨da3,la3,k13,k23⟩:=id (sc2.same b2).is;subst_eqs;refine ⟨z1.a,dz,_,rfl,t2 _ _ hz,rfl,?_⟩;subst_eqs;refine ⟨g,_,dm3,_,_,rfl,hg3,T.cl_c,T.na_c_b6,rfl,?_⟩;refine ⟨a,_,da3,_,_,rfl,k13,T.cl_b,T.na_b_b1,rfl,?_⟩;subst_eqs;refine ⟨z1,2,rfl,gz1.same t2,bz.1,bz.2.1,by decide,bz.2.2,fun lt J3 nl t3 e3=>?_⟩;have oc3:=(b2.trans t3) _ _ oc2;subst_eqs;refine ⟨lt,oc,F2 2 z1,CT w',rfl,rfl,SqL.of e3,SqL.of oc3,?_⟩;refine ⟨_,rfl,?_⟩;by_cases c:F2 2 z1=CT w'
  ·refine ifF (by rw [AT c];rfl) ?_;exact ⟨(bag W').length,by omega,_,_,_,rfl,.inr ⟨by omega,B,W',o,sB,(g1.same t2).same t3,bop,go,eo,fo,(fun y m=>sub y (sb y m)),(fun y m ne=>(lft y (oth y m ne)).resolve_left fun e=>ne (by rw [e];exact c)),rfl⟩⟩
  ·refine ifT (by rw [AS c];rfl) ?_
   have nd:z1.nd=B3 (Am ls) xs w':=by
    have a1:=f3 z1 zm c;have a2:=low y0 (oth y0 y0m y0n);omega
   have hz3:=(t2.trans t3) _ _ hz;have b3:=b2.trans t3;have im3:=im2.same b3;obtain ⟨dm4,hg4⟩:=id im3;subst_eqs;refine ⟨z1.a,_,dz,_,_,rfl,hz3,T.cl_a,T.na_a_b5,rfl,?_⟩;subst_eqs;refine ⟨g,dm4,_,rfl,hg4,rfl,?_⟩;subst_eqs;refine ⟨z1.a,_,dz,_,_,rfl,hz3,T.cl_a,T.na_a_b5,rfl,?_⟩;subst_eqs;refine ⟨g,a,oc,op,2,1,xs,CT w',z1.nd,z,[o],rfl,im3,(sc2.same b3).is,by decide,oc3,gz.same b3,⟨by rw [em];decide,by rw [em];decide,by rw [ed];exact Br _⟩,(g2.trans t3) _ _ bop,(fun x m=>by rw [mem_singleton.mp m];exact go.same (g2.trans t3)),(by show 1<=30;decide),fun p J4 np t4=>?_⟩;refine ⟨(by show 2<=AB;decide),fun t ht=>?_⟩;refine q t p _ (s12.trans (b3.trans (t4.trans (AN ht _)))) ?_;rw [Az,nd]
theorem ok_au (T:Tx K mg base ad):AG P w K mg base CX0 10 ad.f_au ad.d_au ["self","sheet"] (Ua ad.c_b ad.lP ad.c_c):=by
 exists au
 obtain ⟨g,a,l,xs,ls,w',rfl,im,sc,w2,win,N1,lt,q⟩:=h;refine ⟨_,(@Av _ _ _ _ _ (2<$>((Be (pv 0) rfl)=<<(b.c6.b0>=>((pv 1)*>Al)))) (@Av _ _ _ _ _ (3<$>(@AA _ _ _ _ _ _ _ _ C3 (ah<*((pv 1)*>Al)) As)) (@Av _ _ _ _ _ (4<$>FS) (@Av _ _ _ _ _ (C4 Ci rfl (BV (o<*((pv 2)*>Al))) (B5 (i:=5) sc_au.nd rfl (B2 rfl)) (@Av _ _ _ _ _ (6<$>((pv 0)=<<(c.c1.bp>=>((pv 1)*>((pv 2)*>((pv 5)*>((pv 3)*>Al))))))) (@AY _ _ _ ((EV⊂((pv 6)∪(pv 3)))⊆((@Av _ _ _ _ _ (3<$>(pv 6)) (@AY _ _ _ (4<$>(pv 5))))∪Bp))))) (~~~(@Bq _ _ _ _ _ ((pv 3)*>(((pv 0)=<<(c.da.br>=>((pv 1)*>((pv 4)*>((pv 3)*>Al)))))*>((pv 4)*>Al))))))))),?_⟩;obtain ⟨dm,hg⟩:=id im;obtain ⟨da,la,k1,k2⟩:=id sc.is;have l6:=sc.len;subst_eqs;refine ⟨g,_,dm,_,_,rfl,hg,T.cl_c,T.na_c_b6,rfl,?_⟩;refine ⟨a,da,_,rfl,k1,rfl,?_⟩;subst_eqs;refine ⟨a,l,2,1,xs,ls,rfl,sc.is,by decide,by decide,by decide,by decide,sc.pm,sc.l,sc.g,sc.ok,by omega,sc.tot,fun oc H1 hoc s1 e1=>?_⟩;rw [JH sc.k6 sc.pm w2 win] at e1;have sc1:=sc.same s1;subst_eqs;refine ⟨l,ls,rfl,sc1.l,sc1.g,by omega,fun H2 s2=>?_⟩;have oc2:=s2 _ _ e1;have qn:((Am ls).map (fun x:Ac Ab × Ab=>x.2)).sum=AZ (Am ls):=rfl;rw [qn];subst_eqs;refine ⟨oc,CT w',rfl,oc2,(by show 2<=12;decide),fun pl ps H3 hpl s3 epl gps eps=>?_⟩;rw [Aa6 w2] at eps;obtain ⟨x,rfl⟩:∃x,ps=[x]:=length_eq_one_iff.mp (by have:=Bx BM eps;rw [At] at this;exact this);have ex:x.2=((w':Ab),((1 - w':Ae):Ab)):=(List.cons.inj eps).1;have epa:H3 x.1=Aa (.tup [.int (w':Ab),.int ((1 - w':Ae):Ab)]):=by have:=gps x (AV ..);rw [ex] at this;exact this
 have epl:H3 pl=Aa (.lst [V.ref x.1]):=epl;generalize x.1=pa at epl epa;have s13:=s1.trans (s2.trans s3);have sc3:=sc.same s13;have oc3:=s3 _ _ oc2;have im3:=im.same s13;refine ⟨pl,rfl,⟨_,SqL.of epl⟩,DC (xs:=[V.ref pa]) (fun i σ' J=>Sm H3 J/\LT ad.lP J/\((i=0/\σ'=[Aa (.ref g),Aa (.ref l),Aa (.ref oc),Aa (.int (AZ (Am ls)+1)),Aa .non,Ai,Ai])\/(1<=i/\∃v5 v6:A5 V,σ'=[Aa (.ref g),Aa (.ref l),Aa (.ref oc),Aa (.int (B3 (Am ls) xs w')),Aa (.ref pa),v5,v6]))) ⟨Sm.refl _,lt.same s13,.inl ⟨rfl,rfl⟩⟩ (fun i σ' J _ hq_=>by obtain ⟨e,_⟩:=hq_;exact SqL.of (e.lst epl)) ?_ ?_⟩
 ·rintro i y σ' J hy ⟨sJ,ltJ,st⟩;have hi:i < 1:=(List.getElem?_eq_some_iff.mp hy).1;obtain rfl:i=0:=by omega
  have ey:y=.ref pa:=(Bn hy).symm;subst ey;rcases st with ⟨_,rfl⟩ | ⟨h,_⟩
  ·obtain ⟨dm3,hg3⟩:=id (im3.sm sJ);subst_eqs;refine ⟨g,dm3,_,rfl,hg3,rfl,?_⟩;subst_eqs;refine ⟨g,a,l,oc,pa,xs,ls,w',AZ (Am ls)+1,rfl,im3.sm sJ,sc3.sm sJ,w2,win,sJ.lst oc3,sJ.tup epa,by omega,N1,ltJ,fun J1 u1 lt1=>?_⟩;have t0:∀ts,0<=tot (Am ls) ts:=fun ts=>JI sc.n1;have df:=Qk sc.k6 t0 w2 win N1;have tp:=t0 [2 ^ (1 - w')];have sn:Bw (Am ls)=AZ (Am ls):=rfl;subst_eqs;refine ifT (AT (by omega)) ?_;subst_eqs;exact ⟨sJ.trans u1,lt1,.inr ⟨by omega,_,_,rfl⟩⟩
  ·omega
 rintro σ' J ⟨sJ,ltJ,st⟩;rcases st with ⟨h,_⟩ | ⟨_,v5,v6,rfl⟩
 ·exact Aw h (by show ¬ 1=0;decide)
 obtain ⟨dm3,hg3⟩:=id (im3.sm sJ);have scJ:=sc3.sm sJ;subst_eqs;refine ⟨g,dm3,_,rfl,hg3,rfl,?_⟩;subst_eqs;refine ⟨g,a,l,pa,ls,w',1 - w',B3 (Am ls) xs w',rfl,im3.sm sJ,sJ.tup epa,scJ.l,scJ.g,(fun q m=>S3 _ (sc.k6 q m)),by omega,by omega,by omega,ltJ,fun r sr rs J1 hr1 u1 lt1 er gr esr ev=>?_⟩;subst_eqs;refine ⟨(by show 3<=AB;decide),fun t ht=>?_⟩;have s5:=AN ht (.tup [V.int (B3 (Am ls) xs w'),V.ref r,V.ref pa]);exact q t r pa _ (((Sm.of s13).trans (sJ.trans u1)).trans (Sm.of s5)) (lt1.same s5) Az
theorem ok_bt (T:Tx K mg base ad):AG P w K mg base CX0 11 ad.f_bt ad.d_bt ["self","sheet"] (UA ad.c_b ad.lP ad.c_c):=by
 exists bt
 obtain ⟨g,a,l,xs,ls,rfl,im,sc,lt,q0,q⟩:=h;refine ⟨_,(@Av _ _ _ _ _ ((@Es _ _ _ _ (@C5 _ _ _ ((pv 0)=<<(c.c8.bq>=>((pv 1)*>Al))) (by intro _;rfl)))⊆((~~~FS)∪Bp)) (@Av _ _ _ _ _ (2<$>((pv 0)=<<(c.c4.av>=>((pv 1)*>Al)))) (@Av _ _ _ _ _ (3<$>((pv 0)=<<(c.c3.au>=>((pv 1)*>Al)))) (~~~(@Bq _ _ _ _ _ ((AX∩((pv 2)∪As))*>((AX∩((pv 3)∪As))*>((AX∩((pv 2)∪As))*>((AX∩((pv 3)∪As))*>Al))))))))),?_⟩;obtain ⟨dm,hg⟩:=id im;have l6:=sc.len;subst_eqs;refine ⟨g,dm,_,rfl,hg,rfl,?_⟩;subst_eqs;refine ⟨g,a,l,2,1,xs,ls,rfl,im,sc.is,sc.l,sc.g,by omega,fun H1 s1=>?_⟩;by_cases c:ls=[]
 ·rw [show (decide (0 < Bw (Am ls)) && decide ((1:Ab) < 2))=Aq from by rw [c];rfl];subst_eqs;exact q0 c H1 (Sm.of s1) (lt.same s1)
 ·have N1:1<=AZ (Am ls):=by
   cases ls with
   | nil=>exact Aw rfl c
   | cons y r =>
     have m:(y.2.2.1,y.2.2.2)∈Am (y :: r):=AV ..;have a1:=(Jp sc.n1).2 _ m;have a2:=sc.n1 _ m;omega
  have N1':0 < Bw (Am ls):=by have:Bw (Am ls)=AZ (Am ls):=rfl;omega
  rw [AT N1',show decide ((1:Ab) < 2)=Af from rfl];obtain ⟨w',w2,win⟩:=Adm (ds:=Am ls) sc.pm;have sc1:=sc.same s1;have im1:=im.same s1;obtain ⟨dm1,hg1⟩:=id im1;subst_eqs;refine ⟨g,dm1,_,rfl,hg1,rfl,?_⟩;subst_eqs;refine ⟨g,a,l,xs,ls,w',rfl,im1,sc1,w2,win,fun t k H2 s2 et=>?_⟩;have s12:=s1.trans s2;have sc2:=sc.same s12;have im2:=im.same s12;obtain ⟨dm2,hg2⟩:=id im2;subst_eqs;refine ⟨g,dm2,_,rfl,hg2,rfl,?_⟩;subst_eqs;refine ⟨g,a,l,xs,ls,w',rfl,im2,sc2,w2,win,N1,lt.same s12,fun t2 r pa H3 u3 lt3 et2=>?_⟩;have et3:=u3.tup et;subst_eqs;refine ⟨(by show 4<=AB;decide),fun t4 nt=>?_⟩;have s4:=AN nt (.tup [V.int (B3 (Am ls) xs w'),V.int (B3 (Am ls) xs w'),V.ref k,V.ref r]);exact q w' w2 win c t4 k r _ ((Sm.of s12).trans (u3.trans (Sm.of s4))) (lt3.same s4) Az
theorem ok_aj (T:Tx K mg base ad):AG P w K mg base CX0 12 ad.f_aj ad.d_aj ["_law_script"] (JD K ad.lP):=by
 exists aj
 obtain ⟨p,ns,rfl,hS,h63,hP,q⟩:=h;refine ⟨_,(@Av _ _ _ _ _ (1<$>(al<*((a7<*((pv 0)*>(As*>Al)))*>(As*>Al)))) (@Av _ _ _ _ _ (2<$>(@AA _ _ _ _ _ _ _ _ C3 As (@AA _ _ _ _ _ _ _ _ Dv (@AA _ _ _ _ _ _ _ _ EU (a7<*((pv 0)*>(As*>Al))) As) As))) (@Av _ _ _ _ _ (3<$>(m<*((pv 0)*>((pv 2)*>((CM∩((@CV _ _ _ _ (As*>((@AA _ _ _ _ _ _ _ _ Lb As As)*>Al)))∪(@AA _ _ _ _ _ _ _ _ Dv (a7<*((pv 0)*>(As*>Al))) As)))*>Al))))) (@Av _ _ _ _ _ (4<$>(Ld T.mk_b (ok_ag T) (hr.mono (by decide)) rfl T.m_b T.b_ag .nil Fs (As*>(As*>((@Hf _ _ _ _ _ _ _ _ _ HS (by rfl) T.z_b4 GM ((pv 1)*>Al) (by decide) (by decide) (by rfl) (by rfl))*>Al))))) (@Av _ _ _ _ _ (5<$>(Ld T.mk_c (ok_af T) (hr.mono (by decide)) rfl T.m_c T.b_af .nil Fs ((pv 4)*>Al))) (@Av _ _ _ _ _ ((CU⊂((@AA _ _ _ _ _ _ _ _ Dv (@AA _ _ _ _ _ _ _ _ EU (a7<*((pv 0)*>(As*>Al))) As) As)∪As))⊆((~~~(@Ft _ _ _ _ _ _ _ (@Ep _ _ _ _ _ _ _ _ NA ((pv 5)=<<(c.de.bt>=>((@CV _ _ _ _ Al)*>Al))) FS (D_ _)) (@FT _ _ _ _ _ (@Ep _ _ _ _ _ _ _ _ Aax ((pv 5)=<<(c.c8.bq>=>((@CV _ _ _ _ Al)*>Al))) Fu (D_ _)))))∪Bp)) (@Av _ _ _ _ _ (6<$>(@Hf _ _ _ _ _ _ _ _ _ HS (by rfl) T.z_b4 GM ((pv 3)*>Al) (by decide) (by decide) (by rfl) (by rfl))) (@Av _ _ _ _ _ (7<$>((pv 5)=<<(c.de.bt>=>((pv 6)*>Al)))) (@Av _ _ _ _ _ (8<$>(@AA _ _ _ _ _ _ _ _ Ea (ak<*((pv 3)*>(As*>Al))) (ak<*((pv 3)*>(As*>Al))))) (@Av _ _ _ _ _ (9<$>As) (@Av _ _ _ _ _ (@Hh _ _ _ _ _ _ _ _ (PW.pt (@Hj _ _ _ _ _ _ _ (EV⊂((pv 8)∪As)) (@Ij _ _ _ _ (PW.pt (@Lh _ _ _ _ _ _ _ (CU⊂((pv 8)∪As)) (@Li _ _ _ _ ((Ry hr.units)⊂((pv 1)∪(@CV _ _ _ _ (As*>(As*>Al))))))))))) (@AY _ _ _ (9<$>As)) Bp) (@Av _ _ _ _ _ (10<$>(@AA _ _ _ _ _ _ _ _ C3 (@AA _ _ _ _ _ _ _ _ EU (@B4 _ _ _ _ _ _ _ _ _ K6 (by rfl) T.z_cf Mp ((pv 8)*>Al) (by decide) (by decide) (by rfl) (by rfl)) As) As)) (@Av _ _ _ _ _ (@Hh _ _ _ _ _ _ _ _ (Jt⊂((CM∩((pv 1)∪As))∪(pv 9))) (@AY _ _ _ (10<$>(@AA _ _ _ _ _ _ _ _ EU (@AA _ _ _ _ _ _ _ _ C3 (@B4 _ _ _ _ _ _ _ _ _ K6 (by rfl) T.z_cf Mp ((pv 8)*>Al) (by decide) (by decide) (by rfl) (by rfl)) As) As))) Bp) (@Av _ _ _ _ _ ((PW.pt (@Hj _ _ _ _ _ _ _ (@Es _ _ _ _ (@C5 _ _ _ (@B4 _ _ _ _ _ _ _ _ _ (Yk (K:=K)) (by rfl) T.z_cc Hy ((pv 5)*>((Jw (v:=.ref ad.c_b7) rfl T.m_b7 rfl)*>Al)) (by decide) (by decide) (by rfl) (by rfl)) (by intro _;rfl))) (@Hj _ _ _ _ _ _ _ (@Es _ _ _ _ (@C5 _ _ _ (@B4 _ _ _ _ _ _ _ _ _ HR (by rfl) T.z_cc Hy ((pv 7)*>((Ig (v:=.ty "tuple") rfl T.z_cx PyProof.Rows.boot_tuple rfl)*>Al)) (by decide) (by decide) (by rfl) (by rfl)) (by intro _;rfl))) (@Ij _ _ _ _ (Jt⊂((@B4 _ _ _ _ _ _ _ _ _ FK (by rfl) T.z_b9 Gi ((pv 7)*>Al) (by decide) (by decide) (by rfl) (by rfl))∪As))))))⊆((~~~Fu)∪Bp)) (@Av _ _ _ _ _ ((PW.pt (@Hj _ _ _ _ _ _ _ ((R4 (K:=K) hr.units)⊂((pv 6)∪(pv 3))) (@Ij _ _ _ _ (Aa2⊂(((pv 5)=<<(c.c8.bq>=>((pv 6)*>Al)))∪Fu)))))⊆((~~~Fu)∪Bp)) (@Av _ _ _ _ _ (((NB hr.units)⊂(((pv 4)=<<(b.c6.b0>=>((@Hf _ _ _ _ _ _ _ _ _ HS (by rfl) T.z_b4 GM ((pv 3)*>Al) (by decide) (by decide) (by rfl) (by rfl))*>Al)))∪(@CV _ _ _ _ ((@AA _ _ _ _ _ _ _ _ Ea As (pv 9))*>((pv 9)*>Al)))))⊆((~~~Fu)∪Bp)) (~~~(@Ft _ _ _ _ _ _ _ (y<*((AX∩((pv 7)∪As))*>Al)) (@Ft _ _ _ _ _ _ _ (y<*((AX∩((pv 7)∪As))*>Al)) (@Ft _ _ _ _ _ _ _ (@Ep _ _ _ _ _ _ _ _ CU (AX∩((pv 7)∪As)) (pv 10) (D_ _)) (@FT _ _ _ _ _ (@Ep _ _ _ _ _ _ _ _ CU (AX∩((pv 7)∪As)) (pv 10) (D_ _))))))))))))))))))))))),?_⟩;subst_eqs;refine ⟨p,ns,0,rfl,hS,h63,by decide,by decide,fun c0 c00 c01=>?_⟩;subst_eqs;refine ⟨c0,2,rfl,Lo c00 c01,by decide,by decide,fun lo xs H1 s1 e1 pm=>?_⟩;have pm:xs.Perm (ups 2):=pm;subst_eqs;refine ⟨p,ns,0,rfl,s1.seq hS,h63,by decide,by decide,fun c1 c10 c11=>?_⟩;subst_eqs;dsimp only;have m6:=Di (c1.fdiv 4) (show (0:Ab) < 6 by decide);have mm:1<=1+(c1.fdiv 4).fmod 6/\1+(c1.fdiv 4).fmod 6<=6:=by omega
 generalize 1+(c1.fdiv 4).fmod 6=m' at mm ⊢;obtain ⟨m,rfl⟩:∃h:Ae,m'=(h:Ab):=⟨m'.toNat,by omega⟩;subst_eqs
 exists 2,b,hb,H1,(.lst [V.int 3,V.int (10 ^ (9:Ab).toNat)]),H2,s2,e2,rfl
 have s12:=s1.trans s2;subst_eqs;refine ⟨p,ns,1,rfl,s12.seq hS,h63,by decide,by decide,fun c2 c20 c21=>?_⟩;subst_eqs;have m2:=Di c2 (show (0:Ab) < 2 by decide);obtain ⟨most,hmo,mo1,mo2⟩:=AaX (x0:=3) (x1:=10 ^ (9:Ab).toNat) (fun v=>1<=v/\v<=10 ^ 9) _ m2.1 m2.2 (by decide) (by decide);refine ⟨b,_,_,_,rfl,rfl,SqL.of e2,hmo,?_⟩;subst_eqs;refine ⟨p,ns,m,most,rfl,s12.seq hS,h63,by omega,by omega,mo1,mo2,fun sh ls H3 hsh s3 e3 g3 k6 n1 l6 lne tot=>?_⟩;have s13:=s12.trans s3;have lo3:=(s2.trans s3) _ _ e1;subst_eqs;intro b2 hb2
 exists b2,hb2,H3,(.lst (xs.map V.int)),H4,s4,e4
 intro a dx ha hdx ne;have k1:Ax H4 (upd (upd H4 dx (.own a)) a (.ins ad.c_b dx [])):=(AN hdx _).trans (AN (by rw [AF (BF ne)];exact ha) _);refine ⟨a,ad.c_b,dx,b2,2,1,xs,rfl,Az,T.cl_b,T.na_b_b1,T.na_b_ce,T.na_b_cg,by decide,by decide,by decide,by decide,k1 _ _ e4,pm,fun l' H5 s5 a5 l5=>?_⟩;rw [Jq] at s5;have s5:=(Ib (AN hdx (.own a)) ha).trans s5;refine ⟨rfl,?_⟩;have is5:IsS ad.c_b H5 a 2 1 xs:=⟨dx,l',a5,l5⟩;clear k1 ha hdx ne a5 l5;subst_eqs;intro g dm hg hdm ne;refine ⟨g,ad.c_c,dm,a,rfl,Az,T.cl_c,T.na_c_b6,fun H6 s6 e6=>?_⟩;rw [Jq] at s6;have s6:=(Ib (AN hdm (.own g)) hg).trans s6;refine ⟨rfl,?_⟩;have im6:IsM ad.c_c H6 g a:=⟨dm,e6⟩;clear hg hdm ne;have s46:=s4.trans (s5.trans s6);have s06:=s13.trans s46;have is6:=is5.same s6;have hP6:=s06 _ _ hP;have lt6:LT ad.lP H6:=.inl hP6;have sh6:=s46 _ _ e3;have sc6:Sc ad.c_b H6 a sh xs ls:=⟨is6,pm,sh6,g3.same s46,k6,n1,l6,tot⟩;have lo6:=s46 _ _ lo3;clear s4 s5 s6 is5 e4 e2 e1 lo3 g3 e3 is6;subst_eqs;refine ⟨p,ns,0,rfl,s06.seq hS,h63,by decide,by decide,fun c3 c30 c31=>?_⟩;subst_eqs;by_cases c:(c3.fdiv 24).fmod 9=4
 ·refine ifT (Hb c) ?_;subst_eqs;refine ⟨g,dm,_,rfl,e6,rfl,?_⟩
  exists 0,e0,he0,H6,(.lst []),H7,s7,e7,rfl
  refine ⟨g,a,e0,xs,[],rfl,im6.same s7,⟨sc6.is.same s7,pm,e7,(fun _ m=>Aw m Bm),(fun _ m=>Aw m Bm),(fun _ m=>Aw m Bm),Br _,by decide⟩,lt6.same s7,fun _ H8 u8 lt8=>?_,fun w w2 win nn=>Aw rfl nn⟩;have im8:=(im6.same s7).sm u8;have is8:IsS ad.c_b H8 a 2 1 xs:=let ⟨dx,lo,h1,h2⟩:=sc6.is.same s7;⟨dx,lo,u8.keep _ _ h1 rfl,u8.lst h2⟩;obtain ⟨dm8,hg8⟩:=id im8;subst_eqs;refine ⟨g,dm8,_,rfl,hg8,rfl,?_⟩
  exists 0,e9,he9,H8,(.lst []),H9,s9,e9',rfl
  refine ⟨g,a,e9,2,1,xs,[],rfl,im8.same s9,is8.same s9,e9',(fun _ m=>Aw m Bm),Br _,fun HA sA=>?_⟩;subst_eqs;exact q HA
 refine ifF (HW c) ?_;subst_eqs;intro le hle
 exists le,hle,H6,(.lst (vls ls)),H7,s7,e7
 have im7:=im6.same s7;obtain ⟨dm7,hg7⟩:=id im7;have sc7:=sc6.same s7;subst_eqs;refine ⟨g,dm7,_,rfl,hg7,rfl,?_⟩;subst_eqs;refine ⟨g,a,le,xs,ls,rfl,im7,⟨sc7.is,pm,e7,sc7.g,k6,n1,l6,tot⟩,lt6.same s7,fun z=>Aw z lne,fun w' w2 win _ tf k r H8 u8 lt8 et=>?_⟩;have sc8:=sc7.sm u8;have le8:=u8.lst e7;have lo8:=u8.lst (s7 _ _ lo6);have im8:=im7.sm u8;clear lt8 u8 im7 sc7 e7 s7 hg7 im6 sc6 lt6 e6 hP hP6;subst_eqs;refine ⟨sh,ls,0,rfl,sc8.l,sc8.g,k6,by omega,by decide,fun H9 s9=>?_⟩;subst_eqs;refine ⟨sh,ls,1,rfl,s9 _ _ sc8.l,sc8.g.same s9,k6,by omega,by decide,fun HA sA=>?_⟩;have s8A:=s9.trans sA;have sc9:=sc8.same s8A;have leA:=s8A _ _ le8;have loA:=s8A _ _ lo8;have imA:=im8.same s8A;have etA:=s8A _ _ et;clear sc8 le8 lo8 im8 et;subst_eqs;dsimp only
 have ord:∀z:Ae,z < 2->(xs.idxOf ((1 - z:Ae):Ab) < xs.idxOf (z:Ab)↔¬ xs.idxOf (z:Ab) < xs.idxOf ((1 - z:Ae):Ab)):=by
  rcases Ip pm with rfl | rfl <;> decide +kernel
 refine ⟨fun σ' J=>σ'=[Aa (.ref p),Aa (.ref lo),Aa (.int (m:Ab)),Aa (.ref sh),Aa (.ref a),Aa (.ref g),Aa (.ref le),Aa (.ref tf),Aa (.int (fr (Am ls) 0 - fr (Am ls) 1)),Aa (.int (w':Ab)),Ai]/\Ax HA J,?_,?_⟩
 ·have wi:w'=1↔(fr (Am ls) 0 - fr (Am ls) 1 < 0\/fr (Am ls) 0 - fr (Am ls) 1=0/\xs=[1,0]):=by
   rcases (by omega:w'=0\/w'=1) with rfl | rfl
   ·refine ⟨fun h=>Aw h (by decide),fun h=>?_⟩;rcases win with d | ⟨d,d2⟩
    ·have d:fr (Am ls) 1 < fr (Am ls) 0:=d;omega
    ·have d:fr (Am ls) 1=fr (Am ls) 0:=d;rcases h with h | ⟨_,rfl⟩
     ·omega
     ·exact Aw d2 (by decide)
   ·refine ⟨fun _=>?_,fun _=>rfl⟩;rcases win with d | ⟨d,d2⟩
    ·have d:fr (Am ls) 0 < fr (Am ls) 1:=d;exact .inl (by omega)
    ·have d:fr (Am ls) 0=fr (Am ls) 1:=d;rcases Ip pm with rfl | rfl
     ·exact Aw d2 (by decide)
     ·exact .inr ⟨by omega,rfl⟩
  have z0:w'≠1->w'=0:=by omega
  subst_eqs;by_cases g0:fr (Am ls) 0 - fr (Am ls) 1 < 0
  ·refine ifT (AT g0) ?_;refine ifT rfl ?_;subst_eqs;exact ⟨by rw [wi.mpr (.inl g0)];rfl,fun _ _ e=>e⟩
  ·refine ifF (AS g0) ?_;subst_eqs;by_cases g1:fr (Am ls) 0 - fr (Am ls) 1=0
   ·refine ifT (Hb g1) ?_;subst_eqs;refine ⟨(by show 2<=AB;decide),fun t1 ht1=>?_⟩
    exists t1,ht1,HA,(.lst [V.int 1,V.int 0]),HA1,u1,f1,(.lst (([1,0]:Ac Ab).map V.int))
    refine ⟨lo,t1,xs,[1,0],rfl,rfl,SqL.of (u1 _ _ loA),SqL.of f1,?_⟩;refine ⟨_,rfl,?_⟩;by_cases g2:xs=[1,0]
    ·rw [AT g2];refine ifT rfl ?_;subst_eqs;exact ⟨by rw [wi.mpr (.inr ⟨g1,g2⟩)];rfl,u1⟩
    ·rw [AS g2];refine ifF rfl ?_;exact ⟨by rw [z0 fun e=>by rcases wi.mp e with h | h;exact g0 h;exact g2 h.2];rfl,u1⟩
   ·refine ifF (HW g1) ?_;refine ifF rfl ?_;exact ⟨by rw [z0 fun e=>by rcases wi.mp e with h | h;exact g0 h;exact g1 h.1];rfl,fun _ _ e=>e⟩
 rintro σ' HB ⟨rfl,sB⟩;have scB:=sc9.same sB;have leB:=sB _ _ leA;have loB:=sB _ _ loA;have imB:=imA.same sB;have etB:=sB _ _ etA;clear sc9 leA loA imA etA
 have ab:(if fr (Am ls) 0 - fr (Am ls) 1 < 0 then -(fr (Am ls) 0 - fr (Am ls) 1) else fr (Am ls) 0 - fr (Am ls) 1)=fr (Am ls) w' - fr (Am ls) (1 - w'):=by
  rcases (by omega:w'=0\/w'=1) with rfl | rfl
  ·have:fr (Am ls) 1<=fr (Am ls) 0:=by rcases win with d | d;exact BH d;exact LH d.1
   show _=fr (Am ls) 0 - fr (Am ls) 1
   split <;> omega
  ·have:fr (Am ls) 0<=fr (Am ls) 1:=by rcases win with d | d;exact BH d;exact LH d.1
   show _=fr (Am ls) 1 - fr (Am ls) 0
   split <;> omega
 have gw:fr (Am ls) (1 - w')<=fr (Am ls) w':=by rcases win with d | d;exact BH d;exact LH d.1
 have hd1:(fr (Am ls) w' - fr (Am ls) (1 - w')).fdiv 2=(fr (Am ls) w' - fr (Am ls) (1 - w')) / 2:=DH _ (by decide);have hd2:(fr (Am ls) w' - fr (Am ls) (1 - w')+1).fdiv 2=(fr (Am ls) w' - fr (Am ls) (1 - w')+1) / 2:=DH _ (by decide)
 obtain ⟨x0,hx0,ix0⟩:∃x0:Ab,atI (xs.map V.int) 0=Aa (.int x0)/\(x0≠(w':Ab)↔¬ xs.idxOf (w':Ab) < xs.idxOf ((1 - w':Ae):Ab)):=by
  rcases Ip pm with rfl | rfl
  ·exact ⟨0,rfl,by rcases (by omega:w'=0\/w'=1) with rfl | rfl <;> decide⟩
  ·exact ⟨1,rfl,by rcases (by omega:w'=0\/w'=1) with rfl | rfl <;> decide⟩
 subst_eqs;dsimp only;rw [ab];refine ⟨fun σ' J=>σ'=[Aa (.ref p),Aa (.ref lo),Aa (.int (m:Ab)),Aa (.ref sh),Aa (.ref a),Aa (.ref g),Aa (.ref le),Aa (.ref tf),Aa (.int (fr (Am ls) 0 - fr (Am ls) 1)),Aa (.int (w':Ab)),Aa (.int (B3 (Am ls) xs w'))]/\HB=J,?_,?_⟩
 ·subst_eqs;refine ⟨lo,_,_,_,rfl,rfl,SqL.of loB,hx0,?_⟩;subst_eqs;by_cases g0:x0=(w':Ab)
  ·refine ifF (KU g0) ?_;exact ⟨by unfold B3;rw [Ar (Decidable.not_not.mp fun h=>ix0.mpr h g0),hd1];rfl,rfl⟩
  ·refine ifT (KW g0) ?_;subst_eqs;dsimp only;rw [ab,hd2];exact ⟨by unfold B3;rw [Ao (ix0.mp g0)];rfl,rfl⟩
 rintro σ' J ⟨rfl,rfl⟩;obtain ⟨dmB,hgB⟩:=id imB;subst_eqs;refine ⟨g,ad.c_c,dmB,_,_,rfl,hgB,T.cl_c,T.ia_c_b7,?_⟩;subst_eqs;refine ⟨_,_,_,_,rfl,CS.tup etB,Zy,?_⟩;subst_eqs;refine ⟨.list (ls.map lnD),.list (ls.map lnD),.lst (SqL.of leB) (Sv scB.g),.lst (SqL.of scB.l) (Sv scB.g),(Nt ls).shaped (by decide),(Nt ls).shaped (by decide),?_⟩;rw [(Nt ls).eqv];subst_eqs;refine ⟨g,dmB,_,rfl,hgB,rfl,?_⟩;subst_eqs;refine ⟨g,a,le,2,1,xs,ls,rfl,imB,scB.is,leB,scB.g,by omega,fun HC sC=>?_⟩
 have N1:0 < Bw (Am ls):=by
  cases ls with
  | nil=>exact Aw rfl lne
  | cons y r =>
    have mm:(y.2.2.1,y.2.2.2)∈Am (y :: r):=AV ..;have a1:=(Jp n1).2 _ mm;have a2:=n1 _ mm;have a3:Bw (Am (y :: r))=AZ (Am (y :: r)):=rfl;omega
 rw [AT N1];have scC:=scB.same sC;have etC:=sC _ _ etB;obtain ⟨da,la,k1,k2⟩:=id scC.is;have shC:=scC.l;subst_eqs;refine ⟨a,da,_,rfl,k1,rfl,?_⟩;subst_eqs;intro l2 hl2
 exists l2,hl2,HC,(.lst (vls ls)),HD,sD,eD
 have scD:=scC.same sD;refine ⟨a,l2,2,1,xs,ls,rfl,scD.is,by decide,by decide,by decide,by decide,pm,eD,scD.g,scD.ok,by omega,tot,fun o2 HE ho2 sE eE=>?_⟩;rw [JH k6 pm w2 win] at eE;subst_eqs;refine ⟨(by show 2<=AB;decide),fun l3 hl3=>?_⟩;dsimp only at hl3 ⊢
 exists l3,hl3,HE,(.lst [V.int (1 - (w':Ab)),V.int (w':Ab)]),HF,sF,eF,(.lst ((CT w').map V.int))
 refine ⟨o2,l3,CT w',CT w',rfl,rfl,SqL.of (sF _ _ eE),SqL.of eF,?_⟩;refine ⟨_,rfl,ifF (by rw [AT rfl];rfl) ?_⟩;have etF:=(sD.trans (sE.trans sF)) _ _ etC;subst_eqs;refine ifT (Hb rfl) ?_;subst_eqs;show Q (.bl (decide (V.int (B3 (Am ls) xs w')=V.int (B3 (Am ls) xs w')))) HF;rw [AT rfl];exact q HF
end
theorem bindsD {K:A8} {fd:AE} {ps:Ac Ak} {ds:Ac Ah} {m:Ae} (hm:m+ds.length=ps.length) (h:∀s:Aj,K.In s.heap->∀us:Ac Ah,us.length=m->GB s fd ⟨us,[]⟩ (ps.zip (us++ds))):AJ K fd ps ds:=fun s us X hl=>h s X us (by rw [Bj] at hl;omega)
theorem by_len1 {α:Type} {P:Ac α->Prop} (h:∀x0,P [x0]):∀us:Ac α,us.length=1->P us
 | [_],_=>h _
theorem by_len2 {α:Type} {P:Ac α->Prop} (h:∀x0 x1,P [x0,x1]):∀us:Ac α,us.length=2->P us
 | [_,_],_=>h _ _
theorem by_len3 {α:Type} {P:Ac α->Prop} (h:∀x0 x1 x2,P [x0,x1,x2]):∀us:Ac α,us.length=3->P us
 | [_,_,_],_=>h _ _ _
theorem by_len4 {α:Type} {P:Ac α->Prop} (h:∀x0 x1 x2 x3,P [x0,x1,x2,x3]):∀us:Ac α,us.length=4->P us
 | [_,_,_,_],_=>h _ _ _ _
theorem by_len5 {α:Type} {P:Ac α->Prop} (h:∀x0 x1 x2 x3 x4,P [x0,x1,x2,x3,x4]):∀us:Ac α,us.length=5->P us
 | [_,_,_,_,_],_=>h _ _ _ _ _
theorem by_len6 {α:Type} {P:Ac α->Prop} (h:∀x0 x1 x2 x3 x4 x5,P [x0,x1,x2,x3,x4,x5]):∀us:Ac α,us.length=6->P us
 | [_,_,_,_,_,_],_=>h _ _ _ _ _ _
theorem all_mk {l:OX} {w:A3} {K:A8} {h:AD} {mg:Ak->A5 Ah} {fa lf:Ad} {ad:Ads} (X:K.In h) (hfa:mg "law"=Aa (.ref fa)) (hlf:mg "shift"=Aa (.ref lf)) (hlT:∃o fd,h.get? lf=Aa o/\o.data=.func fd/\fd.code=.ref ad.lc) (hm:mg "shift"=Aa (.ref ad.f_d)) (hml:mg "law"=Aa (.ref ad.f_aj)) (hF:Fun K "shift" "shift" s_d ad.f_d ad.d_d) (T:ad.d_d.code=.ref ad.lc->∀base:AD,EO base mg ad.lc ad.lP->Tx K mg base ad) (hb:∀(s:Aj) (v:Ah),GB s ad.d_aj ⟨[v],[]⟩ [("_law_script",v)]) :
 ∃fd:AE,(∀(s:Aj) (v:Ah),GB s fd ⟨[v],[]⟩ [("_law_script",v)])/\∀base:AD,K.In base->base.Ns Dc mg->EO base mg ad.lc ad.lP->AG l.prog w K mg base CX0 12 fa fd ["_law_script"] (JD K ad.lP):=by
 obtain ⟨_,_,_,_,_,_,_,_,_,e0,lk,_⟩:=hF.ex;have e:=hlf.symm.trans hm
 cases e
 obtain ⟨_,_,e1,e2,e3⟩:=hlT;rw [X _ _ lk] at e1
 cases e1
 injection e2 with e2
 rw [<- e2] at e3;have e:=hfa.symm.trans hml
 cases e
 exact ⟨_,hb,fun base _ _ LB=>ok_aj (T e3 base LB)⟩
theorem walk {l:OX} {q:A9} {loose:Ac Ak} {XP:(Ak->A5 Ah)->AD->Prop} {YP:A3->AD->Prop} {d dn:DefRec} {K:Ka->A8} (hn:l.most=Aa 63) (hdf:d.params.defaults=[])
 (hY:∀(w:A3) (h:AD),YP w h->(K w.params).In h) (hnt:∀p,KZ (K p)=Af) (hdn:(PyProof.Rows.recsOf q).find? (fun e=>e.name == ("shift":Ak))=Aa dn)
 (F:∀(w:A3) (mg:Ak->A5 Ah) (fa f c Pt:Ad) (h:AD),(K w.params).In h->h.Ns Dc mg->mg d.name=Aa (.ref fa)->mg "shift"=Aa (.ref f)->(∃o fd,h.get? f=Aa o/\o.data=.func fd/\fd.code=.ref c) ->
  ∃fd:AE,(∀(s:Aj) (u:Ah),GB s fd ⟨[u],[]⟩ [("_law_script",u)])/\∀base:AD,(K w.params).In base->base.Ns Dc mg->EO base mg c Pt->AG l.prog w (K w.params) mg base CX0 12 fa fd ["_law_script"] (JD (K w.params) Pt)) :
 WU q loose XP YP l.row.toRowW d [] (fun f vs=>Pf f vs) :=
 L2.walk_of1 (n:=63) (k:=12) (x:="_law_script") (dn:=dn) (CX:=fun _=>CX0) (sp:=fun w Pt=>JD (K w.params) Pt) hn (by decide) hdf ⟨rfl,by decide,by decide⟩ hY hnt (OF hdn) (fun w mg fa f c Pt h k1 k2 k3 k4 k5=>F w mg fa f c Pt h k1 k2 k3 (by rw [<- show dn.name="shift" from beq_iff_eq.mp (Wd (p:=fun e:DefRec=>e.name == ("shift":Ak)) hdn)];exact k4) k5) (fun _ _ _ a ns hl hP hS=>⟨a,ns,rfl,hS,hl,hP,fun _=>rfl⟩) fun _ _ _ _ _ z=>z
end Law
open PySem PySem.W PyProof.Rows
set_option maxRecDepth 100000 in
set_option maxHeartbeats 0 in
theorem PySem.Challenge.cw_pollproof_k78_two_hands_exactly_holds : PySem.Challenge.rw_pollproof_k78_two_hands_exactly.Holds := by
 refine Head.top ?_
 k_fill
 refine Law.walk (l:=PySem.Challenge.rw_pollproof_k78_two_hands_exactly) (dn:=((recsOf Head.q0).find? fun e=>e.name == ("shift":Ak)).get (by decide +kernel)) rfl rfl (fun w h Y=>PySem.W.km_in_of Y) ?nt (Option.some_get _).symm ?F
 case nt=>exact fun p=>by kernel_rfl
 case F =>
  intro w mg fa lf lc lP h KX G hmg hlf hlT;refine' Law.all_mk (ad:=Law.Ads.mk ..) KX hmg hlf hlT ?hm ?hml ?hF ?T ?hb
  case hm=>(refine mg_of KX G ?_;k_is)
  case hml=>(refine mg_of KX G ?_;k_is)
  case hF=>(dsimp only;apply L2.fun_mk <;> k_is)
  case T =>
   intro lcd base LB;dsimp only at lcd;apply Law.Tx.mk
   all_goals try dsimp only
   all_goals first
    | exact LB
    | exact lcd
    | (refine mg_of KX G ?_;k_is)
    | (refine mg_none_of KX G ?_;k_is)
    | k_is
    | (show _=_;first | k_is | k_exc)
    | (apply L2.fun_mk <;> k_is)
    | exact .all (Law.by_len1 fun _=>rfl)
    | exact .all (Law.by_len2 fun _ _=>rfl)
    | exact .all (Law.by_len3 fun _ _ _=>rfl)
    | exact .all (Law.by_len4 fun _ _ _ _=>rfl)
    | exact .all (Law.by_len5 fun _ _ _ _ _=>rfl)
    | exact .all (Law.by_len6 fun _ _ _ _ _ _=>rfl)
    | (apply L2.fund_mk <;> k_is)
    | (refine Law.bindsD (m:=4) rfl fun s X=>Law.by_len4 fun _ _ _ _=>?_;refine' binds_K X rfl ?ho ?hs ?h1 ?h2;(case ho=>k_is);(case hs=>exact rfl);(case h1=>exact rfl);(case h2=>exact rfl))
    | (constructor <;> k_is)
    | (constructor <;> first | k_is | kernel_rfl)
  case hb=>exact fun s v=>.of_eq rfl
#print axioms PySem.Challenge.cw_pollproof_k78_two_hands_exactly_holds
