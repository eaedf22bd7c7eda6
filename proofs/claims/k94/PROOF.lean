import PyProof.Rows.All
import Wide.All
import OpenK.AllK
import Wide.FinOn
import Lean
import PyProof.EqAt
import PyProof.EqKinds
import PyProof.TupleCall
import PySem.Challenge.RW_pollproof_k94_looks_side_by_side
set_option Elab.async false
set_option linter.all false
set_option compiler.extract_closed false
set_option maxRecDepth 100000
open _root_ renaming Array->A7,Array.ext->Oa,Array.getD->FH,Array.getD_eq_getD_getElem?->Ja,Array.getElem?_eq_getElem->Kn,Array.getElem?_eq_none->LH,Array.getElem?_extract->Ul,Array.getElem?_push->Um,Array.getElem?_setIfInBounds_ne->Uo,Array.getElem?_toList->Ob,Array.length_toList->DA,Array.mk->Jb,Array.toList_map->Up,Array.toList_push->Uq,Bool->AR,Bool.and_eq_true->Oc,Bool.and_false->Od,Bool.eq_iff_iff->Jd,Bool.false->As,Bool.false_and->Ur,Bool.false_eq_true->Eo,Bool.false_ne_true->B8,Bool.or_false->Us,Bool.true->Af,DecidableEq->Je,False->B5,False.elim->DZ,ForInStep.yield->Fa,Int->Ac,Int.add_assoc->UE,Int.add_zero->Es,Int.emod_lt_of_pos->UF,Int.emod_nonneg->UG,Int.eq_ofNat_of_zero_le->UH,Int.fdiv_eq_ediv_of_nonneg->Jg,Int.fmod_eq_emod_of_nonneg->Oj,Int.gcd->ED,Int.gcd_dvd_right->UI,Int.le_of_lt->Gv,Int.le_refl->Dr,Int.le_trans->Ol,Int.mul_assoc->Om,Int.mul_comm->On,Int.mul_fdiv_cancel_left->Kt,Int.mul_le_mul->UJ,Int.mul_le_mul_of_nonneg_left->Oo,Int.mul_nonneg->Op,Int.mul_nonpos_of_nonneg_of_nonpos->UK,Int.natAbs_natCast->Hd,Int.natCast_nonneg->Oq,Int.ne_of_gt->Ku,Int.one_mul->He,Int.pow_succ->Kv,Int.toNat_natCast->Ce,Int.toNat_of_nonneg->Gw,Int.zero_add->D_,LawfulMonad.pure_bind->MC,Lean.mkIdent->Dg,List->Ab,List.Perm.refl->Ky,List.Perm.swap->UL,List.all_eq_true->Ot,List.any_cons->Ou,List.append_assoc->Kz,List.append_nil->FK,List.cons_append->UM,List.cons_lt_cons_iff->UN,List.drop_drop->Ov,List.drop_eq_getElem_cons->UO,List.drop_of_length_le->Ow,List.drop_zero->UP,List.ext_getElem->G0,List.ext_getElem?->K0,List.filterMap_cons->LY,List.filter_append->Jh,List.filter_cons->UQ,List.find?_cons->Ji,List.flatten_append->LZ,List.foldl_append->UR,List.foldl_cons->US,List.forIn_cons->L_,List.forIn_nil->K5,List.getD_eq_getElem?_getD->BP,List.getElem?_append_left->K6,List.getElem?_append_right->Jj,List.getElem?_drop->L',List.getElem?_eq_getElem->BF,List.getElem?_eq_none->Hf,List.getElem?_map->Bm,List.getElem?_of_mem->Ox,List.getElem?_range->Oy,List.getElem?_replicate->Oz,List.getElem?_set_ne->Hg,List.getElem?_set_self->FL,List.getElem?_take->UT,List.getElem_mem->G1,List.length->EE,List.length_append->B9,List.length_cons->BA,List.length_drop->Hh,List.length_eraseIdx->UU,List.length_eraseIdx_of_lt->UV,List.length_filter_le->Mc,List.length_map->Aw,List.length_nil->Cs,List.length_range->DB,List.length_replicate->Fc,List.length_reverse->UW,List.length_set->DO,List.length_singleton->UX,List.length_take->DP,List.length_take_le->EF,List.lookup->FM,List.lookup_cons->FN,List.map->Jk,List.mapM_cons->UY,List.mapM_nil->UZ,List.mapM_toArray->U_,List.map_append->Bc,List.map_congr_left->Md,List.map_cons->BL,List.map_drop->Me,List.map_map->Fd,List.map_nil->Mh,List.map_reverse->Mi,List.map_set->Et,List.map_take->Mj,List.mem_append_left->Jl,List.mem_append_right->Ea,List.mem_cons->FO,List.mem_cons_of_mem->Bv,List.mem_cons_self->Bw,List.mem_filter->Ml,List.mem_map->O2,List.mem_of_getElem?->Br,List.mem_of_mem_drop->Mn,List.mem_of_mem_take->G2,List.mem_or_eq_of_mem_set->DQ,List.mem_singleton->U',List.nil_append->Va,List.nodup_cons->FP,List.nodup_nil->Hi,List.not_mem_nil->Cw,List.of_mem_zip->O7,List.pairwise_cons->Hj,List.pairwise_lt_range->Vb,List.pairwise_map->Mo,List.range->Bz,List.range_succ->O8,List.replicate->Ct,List.replicate_succ'->LG,List.reverse_cons->OA,List.set_append_right->OB,List.size_toArray->BB,List.sum_append->OC,List.sum_cons->Eb,List.take_append_drop->OD,List.take_length->Eu,List.take_of_length_le->CJ,List.take_succ->CA,List.take_zero->Vc,List.toArray->Mp,List.zip_cons_cons->Vd,Nat->Ae,Nat.add_right_cancel->Vf,Nat.le_of_eq->Mq,Nat.le_of_lt->EG,Nat.le_of_not_lt->Vg,Nat.le_refl->AB,Nat.le_succ->Ec,Nat.le_trans->CK,Nat.lt_irrefl->CQ,Nat.lt_of_le_of_lt->Hl,Nat.lt_of_lt_of_le->Cg,Nat.lt_succ_of_lt->Hm,Nat.lt_succ_self->Fe,Nat.lt_trans->OE,Nat.min_eq_left->OF,Nat.min_eq_right->Vh,Nat.ne_of_gt->DC,Nat.ne_of_lt->Bx,Nat.not_lt_zero->K7,Nat.pow_le_pow_right->Hn,Nat.sub_self->Ho,Nat.sub_zero->OG,Nat.succ_le_of_lt->Vi,Nat.succ_le_succ->Mr,Nat.succ_ne_self->K8,Nat.zero_le->BQ,Ne.symm->AM,Option->Ay,Option.getD_none->Vj,Option.getD_some->Vk,Option.isSome_some->Vl,Option.map_some->FS,Option.none->Ag,Option.some->Aa,Option.some.inj->Bp,Option.some.injEq->Vm,Or.inl->BW,Or.inr->KB,Prod.ext->Jo,Prod.mk.inj->Ms,PyProof.Rows.AllBare->FG,PyProof.Rows.F.entry_set_update_loop->U8,PyProof.Rows.F.plain_set_update_loop->Oh,PyProof.Rows.IntsAre->Cf,PyProof.Rows.KeyOrd.kle_of_klt->LX,PyProof.Rows.KeyOrd.kle_refl->Fb,PyProof.Rows.KeyOrd.kle_trans->Gy,PyProof.Rows.boot_abs->Vn,PyProof.Rows.boot_bool->Vo,PyProof.Rows.boot_enumerate->Pd,PyProof.Rows.boot_int->Vp,PyProof.Rows.boot_isinstance->G3,PyProof.Rows.boot_list->EH,PyProof.Rows.boot_max->Mu,PyProof.Rows.boot_range->M6,PyProof.Rows.boot_sorted->Vq,PyProof.Rows.boot_sum->KG,PyProof.Rows.boot_tuple->OK,PyProof.Rows.callWith_type1->Jq,PyProof.Rows.listUpdate_at->Pi,PyProof.Rows.size_push'->Kl,PyProof.Rows.step_dedup->Hv,PySem.Addr->Ad,PySem.Arguments->Km,PySem.Around->AV,PySem.Around.under->N',PySem.Around.under_plain->Uk,PySem.Around.under_plainId->G',PySem.AutoSeq1.wpAny_loadPart'->LF,PySem.BindsTo->Jc,PySem.Builtin->C9,PySem.Builtin.Dict.showsAll->Ut,PySem.Builtin.Dict_items.ownsTuple->Uu,PySem.Builtin.Int.intBits->DN,PySem.Builtin.List.listExtendWith->Ha,PySem.Builtin.List.listItems->Uv,PySem.Builtin.List.listLengthHint->LL,PySem.Builtin.List.listSameRef->LM,PySem.Builtin.List.listTooLong->Oe,PySem.Builtin.Range.rangeSize->LN,PySem.Builtin.Range.small->Uw,PySem.Builtin.SmallTypes.nextOf->LO,PySem.Builtin.bitAnd->LP,PySem.Builtin.bitOr->Ko,PySem.Calls.Name_function_global->Ux,PySem.Calls.callWith_builtin->Of,PySem.Calls.call_function_entry->Uy,PySem.Calls.call_len_list->Uz,PySem.Calls.evalArgs_plain->U0,PySem.Calls.spliced_cons->E_,PySem.Calls.spliced_nil->FI,PySem.Code.isFrame->Og,PySem.Code.quiet_builtin->U1,PySem.Data.cell->Kq,PySem.Data.fields->Kr,PySem.DictEntry->Gu,PySem.Drawn->Hb,PySem.EntryCells.newEntry->U2,PySem.Env->BK,PySem.ExceptHandler->LQ,PySem.Expr->A3,PySem.F.args_dict_get_3->Vr,PySem.F.args_dict_keyiterator_next_1->U3,PySem.F.args_tuple_iterator_next_1->U4,PySem.F.args_tuple_lt_2->Vs,PySem.F.called_enumerate->U5,PySem.F.entry_dict_get->Vt,PySem.F.entry_dict_keyiterator_next->U6,PySem.F.entry_enumerate_new->U7,PySem.F.entry_tuple_iterator_next->U9,PySem.F.entry_tuple_lt->Vu,PySem.F.plainAttrs_list->Ee,PySem.F.plain_extend_loop->Vv,PySem.F.plain_list_iadd->Mv,PySem.F.plain_proto_collect->Vw,PySem.F.plain_set_new->Vx,PySem.F.slot_dict_get->OM,PySem.F.slot_dict_iter->UA,PySem.F.slot_dict_keyiterator_next->LS,PySem.F.slot_enumerate_next->UB,PySem.F.slot_list_append->FT,PySem.F.slot_list_pop->Vy,PySem.F.slot_set_iter->Vz,PySem.F.slot_tuple_iterator_next->LU,PySem.F.slot_tuple_lt->ON,PySem.F.type_list_pop->V0,PySem.FuncData->AE,PySem.GenState->Ks,PySem.Heap->AC,PySem.Heap.ExtBut->Jf,PySem.Heap.SameBut->Ep,PySem.Heap.SameBut.update->Hc,PySem.Heap.get?_none_of_le->UC,PySem.Heap.get?_push_ne->UD,PySem.Heap.get?_push_of_some->Bk,PySem.Heap.get?_push_size->BE,PySem.Heap.get?_update_other->FJ,PySem.Heap.get?_update_self->EC,PySem.Heap.lt_size->A',PySem.Heap.size_push->Er,PySem.Heap.size_update->Oi,PySem.IsEnum->Gx,PySem.IsRange.new->Os,PySem.IsRangeIter->LV,PySem.Keyword->Gz,PySem.Meets->Jm,PySem.Model->DR,PySem.NameKind->FQ,PySem.NameKind.cell->Hk,PySem.NameKind.free->FR,PySem.Obj->A4,PySem.Obj.cls_mapFields->K9,PySem.Obj.data_mapFields->Ev,PySem.Obj.isFreed_of_fields->Jn,PySem.Obj.mapFields->Ew,PySem.Obj.mapSeq->CY,PySem.Obj.putSet->OH,PySem.OsState->DT,PySem.Paired->Ed,PySem.Paired.length->OI,PySem.Params->KC,PySem.PassesOwn.never->CC,PySem.PlainAttrs->OJ,PySem.Program->AN,PySem.PyData->Ex,PySem.PyData.canLayAll0->KE,PySem.PyData.depthAll->Jp,PySem.PyData.eqv->Mt,PySem.PyData.eqvAll->KF,PySem.Result->Jv,PySem.Scope->B1,PySem.Sem->C2,PySem.SeqAt.EqAt.int_int->VC,PySem.SeqAt.shaped->Mw,PySem.SetTable->CD,PySem.SetTable.advance->VE,PySem.SetTable.below->Cy,PySem.SetTable.below.go->M4,PySem.SetTable.grown->Hr,PySem.SetTable.insertAt->KI,PySem.SetTable.laid->OY,PySem.SetTable.probe.go->OZ,PySem.SetTable.sizeAbove->VH,PySem.SetTable.slot->O_,PySem.Shared->Ai,PySem.Stmt->AD,PySem.Str->Ak,PySem.Str.empty->Jw,PySem.Str.ofString->Az,PySem.Tok->BX,PySem.Value->Ah,PySem.Value.bool->EK,PySem.Value.builtin->KJ,PySem.Value.float->Pb,PySem.Value.int->Di,PySem.Value.isInt->Pc,PySem.Value.isInt_shape->VL,PySem.Value.none->B6,PySem.Value.ref->A_,PySem.Value.str->Jx,PySem.Value.type->Ck,PySem.W.Frag->A6,PySem.W.InstAt->Jr,PySem.W.KasT.kasWp_bind->Kx,PySem.W.Looks->Js,PySem.W.OpenLaw->OO,PySem.W.OpenRow.toRowW->KA,PySem.W.RowW.records->KH,PySem.W.SharedT->G5,PySem.W.WalkO->V1,PySem.W.binds_K->V2,PySem.W.boot_drawn->Jy,PySem.W.boot_heap->Ca,PySem.W.boot_toks->Jz,PySem.W.callWith_K->Mx,PySem.W.cellsFrom_some->V3,PySem.W.codeIn->AS,PySem.W.emptyDict->FU,PySem.W.findCls->V4,PySem.W.findIn->Bf,PySem.W.findObj->V5,PySem.W.findObj_own->V6,PySem.W.fnOf->AK,PySem.W.handedIn->OP,PySem.W.hasDictIn->FV,PySem.W.instObj->G4,PySem.W.isFn->BN,PySem.W.kas_rev->J0,PySem.W.keepIn->AL,PySem.W.kia_one->EI,PySem.W.kitMeta->My,PySem.W.kitOne->Jt,PySem.W.kitx_dict->V7,PySem.W.kitx_list->V8,PySem.W.lookIn->Mz,PySem.W.looks_findIn->OQ,PySem.W.looks_mroIn->V9,PySem.W.makesIn->Ju,PySem.W.methodCall_KW->OR,PySem.W.methodObj->OS,PySem.W.mg_none_of->Dt,PySem.W.mg_of->Bg,PySem.W.mroIn->M0,PySem.W.nsIn->AZ,PySem.W.plainGet->FW,PySem.W.plainGet_of->OT,PySem.W.plainOver->Hq,PySem.W.readsIn->VA,PySem.W.specialIn->OU,PySem.W.subIn->VB,PySem.W.takerIn->OV,PySem.W.typeIn->OW,PySem.Within->M1,PySem.World->AA,PySem.binaryOp->Ef,PySem.boot_len->Dh,PySem.builtinLookup_eq_fast->M7,PySem.call->OX,PySem.call_meets->M8,PySem.codeAny_builtin->FX,PySem.codeAny_call_builtin->M9,PySem.codeAny_extend_loopS->VQ,PySem.codeAny_mono->Eg,PySem.codeAny_of_tree->Pe,PySem.compareOp->CS,PySem.fastBuiltinMro->M3,PySem.fits_of_scanBound->Pf,PySem.foldedSetIterable->Fg,PySem.importedModules->CT,PySem.intKind_is->Pg,PySem.isSubtype_stop->Ph,PySem.isSubtype_type->MA,PySem.mainGlobals->AH,PySem.mem_of_lookup->Ff,PySem.model->A1,PySem.pickOrder.go->Pl,PySem.plainId_quiet->Hu,PySem.seqIndex_neg->Pn,PySem.seqIndex_of->Po,PySem.sizeLine->A5,PySem.sizeLine_eq->Fi,PySem.starEach->Bh,PySem.sysModules->DU,PySem.tupleKind_room_in1->Pp,PySem.typeLookup_type->MD,PySem.weight_type_call_type->Wc,PySem.wpAny->Ar,PySem.wpAny_Call_Name_kw->EL,PySem.wpAny_Name->Pq,PySem.wpAny_askSetting->JB,PySem.wpAny_assign_Name->Wd,PySem.wpAny_attempt->JC,PySem.wpAny_bind->Al,PySem.wpAny_call->KL,PySem.wpAny_callSpecial?_slot->Hw,PySem.wpAny_call_entry->Ey,PySem.wpAny_comprehension_free->We,PySem.wpAny_dictEntries->Pr,PySem.wpAny_dictEpoch->Ps,PySem.wpAny_eqBool_int->Wf,PySem.wpAny_execs_cons->Wg,PySem.wpAny_execs_nil->KM,PySem.wpAny_field->FY,PySem.wpAny_fieldsOf->ME,PySem.wpAny_handled->Pt,PySem.wpAny_holding->Du,PySem.wpAny_isInstance->KN,PySem.wpAny_isOneOf_keyiter->Wh,PySem.wpAny_ite_split->FZ,PySem.wpAny_letOwnedTupleGo_enum->Pu,PySem.wpAny_load->KO,PySem.wpAny_mono->DE,PySem.wpAny_newList->Pw,PySem.wpAny_newObj_type->Ez,PySem.wpAny_of_eq->Eh,PySem.wpAny_passesOwn->Hx,PySem.wpAny_pure->A0,PySem.wpAny_pyIter_enum->JD,PySem.wpAny_pyIter_list->JE,PySem.wpAny_pyIter_range->Wk,PySem.wpAny_pyIter_rangeiter->Wl,PySem.wpAny_pyIter_slot->Px,PySem.wpAny_pyIter_tuple->Py,PySem.wpAny_pyNext_enum_itemD->Wm,PySem.wpAny_pyNext_range_end->Wn,PySem.wpAny_rule->Hy,PySem.wpAny_runValue->Pz,PySem.wpAny_seqItems->KP,PySem.wpAny_setField->G7,PySem.wpAny_setState_of->Wo,PySem.wpAny_specialOf->MF,PySem.wpAny_standAt->MG,PySem.wpAny_storeSet_of->Wq,PySem.wpAny_throw->P0,PySem.wpAny_truthy_bool->Hz,PySem.wpAny_typeNameOfWhole_keyiter->MH,PySem.wpAny_typeNameOf_keyiter->MI,PySem.wpAny_typeOf->P1,PySem.wpAny_updateSeq->P2,String->CN,String.splitOn->VI,String.splitOnAux->VJ,Sum.inl->BC,Sum.inr->Hs,True->Ht,True.intro->EJ,Unit->CZ,absurd->A8,bne_self_eq_false->VO,congrArg->BR,decide_eq_false->Bo,decide_eq_true->Be,decide_eq_true_eq->G6,if_false->Dj,if_neg->Ao,if_pos->At,if_true->Fh,map_eq_pure_bind->VW,not_or->JA,of_decide_eq_false->Pj,of_decide_eq_true->DD,or_false->MB
namespace Head
open PySem PySem.W PyProof.Rows
def Gn (p:AN) (w:AA) (n0:Ae) (ann:Ay Ah):Ae->G5->Thread->Ay G5
 | 0,_,_=>Ag
 | n+1,s,t=>match through t with
   | true=>Aa s
   | false=>match stepOk n0 ann t with
     | false=>Ag
     | true=>match stepT (denote treeTable) p w s t with
       | some (s',t')=>Gn p w n0 ann n s' t'
       | none=>Ag
theorem RZ {p:AN} {w:AA} {n0:Ae} {ann:Ay Ah}:∀{n:Ae} {s s':G5} {t:Thread},Gn p w n0 ann n s t=Aa s'->topRun treeTable p w n0 ann n s.abs t=Aa s'.abs
 | 0,_,_,_,h=>by cases h
 | n+1,s,s',t,h=>by
   unfold Gn at h
   unfold topRun
   cases he:through t with
   | true=>rw [he] at h;cases h;rfl
   | false =>
     rw [he] at h
     cases hk:stepOk n0 ann t with
     | false=>rw [hk] at h;cases h
     | true =>
       rw [hk] at h
       cases hs:stepT (denote treeTable) p w s t with
       | none=>rw [hs] at h;cases h
       | some r=>obtain ⟨s2,t2⟩:=r;rw [hs] at h;rw [stepT_spec hs];exact RZ h
def Fq:Ab A4->Ae->BT->Ay BT
 | [],_,t=>Aa t
 | o :: os,n,t=>match ((t.ins n o).get n).isSome with
   | true=>Fq os (n+1) (t.ins n o)
   | false=>Ag
theorem Q2 {life:Life}:∀{os:Ab A4} {n:Ae} {t t':BT} {xs:Ab A4},(absHeap t n life)=⟨xs.toArray,life⟩->Fq os n t=Aa t'->absHeap t' (n+os.length) life=⟨(xs++os).toArray,life⟩
 | [],n,t,t',xs,a,h=>by
   cases h
   rw [FK]
   exact a
 | o :: os,n,t,t',xs,a,h=>by
   unfold Fq at h
   cases g:((t.ins n o).get n).isSome with
   | false=>rw [g] at h;cases h
   | true =>
     rw [g] at h
     have b:absHeap (t.ins n o) (n+1) life=⟨(xs++[o]).toArray,life⟩:=by
      rw [absHeap_ins g,a]
      show (⟨xs.toArray.push o,life⟩:AC)=_
      rw [List.push_toArray]
     have c:=Q2 b h
     rw [Kz] at c
     rw [BA,show n+(os.length+1)=n+1+os.length by omega]
     exact c
theorem Xo {H:AC} {T:BT} (h:Fq H.objs.toList 0 .nil=Aa T):absHeap T H.objs.size H.life=H:=by
 have c:=Q2 (life:=H.life) (n:=0) (t:=.nil) (xs:=[]) rfl h
 rw [Nat.zero_add,DA] at c
 rw [c]
 obtain ⟨a,l⟩:=H
 show (⟨([]++a.toList).toArray,l⟩:AC)=⟨a,l⟩
 rw [Va,Array.toArray_toList]
theorem left {p q:AN} {loose:Ab Ak} {Xt:Ai->AR} {α:Type} {Yf:Ai->α} {Ya:AA->α} {N:Ae} {g0:AR}
 (e:opening p=plainProg p.main.scope.names) (hN:Nat.ble 600 N=Af) (f:∀s,fenceModules? p s=Aa s)
 (h:∀(w:AA) (os:DT),((Fq (Ca w.params).objs.toList 0 .nil).bind fun T=>(Gn p w (Ca w.params).objs.size ((Ca w.params).nsMap AH "__annotations__") N ⟨T,(Ca w.params).objs.size,(Ca w.params).life,Jb [],Jy,Jz,os⟩ (topStub p)).map fun s =>
  (((Ca w.params).isNs AH,staticsOk (CT p.main.body) (Ca w.params) s.abs.heap && namesBound p s.abs.heap && gensDone s.abs && laidKept (Ca w.params) s.abs.heap),openSeen q loose (CT p.main.body) Xt g0 s.abs,Yf s.abs)) =
  Aa ((Af,Af),openGood q loose,Ya w)):LeftO p q loose Xt Yf Ya N g0:=fun w=>by
 obtain ⟨⟨hp,gs,d,k,os⟩,e1,e2⟩:=Option.map_eq_some_iff.mp (boot_open e hN f w)
 obtain ⟨rfl,rfl,rfl,rfl⟩:hp=Ca w.params/\gs=Jb []/\d=Jy/\k=Jz:=by simpa using e2
 have z:=h w os
 cases gT:Fq (Ca w.params).objs.toList 0 .nil with
 | none=>rw [gT] at z;cases z
 | some T =>
   rw [gT] at z
   obtain ⟨s,r,y⟩:=Option.map_eq_some_iff.mp z
   have r':=RZ r
   injection y with y1 y2
   injection y1 with y3 y4
   injection y2 with y5 y6
   have a:(⟨T,(Ca w.params).objs.size,(Ca w.params).life,Jb [],Jy,Jz,os⟩:G5).abs=⟨Ca w.params,Jb [],Jy,Jz,os⟩:=by
    unfold SharedT.abs
    rw [Xo gT]
   rw [a] at r'
   unfold openEnds
   rw [e1]
   show (topFrom treeTable p w N _).map _=_
   have t:topFrom treeTable p w N ⟨Ca w.params,Jb [],Jy,Jz,os⟩=Aa s.abs:=by
    unfold topFrom
    dsimp only
    rw [y3,r']
    show (match staticsOk (CT p.main.body) (Ca w.params) s.abs.heap && namesBound p s.abs.heap && gensDone s.abs && laidKept (Ca w.params) s.abs.heap with | true=>_ | false=>_)=_
    rw [y4]
   rw [t]
   exact BR Aa (Jo y5 y6)
end Head
namespace Head
open PySem PySem.W PyProof.Rows
noncomputable def R0 (p:AN) (w:AA) (N:Ae) (os:DT):Ay G5:=(Fq (Ca w.params).objs.toList 0 .nil).bind fun T=>Gn p w (Ca w.params).objs.size ((Ca w.params).nsMap AH "__annotations__") N ⟨T,(Ca w.params).objs.size,(Ca w.params).life,Jb [],Jy,Jz,os⟩ (topStub p)
theorem XS {p q:AN} {loose:Ab Ak} {Xt:Ai->AR} {α:Type} {Yf:Ai->α} {Ya:AA->α} {N:Ae} {g0:AR}
 (e:opening p=plainProg p.main.scope.names) (hN:Nat.ble 600 N=Af) (f:∀s,fenceModules? p s=Aa s)
 (h1:∀(w:AA) (os:DT),(R0 p w N os).map (fun s=>((Ca w.params).isNs AH,staticsOk (CT p.main.body) (Ca w.params) s.abs.heap && namesBound p s.abs.heap && gensDone s.abs && laidKept (Ca w.params) s.abs.heap))=Aa (Af,Af))
 (h2:∀(w:AA) (os:DT),(R0 p w N os).map (fun s=>((openSeen q loose (CT p.main.body) Xt g0 s.abs).1,(openSeen q loose (CT p.main.body) Xt g0 s.abs).2.1))=Aa ((openGood q loose).1,(openGood q loose).2.1))
 (h4:∀(w:AA) (os:DT),(R0 p w N os).map (fun s=>(openSeen q loose (CT p.main.body) Xt g0 s.abs).2.2.1)=Aa (openGood q loose).2.2.1)
 (h5:∀(w:AA) (os:DT),(R0 p w N os).map (fun s=>(openSeen q loose (CT p.main.body) Xt g0 s.abs).2.2.2)=Aa (openGood q loose).2.2.2)
 (h3:∀(w:AA) (os:DT),(R0 p w N os).map (fun s=>Yf s.abs)=Aa (Ya w)):LeftO p q loose Xt Yf Ya N g0:=left e hN f fun w os=>by
 have a:=h1 w os
 have b:=h2 w os
 have b2:=h4 w os
 have b3:=h5 w os
 have c:=h3 w os
 show ((Fq (Ca w.params).objs.toList 0 .nil).bind fun T=>(Gn _ _ _ _ _ _ _).map _)=_
 obtain ⟨s,r,y⟩:=Option.map_eq_some_iff.mp a
 rw [r] at b b2 b3 c
 unfold R0 at r
 cases gT:Fq (Ca w.params).objs.toList 0 .nil with
 | none=>rw [gT] at r;cases r
 | some T =>
   rw [gT] at r
   change Gn _ _ _ _ _ _ _=Aa s at r
   show (Gn _ _ _ _ _ _ _).map _=_
   rw [r]
   have b:((openSeen q loose (CT p.main.body) Xt g0 s.abs).1,(openSeen q loose (CT p.main.body) Xt g0 s.abs).2.1)=((openGood q loose).1,(openGood q loose).2.1):=Bp b
   have b2:(openSeen q loose (CT p.main.body) Xt g0 s.abs).2.2.1=(openGood q loose).2.2.1:=Bp b2
   have b3:(openSeen q loose (CT p.main.body) Xt g0 s.abs).2.2.2=(openGood q loose).2.2.2:=Bp b3
   have c:Yf s.abs=Ya w:=Bp c
   have b':openSeen q loose (CT p.main.body) Xt g0 s.abs=openGood q loose:=Jo (Ms b).1 (Jo (Ms b).2 (Jo b2 b3))
   show Aa (_,openSeen q loose (CT p.main.body) Xt g0 s.abs,Yf s.abs)=_
   rw [b',c]
   exact BR Aa (Jo y rfl)
def JV (s:G5) (a:Ad):Ay A4:=match s.tree.get a with
 | some o=>if a < s.n then alive o else Ag
 | none=>Ag
theorem Xj {s:G5} {a:Ad} {o:A4} (h:JV s a=Aa o):s.abs.heap.get? a=Aa o:=by
 unfold JV at h
 cases g:s.tree.get a with
 | none=>rw [g] at h;cases h
 | some o' =>
   rw [g] at h
   dsimp only at h
   by_cases c:a < s.n
   ·rw [At c] at h
    exact (abs_get c g).trans h
   ·rw [Ao c] at h
    cases h
theorem Ni {s:G5}:∀{as:Ab Ad} {l:Ab (Ay A4)},(∀x∈l,x.isSome=Af)->as.map (JV s)=l->as.map s.abs.heap.get?=l
 | [],[],_,_=>rfl
 | a :: as,x :: l,k,h=>by
   injection h with h1 h2
   obtain ⟨o,e⟩:=Option.isSome_iff_exists.mp (k x (Bw ..))
   rw [e] at h1 ⊢
   rw [BL,Xj h1,Ni (fun y m=>k y (Bv _ m)) h2]
 | [],_ :: _,_,h=>nomatch h
 | _ :: _,[],_,h=>nomatch h
theorem Y0 {p:AN} {N:Ae} {K:KC->Frag} {as ts:Ab Ad} {ea:∀P,as=(K P).map (·.1)} (h3:∀(w:AA) (os:DT),(R0 p w N os).map (fun s=>(as.map (JV s),ts.map (JV s)))=Aa ((K w.params).map (fun p=>Aa p.2),ts.map fun _=>Aa (tabObj #[]))) (w:AA) (os:DT):(R0 p w N os).map (fun s=>Hook.obs (kmHook K as ea ts) s.abs)=Aa (Hook.val (kmHook K as ea ts) w):=by
 obtain ⟨s,r,y⟩:=Option.map_eq_some_iff.mp (h3 w os)
 rw [r]
 obtain ⟨y1,y2⟩:=Ms y
 refine BR Aa (Jo (Ni (fun x m=>?_) y1) (Ni (fun x m=>?_) y2))
 ·obtain ⟨_,_,rfl⟩:=List.mem_map.mp m
  rfl
 ·obtain ⟨_,_,rfl⟩:=List.mem_map.mp m
  rfl
end Head
namespace Head
open PySem PySem.W PyProof.Rows
abbrev q0:AN:=view PySem.Challenge.pw_pollproof_k94_looks_side_by_side [92]
abbrev r0:OpenRow:=OpenLaw.row PySem.Challenge.rw_pollproof_k94_looks_side_by_side
abbrev lo0:Ab Ak:=[Az "_wall",Az "PollError",Az "NoNumber",Az "NoBallot",Az "NoSheet",Az "NoChange",Az "Torn",Az "NoBundle",Az "WrongNumber",Az "NoWay",Az "TooHard",Az "Ended",Az "is_whole",Az "divisor",Az "up",Az "MOST_BALLOTS",Az "is_number",Az "numbers_by_slip",Az "sheet_from",Az "sheet_of",Az "joined",Az "ballots_in",Az "number_of",Az "check_row",Az "changed",Az "apart",Az "order_of",Az "Look",Az "holds",Az "with_one",Az "members",Az "MOST_RANK",Az "is_rank",Az "are_ranks",Az "tier_at",Az "slip_of",Az "ranks_of",Az "BASE",Az "code_of",Az "line_of",Az "seal_of",Az "place_of",Az "mended",Az "MOST_HANDS",Az "MOST_SEATS",Az "are_hands",Az "are_seats",Az "are_lots",Az "Way",Az "Box",Az "fraction",Az "under",Az "MOST_STEP",Az "vote_of",Az "votes_of",Az "is_hurdle",Az "is_step",Az "Lists",Az "free_for",Az "turn_of",Az "rows_to",Az "shift",Az "pairs_by_seats",Az "Margin",Az "_law_cell",Az "_law_mixed",Az "_law_whole",Az "_law_slip",Az "_law_bundles",Az "_law_box",Az "_law_sheet",Az "_law_found",Az "_law_order",Az "_law_count",Az "_law_same",Az "_law_stands",Az "_law_walked"]
set_option maxRecDepth 100000 in
set_option maxHeartbeats 0 in
theorem YE (w:AA) (os:DT):(R0 r0.prog w 100000 os).map (fun s=>((Ca w.params).isNs AH,staticsOk (CT r0.prog.main.body) (Ca w.params) s.abs.heap && namesBound r0.prog s.abs.heap && gensDone s.abs && laidKept (Ca w.params) s.abs.heap))=Aa (Af,Af):=by kernel_rfl
set_option maxRecDepth 100000 in
set_option maxHeartbeats 0 in
theorem YF (w:AA) (os:DT):(R0 r0.prog w 100000 os).map (fun s=>((openSeen q0 lo0 (CT r0.prog.main.body) (fun s=>xlAt q0 [] s && recOk (KH (KA r0)) s) Af s.abs).1,(openSeen q0 lo0 (CT r0.prog.main.body) (fun s=>xlAt q0 [] s && recOk (KH (KA r0)) s) Af s.abs).2.1))=Aa ((openGood q0 lo0).1,(openGood q0 lo0).2.1):=by kernel_rfl
set_option maxRecDepth 100000 in
set_option maxHeartbeats 0 in
theorem YG (w:AA) (os:DT):(R0 r0.prog w 100000 os).map (fun s=>(openSeen q0 lo0 (CT r0.prog.main.body) (fun s=>xlAt q0 [] s && recOk (KH (KA r0)) s) Af s.abs).2.2.1)=Aa (openGood q0 lo0).2.2.1:=by kernel_rfl
set_option maxRecDepth 100000 in
set_option maxHeartbeats 0 in
theorem YH (w:AA) (os:DT):(R0 r0.prog w 100000 os).map (fun s=>(openSeen q0 lo0 (CT r0.prog.main.body) (fun s=>xlAt q0 [] s && recOk (KH (KA r0)) s) Af s.abs).2.2.2)=Aa (openGood q0 lo0).2.2.2:=by kernel_rfl
local macro_rules | `(tactic| o_head $H)=>do
 let (hl,hw,hc):=(Dg `hl,Dg `hw,Dg `hc)
 `(tactic| (
   refine holds_open (r:=r0) (q:=q0) (loose:=[Az "_wall",Az "PollError",Az "NoNumber",Az "NoBallot",Az "NoSheet",Az "NoChange",Az "Torn",Az "NoBundle",Az "WrongNumber",Az "NoWay",Az "TooHard",Az "Ended",Az "is_whole",Az "divisor",Az "up",Az "MOST_BALLOTS",Az "is_number",Az "numbers_by_slip",Az "sheet_from",Az "sheet_of",Az "joined",Az "ballots_in",Az "number_of",Az "check_row",Az "changed",Az "apart",Az "order_of",Az "Look",Az "holds",Az "with_one",Az "members",Az "MOST_RANK",Az "is_rank",Az "are_ranks",Az "tier_at",Az "slip_of",Az "ranks_of",Az "BASE",Az "code_of",Az "line_of",Az "seal_of",Az "place_of",Az "mended",Az "MOST_HANDS",Az "MOST_SEATS",Az "are_hands",Az "are_seats",Az "are_lots",Az "Way",Az "Box",Az "fraction",Az "under",Az "MOST_STEP",Az "vote_of",Az "votes_of",Az "is_hurdle",Az "is_step",Az "Lists",Az "free_for",Az "turn_of",Az "rows_to",Az "shift",Az "pairs_by_seats",Az "Margin",Az "_law_cell",Az "_law_mixed",Az "_law_whole",Az "_law_slip",Az "_law_bundles",Az "_law_box",Az "_law_sheet",Az "_law_found",Az "_law_order",Az "_law_count",Az "_law_same",Az "_law_stands",Az "_law_walked"]) (N:=100000)
    (Xt:=fun s=>xlAt q0 [] s && recOk (KH (KA r0)) s)
    (XP:=XL q0 []) (Yf:=Hook.obs $H) (Ya:=Hook.val $H) (YP:=Hook.says $H)
    ?$hl (Hook.of $H) (Hook.keeps $H) (fun s e=>xl_of s (Bool.and_eq_true_iff.mp e).1) XL.keeps
    (by rfl) (by rfl) (by rfl) (fun s e=>recFacts_of (Bool.and_eq_true_iff.mp e).2) (by rfl) (by assumption)
    (by decide +kernel) ⟨rfl,rfl,rfl,rfl,rfl,by decide +kernel⟩ ?$hw ?$hc;
   (next=>(exact XS (by kernel_rfl) (by decide) (fun s=>by kernel_rfl) YE YF YG YH (Y0 (fun w os=>by kernel_rfl))))))
set_option maxRecDepth 100000 in
set_option maxHeartbeats 0 in
open_top top for PySem.Challenge.rw_pollproof_k94_looks_side_by_side
end Head
local macro_rules | `(tactic| omega)=>`(tactic| first | lia | omega (config:={}))
namespace L2
open PySem PySem.Spec PyProof.Rows
abbrev Key:=Sum Ac Ak
def HM:Key->Ah->AR
 | .inl k,v=>Pc k v
 | .inr x,v=>Value.isStrOf x v
def XF (w:AA):Key->Ac
 | .inl k=>hashInt k
 | .inr x=>hashStr w x
theorem Fu:∀{k:Key} {v:Ah},HM k v=Af->(∃i t,k=BC i/\v=Di i t)\/(∃x t,k=Hs x/\v=Jx x t)
 | .inl i,v,h=>by
   obtain ⟨t,e⟩:=VL (k:=i) (v:=v) h
   exact .inl ⟨i,t,rfl,e⟩
 | .inr x,v,h=>by
   obtain ⟨t,e⟩:=Value.isStrOf_shape (x:=x) (v:=v) h
   exact .inr ⟨x,t,rfl,e⟩
theorem XG (i:Ac) (t:BX):HM (.inl i) (.int i t)=Af:=by simp [HM,Pc]
theorem XH (x:Ak) (t:BX):HM (.inr x) (.str x t)=Af:=by simp [HM,Value.isStrOf]
theorem XI (a b:Ac):decide ((BC a:Key)=BC b)=(a == b):=by
 by_cases e:a=b
 ·subst e;simp
 ·have h:¬ (BC a:Key)=BC b:=fun q=>e (Sum.inl.inj q)
  rw [Bo h]
  exact (beq_eq_false_iff_ne.mpr e).symm
theorem XN (a b:Ak):decide ((Hs a:Key)=Hs b)=decide (a=b):=by
 by_cases e:a=b
 ·subst e;simp
 ·have h:¬ (Hs a:Key)=Hs b:=fun q=>e (Sum.inr.inj q)
  rw [Bo h,Bo e]
theorem XJ (a:Ac) (b:Ak):decide ((BC a:Key)=Hs b)=As:=Bo (fun q=>nomatch q)
theorem XM (a:Ak) (b:Ac):decide ((Hs a:Key)=BC b)=As:=Bo (fun q=>nomatch q)
def Dz (prog:AN) (w:AA):PySem.KeyKind prog w Key where
 is:=HM
 hash:=XF w
 inj:=fun v a b ha hb=>by
  rcases Fu ha with ⟨i,t,rfl,rfl⟩ | ⟨x,t,rfl,rfl⟩
  ·rcases Fu hb with ⟨j,u,rfl,e⟩ | ⟨y,u,rfl,e⟩
   ·injection e with e1 _;rw [e1]
   ·exact nomatch e
  ·rcases Fu hb with ⟨j,u,rfl,e⟩ | ⟨y,u,rfl,e⟩
   ·exact nomatch e
   ·injection e with e1 _;rw [e1]
 byValue:=fun k v h=>by
  rcases Fu h with ⟨i,t,rfl,rfl⟩ | ⟨x,t,rfl,rfl⟩ <;> rfl
 pyHash:=fun hv h=>by
  rcases Fu hv with ⟨i,t,rfl,rfl⟩ | ⟨x,t,rfl,rfl⟩
  ·exact wpAny_pyHash_int h
  ·exact wpAny_pyHash_str h
 eqBool:=fun hu hv h=>by
  rcases Fu hu with ⟨i,t,rfl,rfl⟩ | ⟨x,t,rfl,rfl⟩
  ·rcases Fu hv with ⟨j,u,rfl,rfl⟩ | ⟨y,u,rfl,rfl⟩
   ·rw [XI] at h;exact Wf h
   ·rw [XJ] at h;exact SeqAt.EqAt.int_str i t y u _ _ _ _ h
  ·rcases Fu hv with ⟨j,u,rfl,rfl⟩ | ⟨y,u,rfl,rfl⟩
   ·rw [XM] at h;exact SeqAt.EqAt.str_int x t j u _ _ _ _ h
   ·rw [XN] at h;exact wpAny_eqBool_str h
 «strs»:=fun k x t v h=>by
  rcases Fu h with ⟨i,u,rfl,e⟩ | ⟨y,u,rfl,e⟩
  ·exact nomatch e
  ·injection e with e1 _
   subst e1
   cases v <;> rfl
theorem Yj (prog:AN) (w:AA) (i:Ac) (t:BX):(Dz prog w).is (.inl i) (.int i t)=Af:=XG i t
theorem Yk (prog:AN) (w:AA) (x:Ak) (t:BX):(Dz prog w).is (.inr x) (.str x t)=Af:=XH x t
end L2
namespace L2
open PySem PySem.Spec PyProof.Rows
inductive V where
 | non | bl (b:AR) | int (i:Ac) | str (x:Ak) | byt (b:A7 UInt8) | flt (b:UInt64) | ref (a:Ad) | ty (n:CN)
 deriving Je
noncomputable def Ba:V->Ah->Prop
 | .non,u=>u=B6
 | .bl b,u=>u=EK b
 | .int i,u=>∃t,u=Di i t
 | .str x,u=>∃t,u=Jx x t
 | .byt b,u=>∃t,u=Value.bytes b t
 | .flt b,u=>∃t,u=Pb b t
 | .ref a,u=>u=A_ a
 | .ty n,u=>u=Ck n
abbrev AW:Ab V->Ab Ah->Prop:=Ed Ba
theorem AW.length {xs:Ab V} {us:Ab Ah} (r:AW xs us):xs.length=us.length:=OI r
theorem AW.get:∀{xs:Ab V} {us:Ab Ah} {i:Ae} {x:V},AW xs us->xs[i]?=Aa x->∃u,us[i]?=Aa u/\Ba x u
 | _,_,_,_,.nil,e=>by simp at e
 | _,_,0,_,.cons r _,e=>by simp at e;subst e;exact ⟨_,rfl,r⟩
 | _,_,i+1,x,.cons _ t,e=>by
   obtain ⟨u,h1,h2⟩:=AW.get (i:=i) (x:=x) t (by simpa using e)
   exact ⟨u,by simpa using h1,h2⟩
theorem AW.set {x:V} {u:Ah} (r:Ba x u):∀{xs:Ab V} {us:Ab Ah} (i:Ae),AW xs us->AW (xs.set i x) (us.set i u)
 | _,_,_,.nil=>.nil
 | _,_,0,.cons _ t=>.cons r t
 | _,_,i+1,.cons q t=>.cons q (AW.set r i t)
theorem AW.append:∀{xs ys:Ab V} {us ws:Ab Ah},AW xs us->AW ys ws->AW (xs++ys) (us++ws)
 | _,_,_,_,.nil,s=>s
 | _,_,_,_,.cons r t,s=>.cons r (AW.append t s)
theorem AW.take:∀{xs:Ab V} {us:Ab Ah} (n:Ae),AW xs us->AW (xs.take n) (us.take n)
 | _,_,0,_=>.nil
 | _,_,_+1,.nil=>.nil
 | _,_,n+1,.cons r t=>.cons r (AW.take n t)
theorem AW.drop:∀{xs:Ab V} {us:Ab Ah} (n:Ae),AW xs us->AW (xs.drop n) (us.drop n)
 | _,_,0,r=>r
 | _,_,_+1,.nil=>.nil
 | _,_,n+1,.cons _ t=>AW.drop n t
noncomputable def CG:Ay V->Ay Ah->Prop
 | some v,Aa u=>Ba v u
 | none,Ag=>Ht
 | _,_=>B5
noncomputable def KV {κ:Type}:Ab (κ × V)->Ab (κ × Ah)->Prop:=Ed fun (p:κ × V) (q:κ × Ah)=>p.1=q.1/\Ba p.2 q.2
def kV:Key->V
 | .inl i=>.int i
 | .inr x=>.str x
inductive HO where
 | lst (xs:Ab V)
 | tup (xs:Ab V)
 | dK (kvs:Ab (Key × V)) | dT (kvs:Ab (Ab Key × V))
 | set (S:Ac->AR) (n:Ae)
 | ins (C dx:Ad) (fs:Ab (Ak × V))
 | own (x:Ad)
 | xd (fs:Ab (Ak × V))
 | met (f x:Ad)
 | rng (lo hi:Ac)
 | frz (o:A4) (u:HO)
 | tbl (ps:A7 Ah)
 | ext (φ:AC->Prop)
abbrev Hp:=Ad->Ay HO
noncomputable def upd (H:Hp) (a:Ad) (o:HO):Hp:=fun b=>if b=a then Aa o else H b
theorem Ap {H:Hp} {a:Ad} {o:HO}:upd H a o a=Aa o:=by unfold upd;rw [At rfl]
theorem AF {H:Hp} {a b:Ad} {o:HO} (h:b≠a):upd H a o b=H b:=by unfold upd;rw [Ao h]
theorem DM {H:Hp} {a:Ad} {o u:HO}:upd (upd H a o) a u=upd H a u:=by
 funext b;unfold upd;split <;> rfl
theorem Bq {H:Hp} {a b:Ad} {o u:HO} (h:H a=Aa o) (h':H b=Aa u) (d:o≠u):a≠b:=by
 intro e;subst e;rw [h] at h';exact d (Bp h')
theorem DX {H:Hp} {a b:Ad} {o:HO} (h:H a=Aa o) (h':H b=Ag):a≠b:=by
 intro e;subst e;rw [h] at h';cases h'
section
variable (P:AN) (w:AA)
noncomputable def BD (H:Hp) (h:AC) (a:Ad):HO->Prop
 | .lst xs=>xs.length<=A5/\∃(its:Ab Ah) (n:Ae),AW xs its/\h.get? a=Aa { cls:=.type "list",data:=.seq its.toArray n }
 | .tup xs=>xs.length<=A5/\∃its:Ab Ah,AW xs its/\IsTup h a its.toArray
 | .dK kvs=>kvs.length<=A5/\(a == DU)=As/\∃vs,KV kvs vs/\h.DictOf (Dz P w) a vs
 | .dT kvs=>kvs.length<=A5/\(a == DU)=As/\∃xs:Ab (Ab Key × Ad × Ah),
  Ed (fun (p:Ab Key × V) (q:Ab Key × Ad × Ah)=>p.1=q.1/\H q.2.1=Aa (.tup (p.1.map kV))/\Ba p.2 q.2.2) kvs xs /\
  ∃o es ep,h.get? a=Aa o/\o.ExactDict/\o.data=.dict es ep/\es.toList=xs.map (entryOfKey (tupleKind (Dz P w)))/\(xs.map (·.1)).Nodup
 | .set S n=>h.SetOf (intKind P w) a S n
 | .ins C dx fs=>H dx=Aa (.own a)/\fs.length<=1000/\dx≠a/\h.get? a=Aa (G4 C dx) /\
  ∃mA,h.Ns1 dx mA/\(∀f,CG (fs.lookup f) (mA f))/\M1 mA (fs.map (·.1))
 | .own _=>∃o,h.get? a=Aa o
 | .xd fs=>∃mA,h.Ns1 a mA/\∀f,CG (fs.lookup f) (mA f)
 | .rng lo hi=>∃t u v,h.get? a=Aa { cls:=.type "range",data:=.fields #[.int lo t,.int hi u,.int 1 v] }
 | .frz o u=>h.get? a=Aa o/\BD H h a u
 | .tbl ps=>h.get? a=Aa { cls:=.none,data:=.fields ps }
 | .met f x=>h.get? a=Aa (OS (.ref f) (.ref x))
 | .ext φ=>φ h/\(∃o,h.get? a=Aa o)/\∀h1 h2:AC,φ h1->(∀o,h1.get? a=Aa o->h2.get? a=Aa o)->φ h2
noncomputable def HOk (H:Hp) (h:AC):Prop:=∀a o,H a=Aa o->BD P w H h a o
end
section
variable {P:AN} {w:AA} {H H':Hp} {h h':AC} {a:Ad} {o:HO}
theorem BD.lt (x:BD P w H h a o):a < h.objs.size:=by
 cases o with
 | lst xs=>obtain ⟨_,_,_,_,e⟩:=x;exact A' e
 | tup xs=>obtain ⟨_,_,_,p⟩:=x;exact p.lt
 | dK kvs=>obtain ⟨_,_,_,_,o,_,_,e,_⟩:=x;exact A' e
 | dT kvs=>obtain ⟨_,_,_,_,o,_,_,e,_⟩:=x;exact A' e
 | set S n=>obtain ⟨o,_,_,_,e,_⟩:=x;exact A' e
 | ins C dx fs=>obtain ⟨_,_,_,e,_⟩:=x;exact A' e
 | own y=>obtain ⟨_,e⟩:=x;exact A' e
 | xd fs=>obtain ⟨_,⟨_,_,_,e,_⟩,_⟩:=x;exact A' e
 | rng lo hi=>obtain ⟨_,_,_,e⟩:=x;exact A' e
 | frz ob u=>obtain ⟨e,_⟩:=x;exact A' e
 | tbl ps=>exact A' (show h.get? a=Aa _ from x)
 | met f y=>exact A' (show h.get? a=Aa _ from x)
 | ext φ=>obtain ⟨_,⟨_,e⟩,_⟩:=x;exact A' e
theorem Paired.mapP {α β:Type} {F G:α->β->Prop}:∀{l₁:Ab α} {l₂:Ab β},Ed F l₁ l₂->(∀a b,F a b->G a b)->Ed G l₁ l₂
 | _,_,.nil,_=>.nil
 | _,_,.cons r t,f=>.cons (f _ _ r) (Paired.mapP t f)
theorem BD.stay (x:BD P w H h a o) (k:∀b u,(b=a\/H b=Aa (.own a))->h.get? b=Aa u->h'.get? b=Aa u)
 (ho:∀b,H b=Aa (.own a)->H' b=Aa (.own a)) (ht:∀b xs,H b=Aa (.tup xs)->H' b=Aa (.tup xs)):BD P w H' h' a o:=by
 induction o with
 | lst xs=>obtain ⟨z,its,n,r,e⟩:=x;exact ⟨z,its,n,r,k _ _ (.inl rfl) e⟩
 | tup xs=>obtain ⟨z,its,r,ob,e,c⟩:=x;exact ⟨z,its,r,ob,k _ _ (.inl rfl) e,c⟩
 | dK kvs=>obtain ⟨z,y,vs,r,ob,es,ep,e,c⟩:=x;exact ⟨z,y,vs,r,ob,es,ep,k _ _ (.inl rfl) e,c⟩
 | dT kvs =>
   obtain ⟨z,y,xs,r,ob,es,ep,e,c⟩:=x
   exact ⟨z,y,xs,Paired.mapP r fun p q z=>⟨z.1,ht _ _ z.2.1,z.2.2⟩,ob,es,ep,k _ _ (.inl rfl) e,c⟩
 | set S n=>obtain ⟨ob,es,ep,t,e,c⟩:=x;exact ⟨ob,es,ep,t,k _ _ (.inl rfl) e,c⟩
 | ins C dx fs =>
   obtain ⟨d,z,ne,e,mA,⟨od,es,ep,e2,c⟩,r⟩:=x
   exact ⟨ho _ d,z,ne,k _ _ (.inl rfl) e,mA,⟨od,es,ep,k _ _ (.inr d) e2,c⟩,r⟩
 | own y=>obtain ⟨ob,e⟩:=x;exact ⟨ob,k _ _ (.inl rfl) e⟩
 | xd fs=>obtain ⟨mA,⟨od,es,ep,e,c⟩,r⟩:=x;exact ⟨mA,⟨od,es,ep,k _ _ (.inl rfl) e,c⟩,r⟩
 | rng lo hi=>obtain ⟨t,u,v,e⟩:=x;exact ⟨t,u,v,k _ _ (.inl rfl) e⟩
 | frz ob u ih=>obtain ⟨e,q⟩:=x;exact ⟨k _ _ (.inl rfl) e,ih q⟩
 | tbl ps =>
   have e:h.get? a=Aa { cls:=.none,data:=.fields ps }:=x
   show h'.get? a=Aa { cls:=.none,data:=.fields ps }
   exact k a _ (.inl rfl) e
 | met f y =>
   have e:h.get? a=Aa (OS (.ref f) (.ref y)):=x
   show h'.get? a=Aa (OS (.ref f) (.ref y))
   exact k a _ (.inl rfl) e
 | ext φ=>obtain ⟨p,⟨o,e⟩,st⟩:=x;exact ⟨st _ _ p fun o q=>k _ _ (.inl rfl) q,⟨o,k _ _ (.inl rfl) e⟩,st⟩
theorem HOk.lt (x:HOk P w H h) (e:H a=Aa o):a < h.objs.size:=(x a o e).lt
theorem HOk.fresh (x:HOk P w H h) (e:h.objs.size<=a):H a=Ag:=by
 cases q:H a with
 | none=>rfl
 | some u=>exact A8 (Cg (x.lt q) e) (CQ _)
theorem HOk.kept (x:HOk P w H h) (k:∀b u,h.get? b=Aa u->h'.get? b=Aa u):HOk P w H h':=fun a o e =>
 (x a o e).stay (fun b u _ q=>k b u q) (fun _ q=>q) fun _ _ q=>q
theorem HOk.laid (x:HOk P w H h) (k:∀b u,h.get? b=Aa u->h'.get? b=Aa u) (hp:h.objs.size<=a) (new:BD P w (upd H a o) h' a o):HOk P w (upd H a o) h':=fun b u e=>by
 have hn:=x.fresh hp
 by_cases hb:b=a
 ·subst hb;rw [Ap] at e;cases e;exact new
 ·rw [AF hb] at e
  exact (x b u e).stay (fun c v _ q=>k c v q) (fun c q=>by rw [AF (DX q hn)];exact q) fun c xs q=>by rw [AF (DX q hn)];exact q
end
noncomputable def Rd (H:Hp) (a:Ad) (u:HO):Prop:=H a=Aa u\/∃o,H a=Aa (.frz o u)
theorem Rd.ok {P:AN} {w:AA} {H:Hp} {h:AC} {a:Ad} {u:HO} (r:Rd H a u) (x:HOk P w H h):BD P w H h a u:=by
 rcases r with r | ⟨o,r⟩
 ·exact x a u r
 ·obtain ⟨_,q⟩:=x a _ r
  exact q
noncomputable def Mut:Ay HO->Prop
 | some (.lst _)=>Ht
 | some (.dK _)=>Ht
 | some (.dT _)=>Ht
 | some (.set _ _)=>Ht
 | some (.ins _ _ _)=>Ht
 | some (.ext _)=>Ht
 | _=>B5
section
variable {P:AN} {w:AA} {H:Hp} {h h':AC} {x e:Ad} {o':HO}
theorem HOk.write (ok:HOk P w H h) (mu:Mut (H x)) (he:e=x\/H e=Aa (.own x)) (k:∀b u,b≠e->h.get? b=Aa u->h'.get? b=Aa u) (heo:∃u,h'.get? e=Aa u)
 (new:BD P w (upd H x o') h' x o'):HOk P w (upd H x o') h':=fun b u q=>by
 have nown:∀c y,H c=Aa (.own y)->c≠x:=fun c y r z=>by subst z;rw [r] at mu;exact mu
 have ntup:∀c xs,H c=Aa (.tup xs)->c≠x:=fun c xs r z=>by subst z;rw [r] at mu;exact mu
 by_cases hb:b=x
 ·subst hb;rw [Ap] at q;cases q;exact new
 ·rw [AF hb] at q
  by_cases hbe:b=e
  ·have q':H b=Aa (.own x):=by
    rcases he with z | z
    ·exact A8 (hbe.trans z) hb
    ·rw [hbe];exact z
   rw [q] at q';cases q'
   obtain ⟨v,hv⟩:=heo
   exact ⟨v,by rw [hbe];exact hv⟩
  ·refine (ok b u q).stay (fun c v hc r=>k c v ?_ r) (fun c r=>by rw [AF (nown c b r)];exact r) fun c xs r=>by rw [AF (ntup c xs r)];exact r
   rcases hc with rfl | hc
   ·exact hbe
   ·rintro rfl
    rcases he with z | z
    ·exact nown c b hc z
    ·rw [hc] at z;cases z;exact hb rfl
end
structure Un (fs ex:Ab Ad) (H H':Hp) (h h':AC):Prop where
 keep:∀b o,h.get? b=Aa o->H b=Ag->b ∉ fs->b ∉ ex->h'.get? b=Aa o
 slot:∀b o,h.get? b=Aa o->H b=Ag->b∈fs->b ∉ ex->∃sl,h'.get? b=Aa { o with slots:=sl }
 free:∀b o,h.get? b=Aa o->H b=Ag->b ∉ ex->H' b=Ag
 there:∀b o,h.get? b=Aa o->b ∉ ex->∃o',h'.get? b=Aa o'
 tups:∀b xs,H b=Aa (.tup xs)->H' b=Aa (.tup xs)
 frzs:∀b o u,H b=Aa (.frz o u)->H' b=Aa (.frz o u)
 tbls:∀b ps,H b=Aa (.tbl ps)->∃more,H' b=Aa (.tbl (ps++more))
section
variable {fs fs' ex ex':Ab Ad} {H H1 H2:Hp} {h h1 h2 h':AC} {a x e:Ad} {o:HO}
theorem Un.any (u:Un fs ex H H1 h h1) {b:Ad} {ob:A4} (q:h.get? b=Aa ob) (n:H b=Ag) (hx:b ∉ ex):∃sl,h1.get? b=Aa { ob with slots:=sl }:=by
 by_cases hb:b∈fs
 ·exact u.slot b ob q n hb hx
 ·exact ⟨ob.slots,u.keep b ob q n hb hx⟩
theorem Un.kept (k:∀b u,h.get? b=Aa u->h'.get? b=Aa u):Un fs ex H H h h' :=
 ⟨fun b ob q _ _ _=>k b ob q,fun b ob q _ _ _=>⟨ob.slots,k b ob q⟩,fun _ _ _ n _=>n,fun b ob q _=>⟨ob,k b ob q⟩,fun _ _ q=>q,fun _ _ _ q=>q,fun _ ps q=>⟨#[],by rw [q];simp⟩⟩
theorem Un.refl:Un fs ex H H h h:=Un.kept fun _ _ q=>q
theorem Un.laid (k:∀b u,h.get? b=Aa u->h'.get? b=Aa u) (hp:h.objs.size<=a) (hn:H a=Ag):Un fs ex H (upd H a o) h h' where
 keep:=fun b u q _ _ _=>k b u q
 slot:=fun b u q _ _ _=>⟨u.slots,k b u q⟩
 free:=fun b u q n _=>by rw [AF (Bx (Cg (A' q) hp))];exact n
 there:=fun b u q _=>⟨u,k b u q⟩
 tups:=fun b xs q=>by rw [AF (DX q hn)];exact q
 frzs:=fun b u xs q=>by rw [AF (DX q hn)];exact q
 tbls:=fun b ps q=>⟨#[],by rw [AF (DX q hn),q];simp⟩
theorem Un.write (mu:Mut (H x)) (he:e=x\/H e=Aa (.own x)) (k:∀b u,b≠e->h.get? b=Aa u->h'.get? b=Aa u) (heo:∃u,h'.get? e=Aa u):Un fs ex H (upd H x o) h h':=by
 have hx:∀b,H b=Ag->b≠x:=fun b n z=>by subst z;rw [n] at mu;exact mu
 have hb:∀b,H b=Ag->b≠e:=fun b n z=>by
  subst z
  rcases he with r | r
  ·exact hx b n r
  ·rw [n] at r;cases r
 have hm:∀b u,H b=Aa u->¬ Mut (Aa u)->b≠x:=fun b u q nm z=>by subst z;rw [q] at mu;exact nm mu
 refine ⟨fun b u q n _ _=>k b u (hb b n) q,fun b u q n _ _=>⟨u.slots,k b u (hb b n) q⟩,fun b u q n _=>by rw [AF (hx b n)];exact n,fun b u q _=>?_,
  fun b xs q=>by rw [AF (hm b _ q fun z=>z)];exact q,fun b u xs q=>by rw [AF (hm b _ q fun z=>z)];exact q,fun b ps q=>⟨#[],by rw [AF (hm b _ q fun z=>z),q];simp⟩⟩
 by_cases hbe:b=e
 ·subst hbe;exact heo
 ·exact ⟨u,k b u hbe q⟩
end
noncomputable def trk (h:AC) (H:Hp):Ab Ad:=(Bz h.objs.size).filter fun a=>(H a).isSome
noncomputable def Fs (h:AC) (H:Hp):AC:=PySem.W.hideAll h (trk h H)
theorem Xv (h:AC) (H:Hp):(Fs h H).objs.size=h.objs.size:=PySem.W.hideAll_size _ _
theorem Xu {h:AC} {H:Hp} {b:Ad} {o:A4} (e:h.get? b=Aa o) (n:H b=Ag):(Fs h H).get? b=Aa o :=
 PySem.W.hideAll_get _ e fun hm=>by
  have q:(H b).isSome=Af:=(List.mem_filter.mp hm).2
  rw [n] at q;simp at q
theorem Y1 {h:AC} {H:Hp} {b:Ad} {o:A4} (e:(Fs h H).get? b=Aa o):h.get? b=Aa o/\H b=Ag:=by
 have e':h.get? b=Aa o:=PySem.W.of_hideAll (trk h H) e
 refine ⟨e',?_⟩
 cases q:H b with
 | none=>rfl
 | some x =>
   have hm:b∈trk h H:=List.mem_filter.mpr ⟨List.mem_range.mpr (A' e'),by simp [q]⟩
   have z:(Fs h H).get? b=Ag:=PySem.W.hideAll_none (trk h H) hm
   rw [z] at e;cases e
end L2
namespace L2
open PySem PySem.Spec PyProof.Rows
structure Mod (K:A6) (mg:Ak->Ay Ah) (base:AC):Prop where
 kin:K.In base
 glob:base.Ns AH mg
 blt:∃mb,base.Ns builtinsNs mb/\∀x:Ak,x≠"__name__"->mb x=bootBuiltins x
 nolimit:base.NoLimit
structure Cx where
 prog:AN
 w:AA
 K:A6
 mg:Ak->Ay Ah
 base:AC
 A:AV
 N:Ab Ak
 s₀:Ai
 H₀:Hp
 env:BK
 outer:Ab BK
 stack:Ab BK
 ex:Ab Ad
 fn:Ak->AR
 calm:AR
 pn:Ab (Ad × A4)
 xe:Ah->Ai->Prop
def frs (l:Ab BK):Ab Ad:=l.filterMap (·.frame)
abbrev Cx.fs (X:Cx):Ab Ad:=frs X.outer
noncomputable def Vis (sc:B1) (x:Ak):Prop:=sc.names.lookup x=Aa .local\/sc.names.lookup x=Aa .cell\/sc.names.lookup x=Aa .free
noncomputable def Loc (sc:B1) (x:Ak):Prop:=sc.names.lookup x=Aa .local\/sc.names.lookup x=Aa .cell
noncomputable def P5 (env:BK) (h:AC) (m:Ak->Ay Ah) (x:Ak) (u:Ah):Prop :=
 (env.kindOf x=Aa .local/\m x=Aa u)\/((env.kindOf x=Aa .cell\/env.kindOf x=Aa .free)/\∃c,env.cells.lookup x=Aa c/\h.IsCell c (Aa u))
structure Cx.Ok (X:Cx):Prop where
 mod:Mod X.K X.mg X.base
 kind:X.env.scope.kind=.function
 glob:X.env.globals=AH
 blt:X.env.builtins=builtinsNs
 above:X.s₀.heap.objs.size<=X.env.locals
 inj:∀x y c,X.env.cells.lookup x=Aa c->X.env.cells.lookup y=Aa c->x=y
 has:∀x,(X.env.kindOf x=Aa .cell\/X.env.kindOf x=Aa .free)->∃c,X.env.cells.lookup x=Aa c
 cab:∀x c,X.fn x=Af->X.env.cells.lookup x=Aa c->X.s₀.heap.objs.size<=c
 hd:X.calm=Af->X.A.handled=Ag
 frames:X.A.frames=Aa X.stack
 stk:X.stack=X.outer\/(X.stack=X.env :: X.outer/\X.env.frame=Aa X.env.locals)
 exf:∀b∈X.ex,b≠X.env.locals/\∀x c,X.env.cells.lookup x=Aa c->c≠b
 bs:∀b o,X.base.get? b=Aa o->X.s₀.heap.get? b=Aa o/\X.H₀ b=Ag
 bsz:X.base.objs.size<=X.s₀.heap.objs.size
 noex:∀b o,X.base.get? b=Aa o->b ∉ X.ex
 exfs:∀b∈X.ex,b ∉ X.fs
 funs:X.s₀.heap.FunFrames X.base X.outer
 frf:∀b∈X.fs,X.H₀ b=Ag
structure Inv (X:Cx) (pins:Ab (Ad × A4)) (σ:Ab (Ay V)) (H:Hp) (s:Ai):Prop where
 ok:X.Ok
 os:s.os=X.s₀.os
 bare:FG s.gens
 base:Un X.fs X.ex X.H₀ H X.s₀.heap s.heap
 loc:∃m,s.heap.Ns X.env.locals m/\∀(i:Ae) (x:Ak) (v:V),X.N[i]?=Aa x->σ[i]?=Aa (Aa v)->Vis X.env.scope x->∃u,Ba v u/\P5 X.env s.heap m x u
 cell:∀x c,X.env.cells.lookup x=Aa c->∃v,s.heap.IsCell c v
 free:H X.env.locals=Ag
 freeC:∀x c,X.env.cells.lookup x=Aa c->H c=Ag
 pin:∀p∈X.pn++pins,s.heap.get? p.1=Aa p.2/\H p.1=Ag/\p.1≠X.env.locals/\p.1 ∉ X.fs/\∀v,p.2.data≠.cell v
 hok:HOk X.prog X.w H s.heap
 len:σ.length=X.N.length
section
variable {X:Cx} {pins:Ab (Ad × A4)} {σ:Ab (Ay V)} {H H':Hp} {s:Ai} {h':AC}
theorem Cx.Ok.nofr (ok:X.Ok) {b:Ad} {o:A4} (e:X.base.get? b=Aa o):b ∉ X.fs:=fun hb=>by
 have:=(ok.funs.mem hb).1
 rw [e] at this;cases this
theorem Inv.bs (I:Inv X pins σ H s):∀b o,X.base.get? b=Aa o->s.heap.get? b=Aa o/\H b=Ag:=fun b o e =>
 ⟨I.base.keep b o (I.ok.bs b o e).1 (I.ok.bs b o e).2 (I.ok.nofr e) (I.ok.noex b o e),I.base.free b o (I.ok.bs b o e).1 (I.ok.bs b o e).2 (I.ok.noex b o e)⟩
theorem Inv.bk (I:Inv X pins σ H s):∀b o,X.base.get? b=Aa o->s.heap.get? b=Aa o:=fun b o e=>(I.bs b o e).1
theorem Inv.mod (I:Inv X pins σ H s):Mod X.K X.mg X.base:=I.ok.mod
theorem Inv.kIn (I:Inv X pins σ H s):X.K.In s.heap:=I.ok.mod.kin.keeps I.bk
theorem Inv.lt (I:Inv X pins σ H s):X.env.locals < s.heap.objs.size:=let ⟨_,hn,_⟩:=I.loc;hn.lt
theorem Inv.sz (I:Inv X pins σ H s):X.s₀.heap.objs.size<=s.heap.objs.size:=CK I.ok.above (EG I.lt)
theorem Inv.nofs (I:Inv X pins σ H s) {a:Ad} (h:s.heap.objs.size<=a):a ∉ X.fs:=fun hb=>by
 obtain ⟨_,o,ho,_⟩:=I.ok.funs.mem hb
 exact A8 (Cg (A' ho) (CK I.sz h)) (CQ _)
theorem Inv.cne (I:Inv X pins σ H s):∀x c,X.env.cells.lookup x=Aa c->c≠X.env.locals:=fun x c e z=>by
 obtain ⟨v,o,ho,hd⟩:=I.cell x c e
 obtain ⟨m,⟨o',es,ep,ho',hd',_⟩,_⟩:=I.loc
 rw [z,ho'] at ho;cases ho;rw [hd'] at hd;cases hd
theorem Inv.funs (I:Inv X pins σ H s):s.heap.FunFrames X.base X.outer:=by
 have all:∀(l:Ab BK),(∀b∈frs l,b∈X.fs)->X.s₀.heap.FunFrames X.base l->s.heap.FunFrames X.base l:=by
  intro l
  induction l with
  | nil=>intro _ _;trivial
  | cons env r ih =>
    intro hs hl
    obtain ⟨hk,⟨L,o,hf,hn,ho,hd⟩,hr⟩:=hl
    have hL:L∈X.fs:=hs L (by unfold frs;rw [LY,hf];exact Bw)
    obtain ⟨sl,e⟩:=I.base.slot L o ho (I.ok.frf L hL) hL fun z=>I.ok.exfs L z hL
    exact ⟨hk,⟨L,_,hf,hn,e,hd⟩,ih (fun b hb=>hs b (by unfold frs;rw [LY,hf];exact Bv _ hb)) hr⟩
 exact all X.outer (fun _ hb=>hb) I.ok.funs
theorem Inv.stack (I:Inv X pins σ H s):s.heap.FunFrames X.base X.stack:=by
 rcases I.ok.stk with e | ⟨e,hf⟩
 ·rw [e];exact I.funs
 ·rw [e]
  obtain ⟨m,hn,_⟩:=I.loc
  refine .cons (by rw [I.ok.kind];decide) hf hn ?_ I.funs
  exact UC (CK I.ok.bsz I.ok.above)
theorem Inv.stkSub (I:Inv X pins σ H s):∀b∈frs X.stack,b∈X.env.locals :: X.fs:=fun b hb=>by
 rcases I.ok.stk with e | ⟨e,hf⟩
 ·rw [e] at hb;exact Bv _ hb
 ·rw [e] at hb
  unfold frs at hb
  rw [LY,hf] at hb
  exact hb
theorem Inv.stkFree (I:Inv X pins σ H s):∀b∈frs X.stack,H b=Ag:=fun b hb=>by
 rcases List.mem_cons.mp (I.stkSub b hb) with e | hb
 ·rw [e];exact I.free
 ·obtain ⟨_,o,ho,_⟩:=I.ok.funs.mem hb
  exact I.base.free b o ho (I.ok.frf b hb) fun z=>I.ok.exfs b z hb
theorem Inv.step {g':A7 Ks} {t':Ae} {d':Hb} {ch:Ab Ad} (I:Inv X pins σ H s)
 (hch:∀b∈ch,(b∈X.ex\/X.s₀.heap.objs.size<=b)/\b≠X.env.locals/\(∀x c,X.env.cells.lookup x=Aa c->c≠b)/\∀p∈X.pn++pins,p.1≠b)
 (keep:∀b o,b≠X.env.locals->b ∉ X.fs->b ∉ ch->s.heap.get? b=Aa o->H b=Ag->h'.get? b=Aa o)
 (slot:∀b o,b≠X.env.locals->b∈X.fs->b ∉ ch->s.heap.get? b=Aa o->H b=Ag->∃sl,h'.get? b=Aa { o with slots:=sl }) (free:∀b o,b ∉ ch->s.heap.get? b=Aa o->H b=Ag->H' b=Ag)
 (there:∀b o,b ∉ ch->s.heap.get? b=Aa o->∃o',h'.get? b=Aa o')
 (tups:∀b xs,H b=Aa (.tup xs)->H' b=Aa (.tup xs)) (frzs:∀b o u,H b=Aa (.frz o u)->H' b=Aa (.frz o u)) (tbls:∀b ps,H b=Aa (.tbl ps)->∃more,H' b=Aa (.tbl (ps++more)))
 (ns:∀m,s.heap.Ns X.env.locals m->h'.Ns X.env.locals m) (hok:HOk X.prog X.w H' h') (hg:FG g') :
 Inv X pins σ H' { s with heap:=h',gens:=g',drawn:=d',toks:=t' }:=by
 have neL:∀b o,X.s₀.heap.get? b=Aa o->b≠X.env.locals:=fun b o e=>Bx (Cg (A' e) I.ok.above)
 have neC:∀b o,X.s₀.heap.get? b=Aa o->b ∉ X.ex->b ∉ ch:=fun b o e hx hb=>by
  rcases (hch b hb).1 with z | z
  ·exact hx z
  ·exact A8 (Cg (A' e) z) (CQ _)
 have cellK:∀x c,X.env.cells.lookup x=Aa c->∀v,s.heap.IsCell c v->h'.IsCell c v:=fun x c e v ⟨o,ho,hd⟩=>by
  have nch:c ∉ ch:=fun z=>(hch c z).2.2.1 x c e rfl
  by_cases hc:c∈X.fs
  ·obtain ⟨sl,q⟩:=slot c o (I.cne x c e) hc nch ho (I.freeC x c e)
   exact ⟨_,q,hd⟩
  ·exact ⟨o,keep c o (I.cne x c e) hc nch ho (I.freeC x c e),hd⟩
 refine ⟨I.ok,I.os,hg,⟨fun b o e n hb hx=>?_,fun b o e n hb hx=>?_,fun b o e n hx=>?_,fun b o e hx=>?_,fun b xs e=>tups b xs (I.base.tups b xs e),fun b o xs e=>frzs b o xs (I.base.frzs b o xs e),fun b ps e=>?_⟩,?_,fun x c e=>?_,?_,fun x c e=>?_,fun p hp=>?_,hok,I.len⟩
 ·exact keep b o (neL b o e) hb (neC b o e hx) (I.base.keep b o e n hb hx) (I.base.free b o e n hx)
 ·obtain ⟨sl,e1⟩:=I.base.slot b o e n hb hx
  obtain ⟨sl',e2⟩:=slot b _ (neL b o e) hb (neC b o e hx) e1 (I.base.free b o e n hx)
  exact ⟨sl',e2⟩
 ·obtain ⟨o',e1⟩:=I.base.there b o e hx
  exact free b o' (neC b o e hx) e1 (I.base.free b o e n hx)
 ·obtain ⟨o',e1⟩:=I.base.there b o e hx
  exact there b o' (neC b o e hx) e1
 ·obtain ⟨m1,e1⟩:=I.base.tbls b ps e
  obtain ⟨m2,e2⟩:=tbls b _ e1
  exact ⟨m1++m2,by rw [e2,Array.append_assoc]⟩
 ·obtain ⟨m,hn,hl⟩:=I.loc
  refine ⟨m,ns m hn,fun i x v e1 e2 e3=>?_⟩
  obtain ⟨u,r,l⟩:=hl i x v e1 e2 e3
  refine ⟨u,r,?_⟩
  rcases l with l | ⟨k,c,e,z⟩
  ·exact .inl l
  ·exact .inr ⟨k,c,e,cellK x c e _ z⟩
 ·obtain ⟨v,z⟩:=I.cell x c e
  exact ⟨v,cellK x c e v z⟩
 ·obtain ⟨m,⟨o,_,_,ho,_⟩,_⟩:=I.loc
  exact free _ o (fun z=>(hch _ z).2.1 rfl) ho I.free
 ·obtain ⟨v,o,ho,hd⟩:=I.cell x c e
  exact free c o (fun z=>(hch c z).2.2.1 x c e rfl) ho (I.freeC x c e)
 ·obtain ⟨e,n,ne,nf,d⟩:=I.pin p hp
  have nch:p.1 ∉ ch:=fun z=>(hch p.1 z).2.2.2 p hp rfl
  exact ⟨keep p.1 p.2 ne nf nch e n,free p.1 p.2 nch e n,ne,nf,d⟩
theorem Inv.un {t':Ae} (I:Inv X pins σ H s) (u:Un X.fs [] H H' s.heap h') (hok:HOk X.prog X.w H' h'):Inv X pins σ H' { s with heap:=h',toks:=t' }:=by
 obtain ⟨m,⟨o,es,ep,ho,r⟩,_⟩:=id I.loc
 obtain ⟨sl,hL⟩:=u.any ho I.free (by simp)
 exact I.step (g':=s.gens) (d':=s.drawn) (ch:=[]) (fun _ z=>by cases z) (fun b o _ hb _ e n=>u.keep b o e n hb (by simp)) (fun b o _ hb _ e n=>u.slot b o e n hb (by simp)) (fun b o _ e n=>u.free b o e n (by simp)) (fun b o _ e=>u.there b o e (by simp)) u.tups u.frzs u.tbls (fun m' hm=>by
  obtain ⟨o',es',ep',ho',r'⟩:=hm
  rw [ho] at ho';cases ho'
  exact ⟨_,es',ep',hL,r'⟩) hok I.bare
theorem Inv.call {g':A7 Ks} {t':Ae} {d':Hb} {ch:Ab Ad} (I:Inv X pins σ H s) (u:Un (frs X.stack) ch H H' s.heap h') (hok:HOk X.prog X.w H' h') (hg:FG g')
 (hch:∀b∈ch,(b∈X.ex\/X.s₀.heap.objs.size<=b)/\b≠X.env.locals/\(∀x c,X.env.cells.lookup x=Aa c->c≠b)/\∀p∈X.pn++pins,p.1≠b) :
 Inv X pins σ H' { s with heap:=h',gens:=g',drawn:=d',toks:=t' }:=by
 obtain ⟨m,⟨o,es,ep,ho,r⟩,_⟩:=id I.loc
 obtain ⟨sl,hL⟩:=u.any ho I.free fun z=>(hch _ z).2.1 rfl
 exact I.step (ch:=ch) hch (fun b o hL hb hc e n=>u.keep b o e n (fun z=>(List.mem_cons.mp (I.stkSub b z)).elim hL hb) hc) (fun b o _ _ hc e n=>u.any e n hc) (fun b o hc e n=>u.free b o e n hc) (fun b o hc e=>u.there b o e hc) u.tups u.frzs u.tbls (fun m' hm=>by
  obtain ⟨o',es',ep',ho',r'⟩:=hm
  rw [ho] at ho';cases ho'
  exact ⟨_,es',ep',hL,r'⟩) hok hg
theorem Inv.turned {t':Ae} {it:Ad} (I:Inv X pins σ H s) (k:∀b o,b≠it->s.heap.get? b=Aa o->h'.get? b=Aa o) (hn:H it=Ag) (hL:it≠X.env.locals)
 (h1:it∈X.ex\/X.s₀.heap.objs.size<=it) (h2:∀x c,X.env.cells.lookup x=Aa c->c≠it) (h3:∀p∈X.pn++pins,p.1≠it):Inv X pins σ H { s with heap:=h',toks:=t' }:=by
 have nit:∀b u,H b=Aa u->b≠it:=fun b u e z=>by rw [z,hn] at e;cases e
 refine I.step (g':=s.gens) (d':=s.drawn) (ch:=[it]) (fun b hb=>?_) (fun b o _ _ hc e _=>k b o (fun z=>hc (by simp [z])) e) (fun b o _ _ hc e _=>⟨o.slots,k b o (fun z=>hc (by simp [z])) e⟩) (fun _ _ _ _ n=>n)
  (fun b o hc e=>⟨o,k b o (fun z=>hc (by simp [z])) e⟩) (fun _ _ e=>e) (fun _ _ _ e=>e) (fun b ps e=>⟨#[],by rw [e];simp⟩) (fun m hm=>?_) (fun b u e=>?_) I.bare
 ·have e:b=it:=by simpa using hb
  subst e
  exact ⟨h1,hL,h2,h3⟩
 ·obtain ⟨o,es,ep,ho,r⟩:=hm
  exact ⟨o,es,ep,k _ o (AM hL) ho,r⟩
 ·refine (I.hok b u e).stay (fun c v hc q=>k c v ?_ q) (fun _ q=>q) fun _ _ q=>q
  rcases hc with z | z
  ·rw [z];exact nit b u e
  ·exact nit c _ z
theorem Inv.tok (I:Inv X pins σ H s) (t:Ae):Inv X pins σ H { s with toks:=t }:=I.un (h':=s.heap) (t':=t) Un.refl I.hok
theorem Inv.kept {t':Ae} (I:Inv X pins σ H s) (k:∀b u,s.heap.get? b=Aa u->h'.get? b=Aa u):Inv X pins σ H { s with heap:=h',toks:=t' }:=I.un (Un.kept k) (I.hok.kept k)
theorem Inv.laid {a:Ad} {o:HO} {t':Ae} (I:Inv X pins σ H s) (k:∀b u,s.heap.get? b=Aa u->h'.get? b=Aa u) (hp:s.heap.objs.size<=a) (new:BD X.prog X.w (upd H a o) h' a o) :
 Inv X pins σ (upd H a o) { s with heap:=h',toks:=t' }:=I.un (Un.laid k hp (I.hok.fresh hp)) (I.hok.laid k hp new)
theorem Inv.write {x e:Ad} {o:HO} {t':Ae} (I:Inv X pins σ H s) (mu:Mut (H x)) (he:e=x\/H e=Aa (.own x)) (k:∀b u,b≠e->s.heap.get? b=Aa u->h'.get? b=Aa u) (heo:∃u,h'.get? e=Aa u)
 (new:BD X.prog X.w (upd H x o) h' x o):Inv X pins σ (upd H x o) { s with heap:=h',toks:=t' }:=I.un (Un.write mu he k heo) (I.hok.write mu he k heo new)
theorem Inv.pins_of {pins':Ab (Ad × A4)} (I:Inv X pins σ H s) (h:∀p∈pins',s.heap.get? p.1=Aa p.2/\H p.1=Ag/\p.1≠X.env.locals/\p.1 ∉ X.fs/\∀v,p.2.data≠.cell v):Inv X pins' σ H s :=
 ⟨I.ok,I.os,I.bare,I.base,I.loc,I.cell,I.free,I.freeC,fun p hp=>(List.mem_append.mp hp).elim (fun z=>I.pin p (Jl _ z)) (h p),I.hok,I.len⟩
theorem Nz {N:Ab Ak} (hN:N.Nodup) {i j:Ae} {x:Ak} (a:N[i]?=Aa x) (b:N[j]?=Aa x):i=j:=by
 obtain ⟨h1,e1⟩:=List.getElem?_eq_some_iff.mp a
 obtain ⟨h2,e2⟩:=List.getElem?_eq_some_iff.mp b
 exact (List.getElem_inj hN).mp (e1.trans e2.symm)
theorem T2 {M:DR} {A:AV} {E:Ah->Ai->Prop} {i:Ae} {x:Ak} {v:V} {u:Ah} {Q:CZ->Ai->Prop} (I:Inv X pins σ H s) (hN:X.N.Nodup) (hi:X.N[i]?=Aa x) (hx:Loc X.env.scope x) (r:Ba v u)
 (h:∀s',Inv X pins (σ.set i (Aa v)) H s'->(∃a,Ep a s.heap s'.heap/\(a=X.env.locals\/X.env.cells.lookup x=Aa a))->Q () s') (hf:X.fn x=Af\/X.env.scope.names.lookup x=Aa .local:=by first | exact .inl rfl | exact .inr rfl | assumption):Ar M A (storeName X.env x u) Q E s:=by
 obtain ⟨m,hn,hl⟩:=id I.loc
 have hcls:(X.env.scope.kind == .class || (X.env.scope.kind == .module && X.env.locals != X.env.globals))=As:=by rw [I.ok.kind];rfl
 have hiσ:i < σ.length:=by rw [I.len];exact (List.getElem?_eq_some_iff.mp hi).1
 have cne:=I.cne
 have tracked:∀{a:Ad} {h':AC},(∃o,s.heap.get? a=Aa o/\H a=Ag)->Ep a s.heap h'->HOk X.prog X.w H h':=fun {a h'} ha hs b ob e=>by
  obtain ⟨_,_,hfree⟩:=ha
  refine (I.hok b ob e).stay (fun c w' hc q=>(hs.2 c ?_).trans q) (fun _ q=>q) fun _ _ q=>q
  rintro rfl
  rcases hc with rfl | hc
  ·rw [hfree] at e;cases e
  ·rw [hfree] at hc;cases hc
 rcases hx with hk | hk
 ·refine wpAny_storeName_local hk hn (fun h' hn' hs=>?_) hcls
  obtain ⟨oL,_,_,hoL,_⟩:=id hn
  refine h _ ⟨I.ok,I.os,I.bare,⟨fun b o e n hb hx=>?_,fun b o e n hb hx=>?_,I.base.free,fun b o e hx=>?_,I.base.tups,I.base.frzs,I.base.tbls⟩,⟨_,hn',fun j y v' e1 e2 e3=>?_⟩,fun y c e=>?_,I.free,I.freeC,fun p hp=>?_,tracked ⟨oL,hoL,I.free⟩ hs,by simpa using I.len⟩ ⟨_,hs,.inl rfl⟩
  ·exact (hs.2 b (Bx (Cg (A' e) I.ok.above))).trans (I.base.keep b o e n hb hx)
  ·obtain ⟨sl,e1⟩:=I.base.slot b o e n hb hx
   exact ⟨sl,(hs.2 b (Bx (Cg (A' e) I.ok.above))).trans e1⟩
  ·obtain ⟨o',e1⟩:=I.base.there b o e hx
   exact ⟨o',(hs.2 b (Bx (Cg (A' e) I.ok.above))).trans e1⟩
  ·by_cases hj:j=i
   ·subst hj
    rw [hi] at e1;cases e1
    rw [FL hiσ] at e2
    cases e2
    exact ⟨u,r,.inl ⟨hk,by simp⟩⟩
   ·rw [Hg (AM hj)] at e2
    obtain ⟨u',r',q⟩:=hl j y v' e1 e2 e3
    refine ⟨u',r',?_⟩
    rcases q with ⟨k,e⟩ | ⟨k,c,e,z⟩
    ·refine .inl ⟨k,?_⟩
     have:y≠x:=fun e=>hj (Nz hN e1 (e ▸ hi))
     simp [this,e]
    ·exact .inr ⟨k,c,e,z.sameBut hs (cne y c e)⟩
  ·obtain ⟨w',z⟩:=I.cell y c e
   exact ⟨w',z.sameBut hs (cne y c e)⟩
  ·obtain ⟨e,n,ne,nf,d⟩:=I.pin p hp
   exact ⟨(hs.2 p.1 ne).trans e,n,ne,nf,d⟩
 ·have hfn:X.fn x=Af:=by
   rcases hf with z | z
   ·exact z
   ·rw [z] at hk;cases hk
  obtain ⟨c,hc⟩:=I.ok.has x (.inl hk)
  obtain ⟨w',z⟩:=I.cell x c hc
  refine wpAny_storeName_cell I.ok.kind hk hc z (fun h' hc' hs=>?_)
  obtain ⟨oc,hoc,hocd⟩:=id z
  refine h { s with heap:=h' } ⟨I.ok,I.os,I.bare,⟨fun b o e n hb hx=>?_,fun b o e n hb hx=>?_,I.base.free,fun b o e hx=>?_,I.base.tups,I.base.frzs,I.base.tbls⟩,⟨m,hn.sameBut hs (AM (cne x c hc)),fun j y v' e1 e2 e3=>?_⟩,fun y c' e=>?_,I.free,I.freeC,fun p hp=>?_,tracked ⟨oc,hoc,I.freeC x c hc⟩ hs,by simpa using I.len⟩ ⟨c,hs,.inr hc⟩
  ·exact (hs.2 b (Bx (Cg (A' e) (I.ok.cab x c hfn hc)))).trans (I.base.keep b o e n hb hx)
  ·obtain ⟨sl,e1⟩:=I.base.slot b o e n hb hx
   exact ⟨sl,(hs.2 b (Bx (Cg (A' e) (I.ok.cab x c hfn hc)))).trans e1⟩
  ·obtain ⟨o',e1⟩:=I.base.there b o e hx
   exact ⟨o',(hs.2 b (Bx (Cg (A' e) (I.ok.cab x c hfn hc)))).trans e1⟩
  ·by_cases hj:j=i
   ·subst hj
    rw [hi] at e1;cases e1
    rw [FL hiσ] at e2
    cases e2
    exact ⟨u,r,.inr ⟨.inl hk,c,hc,hc'⟩⟩
   ·rw [Hg (AM hj)] at e2
    obtain ⟨u',r',q⟩:=hl j y v' e1 e2 e3
    refine ⟨u',r',?_⟩
    rcases q with q | ⟨k,c',e,z'⟩
    ·exact .inl q
    ·refine .inr ⟨k,c',e,z'.sameBut hs ?_⟩
     rintro rfl
     exact hj (Nz hN e1 (I.ok.inj _ _ _ e hc ▸ hi))
  ·by_cases hcc:c'=c
   ·subst hcc;exact ⟨_,hc'⟩
   ·obtain ⟨w2,z2⟩:=I.cell y c' e
    exact ⟨w2,z2.sameBut hs hcc⟩
  ·obtain ⟨e,n,ne,nf,d⟩:=I.pin p hp
   refine ⟨(hs.2 p.1 ?_).trans e,n,ne,nf,d⟩
   intro q
   rw [q,hoc] at e
   have q':oc=p.2:=Bp e
   exact d w' (by rw [<- q'];exact hocd)
theorem NS {M:DR} {A:AV} {E:Ah->Ai->Prop} {i:Ae} {x:Ak} {v:V} {u:Ah} {Q:CZ->Ai->Prop} (I:Inv X pins σ H s) (hN:X.N.Nodup) (hi:X.N[i]?=Aa x) (hx:Loc X.env.scope x) (r:Ba v u)
 (h:∀s',Inv X pins (σ.set i (Aa v)) H s'->Q () s') (hf:X.fn x=Af\/X.env.scope.names.lookup x=Aa .local:=by first | exact .inl rfl | exact .inr rfl | assumption):Ar M A (storeName X.env x u) Q E s :=
 T2 I hN hi hx r (fun s' I' _=>h s' I') hf
theorem Inv.call' {s':Ai} {ch:Ab Ad} (I:Inv X pins σ H s) (ho:s'.os=s.os) (u:Un (frs X.stack) ch H H' s.heap s'.heap) (hok:HOk X.prog X.w H' s'.heap) (hg:FG s'.gens)
 (hch:∀b∈ch,(b∈X.ex\/X.s₀.heap.objs.size<=b)/\b≠X.env.locals/\(∀x c,X.env.cells.lookup x=Aa c->c≠b)/\∀p∈X.pn++pins,p.1≠b):Inv X pins σ H' s':=by
 obtain ⟨h',g',d',t',o'⟩:=s'
 have e:o'=s.os:=ho
 subst e
 exact I.call (g':=g') (t':=t') (d':=d') u hok hg hch
end
abbrev XK:=Ah->Ay Ad->Hp->Prop
abbrev St:=Ab (Ay V)
abbrev VK:=V->Hp->Prop
abbrev TE:=St->Hp->VK->Prop
abbrev TT:=St->Hp->(AR->Hp->Prop)->Prop
abbrev TA:=St->Hp->(Ab V->Hp->Prop)->Prop
structure CF where
 nx:St->Hp->Prop
 rt:VK
 bk:St->Hp->Prop:=fun _ _=>B5
 ct:St->Hp->Prop:=fun _ _=>B5
abbrev TS:=CF->St->Hp->Prop
noncomputable def EP (X:Cx) (pins:Ab (Ad × A4)) (σ:St) (Q:VK) (u:Ah) (s':Ai):Prop:=∃v H',Inv X pins σ H' s'/\Ba v u/\Q v H'
noncomputable def TP (X:Cx) (pins:Ab (Ad × A4)) (σ:St) (Q:AR->Hp->Prop) (b:AR) (s':Ai):Prop:=∃H',Inv X pins σ H' s'/\Q b H'
noncomputable def AP (X:Cx) (pins:Ab (Ad × A4)) (σ:St) (Q:Ab V->Hp->Prop) (us:Ab Ah) (s':Ai):Prop:=∃vs H',Inv X pins σ H' s'/\AW vs us/\Q vs H'
noncomputable def SP (X:Cx) (pins:Ab (Ad × A4)) (D:CF) (f:Flow) (s':Ai):Prop :=
 match f with
 | .next=>∃σ' H',Inv X pins σ' H' s'/\D.nx σ' H'
 | .brk=>∃σ' H',Inv X pins σ' H' s'/\D.bk σ' H'
 | .cont=>∃σ' H',Inv X pins σ' H' s'/\D.ct σ' H'
 | .ret u=>∃v σ' H',Inv X pins σ' H' s'/\Ba v u/\D.rt v H'
noncomputable def PE (X:Cx) (e:A3) (t:TE):Prop :=
 ∀(pins:Ab (Ad × A4)) (s:Ai) (σ:St) (H:Hp) (Q:VK),Inv X pins σ H s->t σ H Q->Ar (A1 X.prog X.w) X.A (eval e X.env) (EP X pins σ Q) X.xe s
noncomputable def PT (X:Cx) (e:A3) (t:TT):Prop :=
 ∀(pins:Ab (Ad × A4)) (s:Ai) (σ:St) (H:Hp) (Q:AR->Hp->Prop),Inv X pins σ H s->t σ H Q->Ar (A1 X.prog X.w) X.A (isTrue e X.env (eval e X.env)) (TP X pins σ Q) X.xe s
noncomputable def PW (X:Cx) (e:A3) (t:TT):Prop :=
 ∀(whole:C2 Ah) (pins:Ab (Ad × A4)) (s:Ai) (σ:St) (H:Hp) (Q:AR->Hp->Prop),Inv X pins σ H s->t σ H Q->Ar (A1 X.prog X.w) X.A (isTrue e X.env whole) (TP X pins σ Q) X.xe s
theorem PW.pt {X:Cx} {e:A3} {t:TT} (h:PW X e t):PT X e t:=h _
noncomputable def PA (X:Cx) (es:Ab A3) (t:TA):Prop :=
 ∀(pos:Pos) (pins:Ab (Ad × A4)) (s:Ai) (σ:St) (H:Hp) (Q:Ab V->Hp->Prop),Inv X pins σ H s->t σ H Q->Ar (A1 X.prog X.w) X.A (spliced (backTo pos (Bh es X.env))) (AP X pins σ Q) X.xe s
noncomputable def PS (X:Cx) (st:AD) (t:TS):Prop :=
 ∀(pins:Ab (Ad × A4)) (s:Ai) (σ:St) (H:Hp) (D:CF),Inv X pins σ H s->t D σ H->Ar (A1 X.prog X.w) X.A (exec st X.env) (SP X pins D) X.xe s
noncomputable def PSs (X:Cx) (st:Ab AD) (t:TS):Prop :=
 ∀(pins:Ab (Ad × A4)) (s:Ai) (σ:St) (H:Hp) (D:CF),Inv X pins σ H s->t D σ H->Ar (A1 X.prog X.w) X.A (execs st X.env) (SP X pins D) X.xe s
theorem thn {α:Type} {t:C2 α} {Q Q':α->Ai->Prop} {M:DR} {A:AV} {E:Ah->Ai->Prop} {s:Ai} (h:Ar M A t Q E s) (hQ:∀a s,Q a s->Q' a s):Ar M A t Q' E s:=DE h hQ fun _ _ x=>x
end L2
namespace L2
open PySem PySem.Spec PyProof.Rows
section
variable {X:Cx}
inductive Kk (i:Ae) (σ:St) (H:Hp) (Q:VK):Prop
 | mk (v:V):σ[i]?=Aa (Aa v)->Q v H->Kk i σ H Q
noncomputable def tC (v:V):TE:=fun _ H Q=>Q v H
theorem YS {i:Ae} {x:Ak} {pos:Pos} (hN:X.N[i]?=Aa x) (hv:Vis X.env.scope x) (hd:(x == ("__debug__":Ak))=As:=by decide) (hcd:(x == ("__classdict__":Ak))=As:=by decide):PE X (.Name x pos) (Kk i):=by
 intro pins s σ H Q I h
 obtain ⟨v,e,h⟩:=h
 obtain ⟨m,hn,hl⟩:=I.loc
 obtain ⟨u,r,l⟩:=hl i x v hN e hv
 have fin:EP X pins σ Q u s:=⟨v,H,I,r,h⟩
 rcases l with ⟨hk,hm⟩ | ⟨hk,c,hc,hcell⟩
 ·exact Pq (wpAny_loadName_local I.ok.kind hk hn hm fin) hd
 ·rcases hk with hk | hk
  ·exact Pq (wpAny_loadName_cell I.ok.kind hk hc hcell fin) hd
  ·exact Pq (wpAny_loadName_free I.ok.kind hk hc hcell fin hcd) hd
theorem Au {i j pos}:PE X (.Constant (.int i) j pos) (tC (.int i)):=fun _ _ _ H _ I h=>wpAny_Constant_int ⟨.int i,H,I.tok _,⟨_,rfl⟩,h⟩
theorem ET {b j pos}:PE X (.Constant (.bool b) j pos) (tC (.bl b)):=fun _ _ _ H _ I h=>Constant_bool ⟨.bl b,H,I,rfl,h⟩
theorem E8 {j pos}:PE X (.Constant .none j pos) (tC .non):=fun _ _ _ H _ I h=>Constant_none ⟨.non,H,I,rfl,h⟩
theorem Gj {x j pos}:PE X (.Constant (.str x) j pos) (tC (.str x)):=fun _ _ _ H _ I h=>Calls.Constant_str ⟨.str x,H,I.tok _,⟨_,rfl⟩,h⟩
noncomputable def Gl (X:Cx) (x:Ak):Prop:=X.env.kindOf x=Aa .globalImplicit
theorem JX {E:Ah->Ai->Prop} {pins:Ab (Ad × A4)} {s:Ai} {σ:St} {H:Hp} {x:Ak} {u:Ah} {pos:Pos} {Q:Ah->Ai->Prop} (I:Inv X pins σ H s) (hg:Gl X x) (hm:X.mg x=Aa u) (h:Q u s)
 (hd:(x == ("__debug__":Ak))=As:=by decide):Ar (A1 X.prog X.w) X.A (eval (.Name x pos) X.env) Q E s :=
 Ux I.ok.kind hg (Calls.loadGlobal_global (by rw [I.ok.glob];exact I.mod.glob.keeps I.bk) hm h) hd
theorem Dx {E:Ah->Ai->Prop} {pins:Ab (Ad × A4)} {s:Ai} {σ:St} {H:Hp} {x:Ak} {u:Ah} {pos:Pos} {Q:Ah->Ai->Prop} (I:Inv X pins σ H s) (hg:Gl X x) (hm:X.mg x=Ag) (hv:bootBuiltins x=Aa u) (h:Q u s)
 (hn:x≠"__name__":=by decide) (hd:(x == ("__debug__":Ak))=As:=by decide):Ar (A1 X.prog X.w) X.A (eval (.Name x pos) X.env) Q E s:=by
 obtain ⟨mb,h1,h2⟩:=I.mod.blt
 exact Ux I.ok.kind hg (Calls.loadGlobal_builtin (by rw [I.ok.glob];exact I.mod.glob.keeps I.bk) hm (by rw [I.ok.blt];exact h1.keeps I.bk) ((h2 x hn).trans hv) h) hd
theorem Gi {x:Ak} {v:V} {u:Ah} {pos:Pos} (hg:Gl X x) (hm:X.mg x=Aa u) (r:Ba v u) (hd:(x == ("__debug__":Ak))=As:=by decide):PE X (.Name x pos) (tC v) :=
 fun _ _ _ H _ I h=>JX I hg hm ⟨v,H,I,r,h⟩ hd
theorem Gg {x:Ak} {v:V} {u:Ah} {pos:Pos} (hg:Gl X x) (hm:X.mg x=Ag) (hv:bootBuiltins x=Aa u) (r:Ba v u) (hn:x≠"__name__":=by decide) (hd:(x == ("__debug__":Ak))=As:=by decide):PE X (.Name x pos) (tC v) :=
 fun _ _ _ H _ I h=>Dx I hg hm hv ⟨v,H,I,r,h⟩ hn hd
variable {a b:A3} {ta tb:TE} {pos:Pos}
inductive isB (x:V) (H:Hp) (Q:AR->Hp->Prop):Prop
 | mk (c:AR):x=.bl c->Q c H->isB x H Q
noncomputable def tB (t:TE):TT:=fun σ H Q=>t σ H fun x H1=>isB x H1 Q
theorem Cj {e:A3} {t:TE} (h:PE X e t) (he:∀whole,isTrue e X.env whole=(do let v <- whole;standAt e.pos;holding [v] (truthy v)):=by intro _;rfl):PT X e (tB t):=by
 intro pins s σ H Q I hw
 refine isTrue_plain (thn (h pins s σ H _ I hw) fun v s1 ⟨x,H1,I1,r1,q1⟩=>?_) (he _)
 obtain ⟨d,rfl,q⟩:=q1
 cases r1
 exact Hz ⟨H1,I1,q⟩
variable {tA tB':TT} {rest:Ab A3}
noncomputable def AaC (t u:TT):TT:=fun σ H Q=>t σ H fun c H1=>if c=Af then u σ H1 Q else Q As H1
noncomputable def tOr (t u:TT):TT:=fun σ H Q=>t σ H fun c H1=>if c=Af then Q Af H1 else u σ H1 Q
noncomputable def AaU (t:TT):TT:=fun σ H Q=>t σ H fun c H1=>Q (!c) H1
theorem RH (ha:PT X a tA):PW X (.BoolOp .And [a] pos) tA:=by
 intro wh pins s σ H Q I h
 refine isTrue_and (thn (ha pins s σ H Q I h) fun c s1 e=>?_)
 cases c with
 | true=>exact isTrue_and_nil e
 | false=>exact e
theorem DI (ha:PT X a tA):PW X (.BoolOp .Or [a] pos) tA:=by
 intro wh pins s σ H Q I h
 refine isTrue_or (thn (ha pins s σ H Q I h) fun c s1 e=>?_)
 cases c with
 | false=>exact isTrue_or_nil e
 | true=>exact e
theorem RG (ha:PT X a tA) (hb:PW X (.BoolOp .And (b :: rest) pos) tB'):PW X (.BoolOp .And (a :: b :: rest) pos) (AaC tA tB'):=by
 intro wh pins s σ H Q I h
 refine isTrue_and (thn (ha pins s σ H _ I h) fun c s1 hq_=>?_)
 obtain ⟨H1,I1,q1⟩:=hq_
 cases c with
 | true=>exact hb wh pins s1 σ H1 Q I1 q1
 | false=>exact ⟨H1,I1,q1⟩
theorem De (ha:PT X a tA) (hb:PW X (.BoolOp .Or (b :: rest) pos) tB'):PW X (.BoolOp .Or (a :: b :: rest) pos) (tOr tA tB'):=by
 intro wh pins s σ H Q I h
 refine isTrue_or (thn (ha pins s σ H _ I h) fun c s1 hq_=>?_)
 obtain ⟨H1,I1,q1⟩:=hq_
 cases c with
 | true=>exact ⟨H1,I1,q1⟩
 | false=>exact hb wh pins s1 σ H1 Q I1 q1
theorem Co (ha:PT X a tA):PT X (.UnaryOp .Not a pos) (AaU tA):=by
 intro pins s σ H Q I h
 exact isTrue_not (ha pins s σ H (fun c H1=>Q (!c) H1) I h)
noncomputable def AaD (ta tb:TE):TE:=fun σ H Q=>ta σ H fun x H1=>∃c,x=.bl c/\if c=Af then tb σ H1 Q else Q (.bl As) H1
noncomputable def AaV (ta:TE):TE:=fun σ H Q=>ta σ H fun x H1=>∃c,x=.bl c/\Q (.bl (!c)) H1
theorem EV {op} {t:TE} (h:PE X a t):PE X (.BoolOp op [a] pos) t:=fun pins s σ H Q I hw=>BoolOp_one (h pins s σ H Q I hw)
theorem ES (ha:PE X a ta) (hb:PE X (.BoolOp .And (b :: rest) pos) tb):PE X (.BoolOp .And (a :: b :: rest) pos) (AaD ta tb):=by
 intro pins s σ H Q I h
 refine BoolOp_and (thn (ha pins s σ H _ I h) fun v s1 hq_=>?_)
 obtain ⟨x,H1,I1,r1,q1⟩:=hq_
 obtain ⟨c,rfl,q1⟩:=q1
 cases r1
 refine Hz ?_
 cases c with
 | true=>exact hb pins s1 σ H1 Q I1 q1
 | false=>exact ⟨.bl As,H1,I1,rfl,q1⟩
theorem Rv (ha:PE X a ta):PE X (.UnaryOp .Not a pos) (AaV ta):=by
 intro pins s σ H Q I h
 refine UnaryOp_ (thn (ha pins s σ H _ I h) fun v s1 hq_=>?_)
 obtain ⟨x,H1,I1,r1,q1⟩:=hq_
 obtain ⟨c,rfl,q1⟩:=q1
 cases r1
 exact not_of (Hz ⟨.bl (!c),H1,I1,rfl,q1⟩)
noncomputable def tIf (t:TT) (ta tb:TE):TE:=fun σ H Q=>t σ H fun c H1=>if c=Af then ta σ H1 Q else tb σ H1 Q
theorem GN {c:A3} (hc:PT X c tA) (ha:PE X a ta) (hb:PE X b tb):PE X (.IfExp c a b pos) (tIf tA ta tb):=by
 intro pins s σ H Q I h
 refine wpAny_IfExp (thn (hc pins s σ H _ I h) fun d s1 hq_=>?_)
 obtain ⟨H1,I1,q1⟩:=hq_
 cases d with
 | true=>exact ha pins s1 σ H1 Q I1 q1
 | false=>exact hb pins s1 σ H1 Q I1 q1
end
end L2
namespace L2
open PySem PySem.Spec PyProof.Rows
noncomputable def SqL (K:A6) (H:Hp) (a:Ad) (xs:Ab V):Prop :=
 Rd H a (.lst xs) \/
  ∃(o:A4) (its:A7 Ah) (n:Ae),K.lookup a=Aa o/\o.cls=.type "list"/\o.dict=Ag/\o.data=.seq its n/\its.size<=A5/\AW xs its.toList
noncomputable def SqT (K:A6) (H:Hp) (a:Ad) (xs:Ab V):Prop :=
 Rd H a (.tup xs) \/
  ∃(o:A4) (its:A7 Ah) (n:Ae),K.lookup a=Aa o/\o.cls=.type "tuple"/\o.data=.seq its n/\its.size<=A5/\AW xs its.toList
noncomputable def Wv:Ah->Ay V
 | .none=>Aa .non
 | .bool b=>Aa (.bl b)
 | .int i _=>Aa (.int i)
 | .str x _=>Aa (.str x)
 | .bytes b _=>Aa (.byt b)
 | .float b _=>Aa (.flt b)
 | .ref a=>Aa (.ref a)
 | .type n=>Aa (.ty n)
 | _=>Ag
theorem Ba.abs {x:V} {u:Ah} (r:Ba x u):Wv u=Aa x:=by
 cases x with
 | non=>cases r;rfl
 | bl _=>cases r;rfl
 | int _=>obtain ⟨t,rfl⟩:=r;rfl
 | str _=>obtain ⟨t,rfl⟩:=r;rfl
 | byt _=>obtain ⟨t,rfl⟩:=r;rfl
 | flt _=>obtain ⟨t,rfl⟩:=r;rfl
 | ref _=>cases r;rfl
 | ty _=>cases r;rfl
theorem Ba.inj {x y:V} {u:Ah} (r:Ba x u) (q:Ba y u):x=y:=Bp (r.abs.symm.trans q.abs)
theorem AW.inj:∀{xs ys:Ab V} {us:Ab Ah},AW xs us->AW ys us->xs=ys
 | _,_,_,.nil,.nil=>rfl
 | _,_,_,.cons r t,.cons r' t'=>by rw [r.inj r',AW.inj t t']
section
variable {X:Cx} {pins:Ab (Ad × A4)} {σ:St} {H:Hp} {s:Ai} {a:Ad} {xs ys:Ab V}
theorem SqL.of {K:A6} (h:H a=Aa (.lst xs)):SqL K H a xs:=.inl (.inl h)
theorem SqT.of {K:A6} (h:H a=Aa (.tup xs)):SqT K H a xs:=.inl (.inl h)
theorem Inv.list (I:Inv X pins σ H s) (h:SqL X.K H a xs):∃its:Ab Ah,AW xs its/\PlainL s.heap a its.toArray/\xs.length<=A5:=by
 rcases h with h | ⟨o,its,n,hk,hc,hd,hs,hz,r⟩
 ·obtain ⟨z,its,n,r,e⟩:=h.ok I.hok
  exact ⟨its,r,⟨_,n,e,rfl,rfl,rfl⟩,z⟩
 ·refine ⟨its.toList,r,⟨o,n,I.kIn a o hk,hc,hd,by simpa using hs⟩,?_⟩
  have e:=r.length
  simp only [DA] at e
  omega
theorem Inv.tuple (I:Inv X pins σ H s) (h:SqT X.K H a xs):∃its:Ab Ah,AW xs its/\IsTup s.heap a its.toArray/\xs.length<=A5:=by
 rcases h with h | ⟨o,its,n,hk,hc,hs,hz,r⟩
 ·obtain ⟨z,its,r,p⟩:=h.ok I.hok
  exact ⟨its,r,p,z⟩
 ·refine ⟨its.toList,r,⟨o,I.kIn a o hk,hc,n,by simpa using hs⟩,?_⟩
  have e:=r.length
  simp only [DA] at e
  omega
theorem Inv.list_inj (I:Inv X pins σ H s) (h:SqL X.K H a xs) (h':SqL X.K H a ys):xs=ys:=by
 obtain ⟨its,r,⟨o,n,e,_,_,d⟩,_⟩:=I.list h
 obtain ⟨its',r',⟨o',n',e',_,_,d'⟩,_⟩:=I.list h'
 rw [e] at e';cases e'
 rw [d] at d'
 injection d' with d1 _
 have:its=its':=by simpa using BR Array.toList d1
 subst this
 exact r.inj r'
theorem Inv.tuple_inj (I:Inv X pins σ H s) (h:SqT X.K H a xs) (h':SqT X.K H a ys):xs=ys:=by
 obtain ⟨its,r,⟨o,e,_,n,d⟩,_⟩:=I.tuple h
 obtain ⟨its',r',⟨o',e',_,n',d'⟩,_⟩:=I.tuple h'
 rw [e] at e';cases e'
 rw [d] at d'
 injection d' with d1 _
 have:its=its':=by simpa using BR Array.toList d1
 subst this
 exact r.inj r'
end
abbrev Cx.wish (X:Cx) (E:Ah->Ai->Prop):Cx:={ X with xe:=E }
abbrev Cx.nox (X:Cx):Cx:=X.wish fun _ _=>B5
theorem Cx.Ok.wish {X:Cx} (ok:X.Ok) (E:Ah->Ai->Prop):(X.wish E).Ok :=
 ⟨ok.mod,ok.kind,ok.glob,ok.blt,ok.above,ok.inj,ok.has,ok.cab,ok.hd,ok.frames,ok.stk,ok.exf,ok.bs,ok.bsz,ok.noex,ok.exfs,ok.funs,ok.frf⟩
theorem Cx.Ok.unwish {X:Cx} {E:Ah->Ai->Prop} (ok:(X.wish E).Ok):X.Ok :=
 ⟨ok.mod,ok.kind,ok.glob,ok.blt,ok.above,ok.inj,ok.has,ok.cab,ok.hd,ok.frames,ok.stk,ok.exf,ok.bs,ok.bsz,ok.noex,ok.exfs,ok.funs,ok.frf⟩
section
variable {X:Cx} {pins:Ab (Ad × A4)} {σ:St} {H:Hp} {s:Ai} {E:Ah->Ai->Prop}
theorem Inv.wish (I:Inv X pins σ H s) (E:Ah->Ai->Prop):Inv (X.wish E) pins σ H s:=⟨I.ok.wish E,I.os,I.bare,I.base,I.loc,I.cell,I.free,I.freeC,I.pin,I.hok,I.len⟩
theorem Inv.unwish (I:Inv (X.wish E) pins σ H s):Inv X pins σ H s:=⟨I.ok.unwish,I.os,I.bare,I.base,I.loc,I.cell,I.free,I.freeC,I.pin,I.hok,I.len⟩
theorem SP.unwish {D:CF} {f:Flow} {s':Ai} (h:SP (X.wish E) pins D f s'):SP X pins D f s':=by
 cases f with
 | next=>obtain ⟨σ',H',I,q⟩:=h;exact ⟨σ',H',I.unwish,q⟩
 | brk=>obtain ⟨σ',H',I,q⟩:=h;exact ⟨σ',H',I.unwish,q⟩
 | cont=>obtain ⟨σ',H',I,q⟩:=h;exact ⟨σ',H',I.unwish,q⟩
 | ret u=>obtain ⟨v,σ',H',I,r,q⟩:=h;exact ⟨v,σ',H',I.unwish,r,q⟩
theorem PSs.nox {st:Ab AD} {t:TS} (h:PSs X.nox st t):PSs X st t:=fun pins s σ H D I hw =>
 DE (h pins s σ H D (I.wish _) hw) (fun _ _ q=>q.unwish) fun _ _ z=>DZ z
end
section
variable {X:Cx} {st:AD} {rest:Ab AD} {t u:TS} {e:A3} {te:TE} {pos:Pos}
noncomputable def AaS:TS:=fun D σ H=>D.nx σ H
noncomputable def TD (t u:TS):TS:=fun D σ H=>t { D with nx:=u D } σ H
theorem Bs:PSs X [] AaS:=fun _ _ σ H _ I h=>KM ⟨σ,H,I,h⟩
theorem Av (h1:PS X st t) (h2:PSs X rest u):PSs X (st :: rest) (TD t u):=by
 intro pins s σ H D I h
 refine Wg (thn (h1 pins s σ H { D with nx:=u D } I h) fun f s1 q=>?_)
 cases f with
 | next =>
   obtain ⟨σ',H',I',q⟩:=q
   exact h2 pins s1 σ' H' D I' q
 | ret v=>exact q
 | brk=>exact q
 | cont=>exact q
theorem Bl (h1:PS X st t):PSs X [st] t:=by
 intro pins s σ H D I h
 refine Wg (thn (h1 pins s σ H D I h) fun f s1 q=>?_)
 cases f with
 | next=>exact KM q
 | ret v=>exact q
 | brk=>exact q
 | cont=>exact q
theorem Inv.quiet {pins:Ab (Ad × A4)} {σ:St} {H:Hp} {s:Ai} (I:Inv X pins σ H s):interactive X.env=As:=by simp [interactive,I.ok.kind]
noncomputable def AaK (te:TE):TS:=fun D σ H=>te σ H fun _ H1=>D.nx σ H1
theorem D4 (he:PE X e te) (hs:swapsWith e Ag pos.line X.env=pure As:=by rfl):PS X (.Expr e pos) (AaK te):=by
 intro pins s σ H D I h
 exact wpAny_Expr_any (thn (he pins s σ H _ I h) fun v s1 ⟨x,H1,I1,r1,q1⟩=>⟨σ,H1,I1,q1⟩) I.quiet hs
noncomputable def AaX (te:TE):TS:=fun D σ H=>te σ H D.rt
theorem Zm (he:PE X e te):PS X (.Return (Aa e) pos) (AaX te):=by
 intro pins s σ H D I h
 refine wpAny_Return_some (thn (he pins s σ H _ I h) fun v s1 hq_=>?_)
 obtain ⟨x,H1,I1,r1,q1⟩:=hq_
 exact ⟨x,σ,H1,I1,r1,q1⟩
noncomputable def AaN (c:TT) (t u:TS):TS:=fun D σ H=>c σ H fun b H1=>if b=Af then t D σ H1 else u D σ H1
theorem Zl {c:A3} {a b:Ab AD} {tc:TT} (hc:PT X c tc) (ha:PSs X a t) (hb:PSs X b u):PS X (.If c a b pos) (AaN tc t u):=by
 intro pins s σ H D I h
 refine wpAny_If (thn (hc pins s σ H _ I h) fun d s1 hq_=>?_)
 obtain ⟨H1,I1,q1⟩:=hq_
 cases d with
 | true=>exact ha pins s1 σ H1 D I1 q1
 | false=>exact hb pins s1 σ H1 D I1 q1
noncomputable def AaR:TS:=fun _ _ _=>B5
theorem Dd:PS X st AaR:=fun _ _ _ _ _ _ h=>h.elim
end
abbrev TG:=V->St->Hp->(St->Hp->Prop)->Prop
abbrev TGs:=Ab V->St->Hp->(St->Hp->Prop)->Prop
noncomputable def PG (X:Cx) (target:A3) (t:TG):Prop :=
 ∀(pins:Ab (Ad × A4)) (s:Ai) (σ:St) (H:Hp) (v:V) (u:Ah) (Q:St->Hp->Prop),Inv X pins σ H s->Ba v u->t v σ H Q ->
  Ar (A1 X.prog X.w) X.A (assign target X.env u) (fun _ s'=>∃σ' H',Inv X pins σ' H' s'/\Q σ' H') X.xe s
noncomputable def PGs (X:Cx) (ts:Ab A3) (t:TGs):Prop :=
 ∀(pins:Ab (Ad × A4)) (s:Ai) (σ:St) (H:Hp) (vs:Ab V) (us:Ab Ah) (Q:St->Hp->Prop),Inv X pins σ H s->AW vs us->t vs σ H Q ->
  Ar (A1 X.prog X.w) X.A (assignInOrder ((assignEach ts X.env).map (·.2)) us) (fun _ s'=>∃σ' H',Inv X pins σ' H' s'/\Q σ' H') X.xe s
abbrev ML:=V->V->V->Hp->(Hp->Prop)->Prop
noncomputable def P7 (X:Cx) (t:ML):Prop :=
 ∀(pins:Ab (Ad × A4)) (s:Ai) (σ:St) (H:Hp) (o i v:V) (ov iv u:Ah) (Q:Hp->Prop),Inv X pins σ H s->Ba o ov->Ba i iv->Ba v u->t o i v H Q ->
  Ar (A1 X.prog X.w) X.A (setItem ov iv u) (fun _ s'=>∃H',Inv X pins σ H' s'/\Q H') X.xe s
section
variable {X:Cx} {pos:Pos}
noncomputable def CU (i:Ae):TG:=fun v σ H Q=>Q (σ.set i (Aa v)) H
theorem Ci {i:Ae} {x:Ak} (hN:X.N.Nodup) (hi:X.N[i]?=Aa x) (hx:Loc X.env.scope x) (hf:X.fn x=Af\/X.env.scope.names.lookup x=Aa .local:=by first | exact .inl rfl | exact .inr rfl | assumption):PG X (.Name x pos) (CU i):=by
 intro pins s σ H v u Q I r h
 exact Wd (NS I hN hi hx r (fun s' I'=>⟨_,H,I',h⟩) hf)
noncomputable def JT:TGs:=fun vs σ H Q=>vs=[]/\Q σ H
inductive EM (t:TG) (u:TGs) (vs:Ab V) (σ:St) (H:Hp) (Q:St->Hp->Prop):Prop
 | mk (v:V) (r:Ab V):vs=v :: r->(t v σ H fun σ' H'=>u r σ' H' Q)->EM t u vs σ H Q
theorem F0:PGs X [] JT:=by
 intro pins s σ H vs us Q I r h
 obtain ⟨e,h⟩:=h
 subst e
 cases r
 exact assignInOrder_nil ⟨σ,H,I,h⟩
theorem CV {e:A3} {es:Ab A3} {t:TG} {u:TGs} (h1:PG X e t) (h2:PGs X es u)
 (hs:(assignEach (e :: es) X.env).map (·.2)=assign e X.env :: (assignEach es X.env).map (·.2):=by rfl):PGs X (e :: es) (EM t u):=by
 intro pins s σ H vs us Q I r h
 obtain ⟨v,vr,e1,h⟩:=h
 subst e1
 cases r with
 | cons r rr =>
   rw [hs]
   refine assignInOrder_cons (thn (h1 pins s σ H _ _ _ I r h) fun _ s1 hq_=>?_)
   obtain ⟨σ1,H1,I1,q1⟩:=hq_
   exact h2 pins s1 σ1 H1 _ _ Q I1 rr q1
inductive HJ (K:A6) (n:Ae) (t:TGs) (v:V) (σ:St) (H:Hp) (Q:St->Hp->Prop):Prop
 | mk (a:Ad) (xs:Ab V):v=.ref a->SqT K H a xs->xs.length=n->t xs σ H Q->HJ K n t v σ H Q
theorem Fz {es:Ab A3} {k:Ae} {t:TGs} {n:Ae} (hc:X.calm=Af) (h:PGs X es t)
 (hn:(assignEach es X.env).length=n:=by rfl) (hst:(assignEach es X.env).findIdx? (·.1)=Ag:=by rfl):PG X (.Tuple es k pos) (HJ X.K n t):=by
 intro pins s σ H v u Q I r hw
 obtain ⟨a,xs,e1,hq,hl,hw⟩:=hw
 subst e1
 cases r
 obtain ⟨its,rv,ht,hz⟩:=I.tuple hq
 refine assign_Tuple_tuple (I.ok.hd hc) ht (by simp [hn,<- hl,rv.length]) hst fun h' hx=>?_
 have I1:Inv X pins σ H { s with heap:=h' }:=I.kept (t':=s.toks) fun b o e=>hx b o (Bx (A' e)) e
 exact h pins _ σ H xs _ Q I1 (by simpa using rv) hw
noncomputable def Xc (to ti:TE) (t:ML):TG:=fun v σ H Q=>to σ H fun o H1=>ti σ H1 fun i H2=>t o i v H2 fun H3=>Q σ H3
theorem Fy {o i:A3} {to ti:TE} {t:ML} (ho:PE X o to) (hi:PE X i ti) (hs:P7 X t)
 (ha:∀v,assign (.Subscript o i pos) X.env v=(do
  let ov <- holding [v] (eval o X.env)
  let iv <- holding [v,ov] (eval i X.env)
  standAt pos
  holding [v,ov,iv] (setItem ov iv v)
  release [v,ov,iv] []):=by intro _;rfl):PG X (.Subscript o i pos) (Xc to ti t):=by
 intro pins s σ H v u Q I r h
 rw [ha]
 refine Al (Du (thn (ho pins s σ H _ I h) fun ov s1 hq_=>?_))
 obtain ⟨x,H1,I1,r1,q1⟩:=hq_
 refine Al (Du (thn (hi pins s1 σ H1 _ I1 q1) fun iv s2 hq_=>?_))
 obtain ⟨y,H2,I2,r2,q2⟩:=hq_
 refine Al (MG (Al (Du (thn (hs pins s2 σ H2 x y v ov iv u _ I2 r1 r2 r q2) fun _ s3 hq_=>?_))))
 obtain ⟨H3,I3,q3⟩:=hq_
 exact wpAny_release ⟨σ,H3,I3,q3⟩
noncomputable def IY (te:TE) (g:TG):TS:=fun D σ H=>te σ H fun x H1=>g x σ H1 D.nx
theorem EX {tg e:A3} {te:TE} {g:TG} (he:PE X e te) (hg:PG X tg g) (hs:swapsWithSole [tg] e pos.line X.env=pure As:=by rfl) (hw:swappedStores [tg] e X.env=pure Ag:=by rfl)
 (h1:(assignEach [tg] X.env).map (·.2)=[assign tg X.env]:=by rfl):PS X (.Assign [tg] e pos) (IY te g):=by
 intro pins s σ H D I h
 refine wpAny_Assign_stores (thn (he pins s σ H _ I h) fun v s1 ⟨x,H1,I1,r1,q1⟩=>?_) hs hw
 rw [h1]
 exact thn (hg pins s1 σ H1 x v _ I1 r1 q1) fun _ s2 q=>q
theorem RC {i:Ae} {x:Ak} {e:A3} {te:TE} {pos':Pos} (hN:X.N.Nodup) (hi:X.N[i]?=Aa x) (hx:Loc X.env.scope x) (he:PE X e te) (hs:swapsWith e (Aa (.Name x pos')) pos.line X.env=pure As:=by rfl) (hf:X.fn x=Af\/X.env.scope.names.lookup x=Aa .local:=by first | exact .inl rfl | exact .inr rfl | assumption) :
 PS X (.Assign [.Name x pos'] e pos) (IY te (CU i)):=by
 intro pins s σ H D I h
 refine wpAny_Assign_Name (thn (he pins s σ H _ I h) fun v s1 ⟨y,H1,I1,r1,q1⟩=>?_) hs
 exact NS I1 hN hi hx r1 (fun s2 I2=>⟨_,H1,I2,q1⟩) hf
end
section
variable {X:Cx} {pos:Pos}
noncomputable def TF (c:TT) (tb:TS):TS:=fun D σ H=>∃W:Ae->St->Hp->Prop,(∃m,W m σ H)/\∀m σ H,W m σ H ->
 c σ H fun b H1=>if b=Af then ∃N:St->Hp->Prop,(∀σ' H',N σ' H'->∃m',m' < m/\W m' σ' H')/\tb { D with nx:=N,ct:=N,bk:=D.nx } σ H1 else D.nx σ H1
theorem NJ {c:A3} {body:Ab AD} {tc:TT} {tb:TS} (hp:PassesOwn (A1 X.prog X.w) X.A X.env X.xe) (hc:PT X c tc) (hb:PSs X body tb):PS X (.While c body [] pos) (TF tc tb):=by
 intro pins s σ H D I h
 obtain ⟨W,⟨m0,w0⟩,turn⟩:=h
 refine wpAny_While (codeAny_whileLoop (fun n s'=>∃σ' H',Inv X pins σ' H' s'/\W n σ' H') ?_ m0 ⟨σ,H,I,w0⟩)
 rintro n s1 ⟨σ1,H1,I1,w1⟩
 refine Hx hp (thn (hc pins s1 σ1 H1 _ I1 (turn n σ1 H1 w1)) fun b s2 hq_=>?_)
 obtain ⟨H2,I2,q2⟩:=hq_
 cases b with
 | true =>
   obtain ⟨N,hN,q2⟩:=q2
   rw [At rfl]
   refine Hx hp (thn (hb pins s2 σ1 H2 _ I2 q2) fun f s3 q3=>?_)
   cases f with
   | next =>
     obtain ⟨σ3,H3,I3,n3⟩:=q3
     obtain ⟨m',hm,w3⟩:=hN σ3 H3 n3
     exact ⟨m',hm,σ3,H3,I3,w3⟩
   | cont =>
     obtain ⟨σ3,H3,I3,n3⟩:=q3
     obtain ⟨m',hm,w3⟩:=hN σ3 H3 n3
     exact ⟨m',hm,σ3,H3,I3,w3⟩
   | brk=>exact q3
   | ret v=>exact q3
 | false =>
   rw [Ao B8]
   exact KM ⟨σ1,H2,I2,q2⟩
end
structure It where
 go:Ae->Hp->Prop
 yld:Ae->Hp->V->Hp->Prop
 stop:Ae->Hp->Prop
noncomputable def Fk (X:Cx) (pins:Ab (Ad × A4)) (H:Hp) (b:Ad):Prop :=
 H b=Ag/\b≠X.env.locals/\b ∉ X.fs/\(b∈X.ex\/X.s₀.heap.objs.size<=b)/\(∀x c,X.env.cells.lookup x=Aa c->c≠b)/\∀p∈X.pn++pins,p.1≠b
theorem Inv.fpOk {X:Cx} {pins:Ab (Ad × A4)} {σ:St} {H H':Hp} {s:Ai} {b:Ad} (I:Inv X pins σ H s) (hb:s.heap.objs.size<=b) (hn:H' b=Ag):Fk X pins H' b:=by
 refine ⟨hn,DC (Cg I.lt hb),I.nofs hb,.inr (CK I.sz hb),fun x c e z=>?_,fun p hp z=>?_⟩
 ·obtain ⟨v,q⟩:=I.cell x c e
  exact A8 (Cg q.lt (by rw [z];exact hb)) (CQ _)
 ·exact A8 (Cg (A' (I.pin p hp).1) (by rw [z];exact hb)) (CQ _)
structure Fn (P:AN) (w:AA) (K:A6) (tg:A3) (J:It) (fp:Ab Ad) (it:Ad) (tn:Ae->AC->Prop):Prop where
 mem:it∈fp
 obj:∀i h,tn i h->∀b∈fp,∃o,h.get? b=Aa o/\∀v,o.data≠.cell v
 keep:∀i h h',tn i h->(∀b∈fp,∀o,h.get? b=Aa o->h'.get? b=Aa o)->tn i h'
 item:∀(X:Cx),X.prog=P->X.w=w->X.K=K->X.calm=Af->∀(i:Ae) (pins:Ab (Ad × A4)) (s:Ai) (σ:St) (H:Hp) (E:Ah->Ai->Prop),Inv X pins σ H s->(∀b∈fp,Fk X pins H b)->tn i s.heap->J.go i H ->
  Ar (A1 P w) X.A (pyNext (.ref it)) (fun r s1=>∃u,r=Aa u /\
   Ar (A1 P w) X.A (letOwnedTupleGo tg (.ref it) u) (fun _ s2=>∃x H',Inv X pins σ H' s2/\Ba x u/\J.yld i H x H'/\tn (i+1) s2.heap/\∀b∈fp,H' b=Ag) E s1) E s
 done:∀(X:Cx),X.prog=P->X.w=w->X.K=K->X.calm=Af->∀(i:Ae) (pins:Ab (Ad × A4)) (s:Ai) (σ:St) (H:Hp) (E:Ah->Ai->Prop),Inv X pins σ H s->(∀b∈fp,Fk X pins H b)->tn i s.heap->J.stop i H ->
  Ar (A1 P w) X.A (pyNext (.ref it)) (fun r s1=>r=Ag/\Inv X pins σ H s1) E s
 self:∀(A:AV) (i:Ae) (s:Ai) (Q:Ah->Ai->Prop) (E:Ah->Ai->Prop),tn i s.heap->Q (.ref it) s->Ar (A1 P w) A (pyIter (.ref it)) Q E s
abbrev TI:=St->Hp->(It->Hp->Prop)->Prop
noncomputable def PIE (X:Cx) (pins:Ab (Ad × A4)) (σ:St) (tg:A3) (R:It->Hp->Prop) (itv:Ah) (s2:Ai):Prop :=
 ∃(it:Ad) (fp:Ab Ad) (tn:Ae->AC->Prop) (J:It) (H':Hp),itv=.ref it/\Inv X pins σ H' s2/\Fn X.prog X.w X.K tg J fp it tn/\tn 0 s2.heap/\(∀b∈fp,Fk X pins H' b)/\R J H'
noncomputable def PI (X:Cx) (tg iter:A3) (wi:TI):Prop :=
 ∀(pins:Ab (Ad × A4)) (s:Ai) (σ:St) (H:Hp) (R:It->Hp->Prop),Inv X pins σ H s->wi σ H R ->
  Ar (A1 X.prog X.w) X.A (eval iter X.env) (fun v s1=>Ar (A1 X.prog X.w) X.A (pyIter v) (PIE X pins σ tg R) X.xe s1) X.xe s
theorem Ld {M:DR} {A:AV} {E:Ah->Ai->Prop} {s:Ai} {tg:A3} {it:Ad} {u:Ah} {o:A4} {n:CN} {vs:A7 Ah} {Q:CZ->Ai->Prop} (ho:s.heap.get? it=Aa o) (hc:o.cls=.type n) (hd:o.data=.fields vs)
 (hn:["enumerate","zip","dict_itemiterator","dict_reverseitemiterator","odict_iterator","itertools.zip_longest","itertools.pairwise"].contains n=As) (hQ:Q () s):Ar M A (letOwnedTupleGo tg (.ref it) u) Q E s:=by
 unfold letOwnedTupleGo
 cases tg <;> first
  | exact A0 hQ
  | (cases u <;> first
   | exact A0 hQ
   | (refine Al (KO ho ?_)
      rw [hc,hd]
      show Ar M A (if (["enumerate","zip","dict_itemiterator","dict_reverseitemiterator","odict_iterator","itertools.zip_longest","itertools.pairwise"].contains n && vs[0]? == Aa (rawInt _))=Af then _ else _) Q E s
      rw [Ao (by intro h;rw [hn,Ur] at h;cases h)]
      exact A0 hQ))
noncomputable def Itl (K:A6) (a:Ad):It :=
 ⟨fun i H=>∃xs x,SqL K H a xs/\xs[i]?=Aa x,fun i H x H'=>H'=H/\∀xs,SqL K H a xs->xs[i]?=Aa x,fun i H=>∃xs,SqL K H a xs/\xs.length<=i⟩
noncomputable def Itt (K:A6) (a:Ad):It :=
 ⟨fun i H=>∃xs x,SqT K H a xs/\xs[i]?=Aa x,fun i H x H'=>H'=H/\∀xs,SqT K H a xs->xs[i]?=Aa x,fun i H=>∃xs,SqT K H a xs/\xs.length<=i⟩
noncomputable def Itr (lo:Ac) (n:Ae):It:=⟨fun i _=>i < n,fun i H x H'=>H'=H/\x=.int (lo+i),fun i _=>n<=i⟩
theorem Abo {P:AN} {w:AA} {K:A6} {tg:A3} (a it:Ad):Fn P w K tg (Itl K a) [it] it (fun i h=>h.IsListIter it a i) where
 mem:=by simp
 obj:=fun i h st b hb=>by
  have e:b=it:=by simpa using hb
  subst e
  obtain ⟨o,e,c,d⟩:=st
  exact ⟨o,e,fun v z=>by rw [d] at z;cases z⟩
 keep:=fun i h h' st k=>st.at fun o e=>k it (by simp) o e
 item:=by
  intro X hP hw hK hc i pins s σ H E I hf st hg
  subst hP hw hK
  obtain ⟨xs,x,hq,hx⟩:=hg
  obtain ⟨its,rv,p,hz⟩:=I.list hq
  obtain ⟨u,hu,ru⟩:=rv.get hx
  obtain ⟨f0,f1,f2,f3,f4,f5⟩:=hf it (by simp)
  refine wpAny_pyNext_list_item st p.isList (x:=u) (by simpa using hu) fun h' st' sb=>?_
  have I1:Inv X pins σ H { s with heap:=h' }:=I.turned (t':=s.toks) (fun b o hb e=>(sb.2 b hb).trans e) f0 f1 f3 f4 f5
  obtain ⟨o,e,c,d⟩:=id st'
  exact ⟨u,rfl,Ld (s:={ s with heap:=h' }) e c d (by decide) ⟨x,H,I1,ru,⟨rfl,fun ys hy=>by rw [I.list_inj hy hq];exact hx⟩,st',fun b hb=>(hf b hb).1⟩⟩
 done:=by
  intro X hP hw hK hc i pins s σ H E I hf st hg
  subst hP hw hK
  obtain ⟨xs,hq,hx⟩:=hg
  obtain ⟨its,rv,p,hz⟩:=I.list hq
  obtain ⟨f0,f1,f2,f3,f4,f5⟩:=hf it (by simp)
  have hl:=rv.length
  exact wpAny_pyNext_list_end (I.ok.hd hc) st p.isList (by simp;omega) fun h' eb=>⟨rfl,I.turned (t':=s.toks) (fun b o hb e=>eb b o hb e) f0 f1 f3 f4 f5⟩
 self:=fun _ _ _ _ _ st h=>wpAny_pyIter_listiter st h
theorem Abq {P:AN} {w:AA} {K:A6} {tg:A3} (a it:Ad):Fn P w K tg (Itt K a) [it] it (fun i h=>h.IsTupleIter it a i) where
 mem:=by simp
 obj:=fun i h st b hb=>by
  have e:b=it:=by simpa using hb
  subst e
  obtain ⟨o,e,c,d⟩:=st
  exact ⟨o,e,fun v z=>by rw [d] at z;cases z⟩
 keep:=fun i h h' st k=>st.at fun o e=>k it (by simp) o e
 item:=by
  intro X hP hw hK hc i pins s σ H E I hf st hg
  subst hP hw hK
  obtain ⟨xs,x,hq,hx⟩:=hg
  obtain ⟨its,rv,p,hz⟩:=I.tuple hq
  obtain ⟨u,hu,ru⟩:=rv.get hx
  obtain ⟨f0,f1,f2,f3,f4,f5⟩:=hf it (by simp)
  refine wpAny_pyNext_tuple_item st (show s.heap.IsTuple a its.toArray from p) (x:=u) (by simpa using hu) fun h' st' sb=>?_
  have I1:Inv X pins σ H { s with heap:=h' }:=I.turned (t':=s.toks) (fun b o hb e=>(sb.2 b hb).trans e) f0 f1 f3 f4 f5
  obtain ⟨o,e,c,d⟩:=id st'
  exact ⟨u,rfl,Ld (s:={ s with heap:=h' }) e c d (by decide) ⟨x,H,I1,ru,⟨rfl,fun ys hy=>by rw [I.tuple_inj hy hq];exact hx⟩,st',fun b hb=>(hf b hb).1⟩⟩
 done:=by
  intro X hP hw hK hc i pins s σ H E I hf st hg
  subst hP hw hK
  obtain ⟨xs,hq,hx⟩:=hg
  obtain ⟨its,rv,p,hz⟩:=I.tuple hq
  obtain ⟨f0,f1,f2,f3,f4,f5⟩:=hf it (by simp)
  have hl:=rv.length
  exact wpAny_pyNext_tuple_end (I.ok.hd hc) st (show s.heap.IsTuple a its.toArray from p) (by simp;omega) fun h' eb=>⟨rfl,I.turned (t':=s.toks) (fun b o hb e=>eb b o hb e) f0 f1 f3 f4 f5⟩
 self:=fun _ _ _ _ _ st h=>wpAny_pyIter_tupleiter st h
theorem Abp {P:AN} {w:AA} {K:A6} {tg:A3} (it:Ad) (lo:Ac) (n:Ae):Fn P w K tg (Itr lo n) [it] it (fun i h=>LV h it (lo+(i:Ae)*1) ((n:Ac) - (i:Ae)) 1) where
 mem:=by simp
 obj:=fun i h st b hb=>by
  have e:b=it:=by simpa using hb
  subst e
  exact ⟨_,st,fun v z=>by
   have z':Kr _=Kq v:=z
   cases z'⟩
 keep:=fun i h h' st k=>k it (by simp) _ st
 item:=by
  intro X hP hw hK hc i pins s σ H E I hf st hg
  subst hP hw hK
  obtain ⟨f0,f1,f2,f3,f4,f5⟩:=hf it (by simp)
  have W:=Walks.range (prog:=X.prog) (w:=X.w) (I.ok.hd hc) it lo 1 n
  refine W.item i s _ _ hg st fun v h' tk hv st' kk=>?_
  obtain ⟨t,rfl⟩:=hv
  have I1:Inv X pins σ H { s with heap:=h',toks:=tk }:=I.turned (fun b o hb e=>kk b o (by simpa using hb) e) f0 f1 f3 f4 f5
  refine ⟨_,rfl,Ld (s:={ s with heap:=h',toks:=tk }) (n:="range_iterator") st' rfl rfl (by decide) ⟨.int (lo+i),H,I1,⟨t,?_⟩,⟨rfl,rfl⟩,st',fun b hb=>(hf b hb).1⟩⟩
  rw [Int.mul_one]
 done:=by
  intro X hP hw hK hc i pins s σ H E I hf st hg
  subst hP hw hK
  obtain ⟨f0,f1,f2,f3,f4,f5⟩:=hf it (by simp)
  exact Wn (I.ok.hd hc) st (by have:n<=i:=hg;omega) fun h' eb=>⟨rfl,I.turned (t':=s.toks) (fun b o hb e=>eb b o hb e) f0 f1 f3 f4 f5⟩
 self:=fun _ _ _ _ _ st h=>Wl st h
end L2
namespace L2
open PySem PySem.Spec PyProof.Rows
section
variable {X:Cx} {tg:A3}
inductive RO (K:A6) (x:V) (H:Hp) (R:It->Hp->Prop):Prop
 | mk (a:Ad):x=.ref a->((∃xs,SqL K H a xs)/\R (Itl K a) H)->RO K x H R
noncomputable def Q5 (K:A6) (tl:TE):TI:=fun σ H R=>tl σ H fun x H1=>RO K x H1 R
inductive RP (K:A6) (x:V) (H:Hp) (R:It->Hp->Prop):Prop
 | mk (a:Ad):x=.ref a->((∃xs,SqT K H a xs)/\R (Itt K a) H)->RP K x H R
noncomputable def X3 (K:A6) (tl:TE):TI:=fun σ H R=>tl σ H fun x H1=>RP K x H1 R
theorem B_ {l:A3} {tl:TE} (hl:PE X l tl):PI X tg l (Q5 X.K tl):=by
 intro pins s σ H R I h
 refine thn (hl pins s σ H _ I h) fun v s1 hq_=>?_
 obtain ⟨x,H1,I1,r1,q1⟩:=hq_
 obtain ⟨a,e,⟨xs,hq⟩,q⟩:=q1
 subst e
 cases r1
 obtain ⟨its,rv,p,hz⟩:=I1.list hq
 refine JE p.isList ?_
 refine ⟨s1.heap.objs.size,[s1.heap.objs.size],_,_,H1,rfl,I1.kept (t':=s1.toks) fun b o e=>Bk _ e,Abo a _,⟨_,BE _ rfl,rfl,rfl⟩,fun b hb=>?_,q⟩
 have e:b=s1.heap.objs.size:=by simpa using hb
 subst e
 exact I1.fpOk (AB _) (I1.hok.fresh (AB _))
theorem Rw {l:A3} {tl:TE} (hl:PE X l tl):PI X tg l (X3 X.K tl):=by
 intro pins s σ H R I h
 refine thn (hl pins s σ H _ I h) fun v s1 hq_=>?_
 obtain ⟨x,H1,I1,r1,q1⟩:=hq_
 obtain ⟨a,e,⟨xs,hq⟩,q⟩:=q1
 subst e
 cases r1
 obtain ⟨its,rv,p,hz⟩:=I1.tuple hq
 refine Py (show s1.heap.IsTuple a its.toArray from p) ?_
 refine ⟨s1.heap.objs.size,[s1.heap.objs.size],_,_,H1,rfl,I1.kept (t':=s1.toks) fun b o e=>Bk _ e,Abq a _,⟨_,BE _ rfl,rfl,rfl⟩,fun b hb=>?_,q⟩
 have e:b=s1.heap.objs.size:=by simpa using hb
 subst e
 exact I1.fpOk (AB _) (I1.hok.fresh (AB _))
theorem RU {pins:Ab (Ad × A4)} {σ:St} {H:Hp} {s:Ai} {R:It->Hp->Prop} {E:Ah->Ai->Prop} {lo hi:Ac} {t u v:BX} {tk:Ae} (I:Inv X pins σ H s) (h1:-(2 ^ 62)<=lo) (h2:lo < 2 ^ 62) (h3:-(2 ^ 62)<=hi) (h4:hi < 2 ^ 62)
 (q:R (Itr lo (hi - lo).toNat) H):Ar (A1 X.prog X.w) X.A (pyIter (.ref s.heap.objs.size)) (PIE X pins σ tg R) E { s with heap:=s.heap.push { cls:=.type "range",data:=.fields #[.int lo t,.int hi u,.int 1 v] },toks:=tk }:=by
 refine Wk (Os ..) (small_one h1 h2 h3 h4) ?_
 have I1:Inv X pins σ H { s with heap:=s.heap.push { cls:=.type "range",data:=.fields #[.int lo t,.int hi u,.int 1 v] },toks:=tk }:=I.kept fun b o e=>Bk _ e
 refine ⟨(s.heap.push { cls:=.type "range",data:=.fields #[.int lo t,.int hi u,.int 1 v] }).objs.size,[(s.heap.push { cls:=.type "range",data:=.fields #[.int lo t,.int hi u,.int 1 v] }).objs.size],_,_,H,rfl,
  I1.kept (t':=tk) fun b o e=>Bk _ e,Abp _ lo (hi - lo).toNat,?_,fun b hb=>?_,q⟩
 ·have e1:lo+((0:Ae):Ac)*1=lo:=by simp
  have e2:(((hi - lo).toNat:Ae):Ac) - ((0:Ae):Ac)=LN lo hi 1:=by rw [rangeSize_one];split <;> omega
  show LV _ _ (lo+((0:Ae):Ac)*1) ((((hi - lo).toNat:Ae):Ac) - ((0:Ae):Ac)) 1
  rw [e1,e2]
  exact BE _ rfl
 ·have e:b=(s.heap.push { cls:=.type "range",data:=.fields #[.int lo t,.int hi u,.int 1 v] }).objs.size:=by simpa using hb
  subst e
  exact I1.fpOk (AB _) (I1.hok.fresh (AB _))
noncomputable def X0 (ta:TA):TI:=fun σ H R=>ta σ H fun vs H1=>∃j:Ac,vs=[.int j]/\-(2 ^ 62)<=j/\j < 2 ^ 62/\R (Itr 0 j.toNat) H1
noncomputable def X1 (ta:TA):TI:=fun σ H R=>ta σ H fun vs H1=>∃i j:Ac,vs=[.int i,.int j]/\(-(2 ^ 62)<=i/\i < 2 ^ 62/\-(2 ^ 62)<=j/\j < 2 ^ 62)/\R (Itr i (j - i).toNat) H1
theorem EW {a:A3} {ta:TA} {p pos:Pos} (hg:Gl X "range") (hm:X.mg "range"=Ag) (ha:PA X [a] ta) (hs:Bh [a] X.env=[(As,eval a X.env)]:=by rfl):PI X tg (.Call (.Name "range" p) [a] [] pos) (X0 ta):=by
 intro pins s σ H R I h
 refine Call_ (Dx I hg hm M6 (Jq (thn (ha pos pins s σ H _ I h) fun us s1 ⟨vs,H1,I1,r1,q1⟩=>?_) hs rfl))
 obtain ⟨j,e,q1,q2,q⟩:=q1
 subst e
 cases r1 with
 | cons r rr =>
   cases rr
   obtain ⟨t,rfl⟩:=r
   exact call_range_1 (RU I1 (by omega) (by omega) q1 q2 (by simpa using q))
theorem Y' {a b:A3} {ta:TA} {p pos:Pos} (hg:Gl X "range") (hm:X.mg "range"=Ag) (ha:PA X [a,b] ta) (hs:Bh [a,b] X.env=[(As,eval a X.env),(As,eval b X.env)]:=by rfl) (hs2:Bh [b] X.env=[(As,eval b X.env)]:=by rfl) :
 PI X tg (.Call (.Name "range" p) [a,b] [] pos) (X1 ta):=by
 intro pins s σ H R I h
 refine Call_ (Dx I hg hm M6 (Jq (thn (ha pos pins s σ H _ I h) fun us s1 ⟨vs,H1,I1,r1,q1⟩=>?_) (by rw [hs,hs2]) (by rw [hs2];rfl)))
 obtain ⟨i,j,e,⟨q1,q2,q3,q4⟩,q⟩:=q1
 subst e
 cases r1 with
 | cons r rr =>
   cases rr with
   | cons r' rr =>
     cases rr
     obtain ⟨t,rfl⟩:=r
     obtain ⟨t',rfl⟩:=r'
     exact call_range_2 (RU I1 q1 q2 q3 q4 q)
noncomputable def AaL (wi:TI) (g:TG) (tb:TS):TS:=fun D σ H=>wi σ H fun J H1=>∃W:Ae->Ae->St->Hp->Prop,(∃m,W 0 m σ H1)/\∀i m σ H,W i m σ H ->
 (J.stop i H/\D.nx σ H)\/(J.go i H/\∃N:St->Hp->Prop,(∀σ' H',N σ' H'->∃m',m' < m/\W (i+1) m' σ' H')/\∀x H',J.yld i H x H'->g x σ H' fun σ2 H2=>tb { D with nx:=N,ct:=N,bk:=D.nx } σ2 H2)
noncomputable def Kb (fp:Ab Ad) (h:AC):Ab (Ad × A4):=fp.filterMap fun b=>(h.get? b).map fun o=>(b,o)
theorem Lm {fp:Ab Ad} {h:AC} {b:Ad} {o:A4} (hb:b∈fp) (e:h.get? b=Aa o):(b,o)∈Kb fp h:=List.mem_filterMap.mpr ⟨b,hb,by rw [e];rfl⟩
theorem Y2 {fp:Ab Ad} {h:AC} {p:Ad × A4} (hp:p∈Kb fp h):p.1∈fp/\h.get? p.1=Aa p.2:=by
 obtain ⟨b,hb,e⟩:=List.mem_filterMap.mp hp
 cases q:h.get? b with
 | none=>rw [q] at e;cases e
 | some o =>
   rw [q] at e
   have e':(b,o)=p:=Bp e
   subst e'
   exact ⟨hb,q⟩
theorem Inv.pinned {pins:Ab (Ad × A4)} {σ:St} {H:Hp} {s:Ai} {fp:Ab Ad} (I:Inv X pins σ H s) (hf:∀b∈fp,Fk X pins H b) (ho:∀b∈fp,∃o,s.heap.get? b=Aa o/\∀v,o.data≠.cell v):Inv X (pins++Kb fp s.heap) σ H s :=
 I.pins_of fun p hp=>(List.mem_append.mp hp).elim (fun z=>I.pin p (Ea _ z)) fun z=>by
  obtain ⟨hb,e⟩:=Y2 z
  obtain ⟨f0,f1,f2,_⟩:=hf p.1 hb
  obtain ⟨o,e',d⟩:=ho p.1 hb
  rw [e] at e';cases e'
  exact ⟨e,f0,f1,f2,d⟩
theorem Inv.unpinned {pins pl:Ab (Ad × A4)} {σ:St} {H:Hp} {s:Ai} (I:Inv X (pins++pl) σ H s):Inv X pins σ H s:=I.pins_of fun p hp=>I.pin p (Ea _ (Jl _ hp))
theorem CW {iter:A3} {body:Ab AD} {wi:TI} {g:TG} {tb:TS} {pos:Pos} (hp:PassesOwn (A1 X.prog X.w) X.A X.env X.xe) (hc:X.calm=Af) (hi:PI X tg iter wi) (hg:PG X tg g) (hb:PSs X body tb)
 (hs:∀x,Fg iter X.env x=pure x:=by intro _;rfl):PS X (.For tg iter body [] pos) (AaL wi g tb):=by
 intro pins s σ H D I h
 refine wpAny_For (thn (hi pins s σ H _ I h) fun v s1 h1=>thn h1 fun itv s2 h2=>?_) hs
 obtain ⟨it,fp,tn,J,H2,e,I2,T,st2,f2,W,⟨m0,w0⟩,turn⟩:=h2
 subst e
 have stat:∀{H':Hp},(∀b∈fp,H' b=Ag)->∀b∈fp,Fk X pins H' b:=fun hn b hb=>⟨hn b hb,(f2 b hb).2⟩
 refine codeAny_forLoop_any (fun n s'=>∃i σ' H',Inv X pins σ' H' s'/\tn i s'.heap/\(∀b∈fp,H' b=Ag)/\W i n σ' H') ?_ m0 ⟨0,σ,H2,I2,st2,fun b hb=>(f2 b hb).1,w0⟩
 rintro n s3 ⟨i,σ3,H3,I3,st3,fr3,w3⟩
 rcases turn i n σ3 H3 w3 with ⟨stop,qn⟩ | ⟨go,N,hN,step⟩
 ·refine Hx hp (thn (T.done X rfl rfl rfl hc i pins s3 σ3 H3 X.xe I3 (stat fr3) st3 stop) fun r s4 hq_=>?_)
  obtain ⟨hr,I4⟩:=hq_
  subst hr
  exact KM ⟨σ3,H3,I4,qn⟩
 ·refine Hx hp (thn (T.item X rfl rfl rfl hc i pins s3 σ3 H3 X.xe I3 (stat fr3) st3 go) fun r s4 hq_=>?_)
  obtain ⟨u,hr,h4⟩:=hq_
  subst hr
  refine Hx hp (thn h4 fun _ s5 hq_=>?_)
  obtain ⟨x,H5,I5,r5,y5,st5,fr5⟩:=hq_
  have I5':=I5.pinned (stat fr5) (T.obj _ _ st5)
  refine Hx hp (thn (hg _ s5 σ3 H5 x u _ I5' r5 (step x H5 y5)) fun _ s6 hq_=>?_)
  obtain ⟨σ6,H6,I6,q6⟩:=hq_
  refine Hx hp (thn (hb _ s6 σ6 H6 _ I6 q6) fun f s7 q7=>?_)
  have again:∀{σ7:St} {H7:Hp},Inv X (pins++Kb fp s5.heap) σ7 H7 s7->N σ7 H7->∃m,m < n/\∃i σ' H',Inv X pins σ' H' s7/\tn i s7.heap/\(∀b∈fp,H' b=Ag)/\W i m σ' H':=fun {σ7 H7} I7 n7=>by
   obtain ⟨m',hm,w7⟩:=hN σ7 H7 n7
   refine ⟨m',hm,i+1,σ7,H7,I7.unpinned,T.keep _ _ _ st5 fun b hb o e=>(I7.pin (b,o) (Ea _ (Ea _ (Lm hb e)))).1,fun b hb=>?_,w7⟩
   obtain ⟨o,e,d⟩:=T.obj _ _ st5 b hb
   exact (I7.pin (b,o) (Ea _ (Ea _ (Lm hb e)))).2.1
  cases f with
  | next=>obtain ⟨σ7,H7,I7,n7⟩:=q7;exact again I7 n7
  | cont=>obtain ⟨σ7,H7,I7,n7⟩:=q7;exact again I7 n7
  | brk=>obtain ⟨σ7,H7,I7,q7⟩:=q7;exact ⟨σ7,H7,I7.unpinned,q7⟩
  | ret v=>obtain ⟨x7,σ7,H7,I7,r7,q7⟩:=q7;exact ⟨x7,σ7,H7,I7.unpinned,r7,q7⟩
end
theorem E4 {K:A6} {a:Ad} {xs:Ab V} {g:TG} {tb:TS} {D:CF} {σ:St} {H:Hp} (Pv:Ae->St->Hp->Prop) (h0:Pv 0 σ H) (hl:∀i σ H,i<=xs.length->Pv i σ H->SqL K H a xs)
 (hs:∀i x σ H,xs[i]?=Aa x->Pv i σ H->g x σ H fun σ2 H2=>tb { D with nx:=Pv (i+1),ct:=Pv (i+1),bk:=D.nx } σ2 H2) (hd:∀σ H,Pv xs.length σ H->D.nx σ H) :
 ∃W:Ae->Ae->St->Hp->Prop,(∃m,W 0 m σ H)/\∀i m σ H,W i m σ H ->
  ((Itl K a).stop i H/\D.nx σ H)\/((Itl K a).go i H/\∃N:St->Hp->Prop,(∀σ' H',N σ' H'->∃m',m' < m/\W (i+1) m' σ' H')/\∀x H',(Itl K a).yld i H x H'->g x σ H' fun σ2 H2=>tb { D with nx:=N,ct:=N,bk:=D.nx } σ2 H2):=by
 refine ⟨fun i m σ H=>m=xs.length - i/\i<=xs.length/\Pv i σ H,⟨xs.length,by simp,BQ _,h0⟩,?_⟩
 rintro i m σ H ⟨rfl,hi,p⟩
 have q:=hl i σ H hi p
 by_cases hlt:i < xs.length
 ·refine .inr ⟨⟨xs,xs[i],q,by simp [hlt]⟩,Pv (i+1),fun σ' H' p'=>⟨xs.length - (i+1),by omega,rfl,hlt,p'⟩,fun x H' y=>?_⟩
  obtain ⟨e,y⟩:=y
  subst e
  exact hs i x σ _ (y xs q) p
 ·have e:i=xs.length:=by omega
  subst e
  exact .inl ⟨⟨xs,q,AB _⟩,hd σ H p⟩
theorem Nh {lo:Ac} {n:Ae} {g:TG} {tb:TS} {D:CF} {σ:St} {H:Hp} (Pv:Ae->St->Hp->Prop) (h0:Pv 0 σ H)
 (hs:∀i σ H,i < n->Pv i σ H->g (.int (lo+i)) σ H fun σ2 H2=>tb { D with nx:=Pv (i+1),ct:=Pv (i+1),bk:=D.nx } σ2 H2) (hd:∀σ H,Pv n σ H->D.nx σ H) :
 ∃W:Ae->Ae->St->Hp->Prop,(∃m,W 0 m σ H)/\∀i m σ H,W i m σ H ->
  ((Itr lo n).stop i H/\D.nx σ H)\/((Itr lo n).go i H/\∃N:St->Hp->Prop,(∀σ' H',N σ' H'->∃m',m' < m/\W (i+1) m' σ' H')/\∀x H',(Itr lo n).yld i H x H'->g x σ H' fun σ2 H2=>tb { D with nx:=N,ct:=N,bk:=D.nx } σ2 H2):=by
 refine ⟨fun i m σ H=>m=n - i/\i<=n/\Pv i σ H,⟨n,by simp,BQ _,h0⟩,?_⟩
 rintro i m σ H ⟨rfl,hi,p⟩
 by_cases hlt:i < n
 ·refine .inr ⟨hlt,Pv (i+1),fun σ' H' p'=>⟨n - (i+1),by omega,rfl,hlt,p'⟩,fun x H' y=>?_⟩
  obtain ⟨e,y⟩:=y
  subst e y
  exact hs i σ _ hlt p
 ·have e:i=n:=by omega
  subst e
  exact .inl ⟨AB _,hd σ H p⟩
theorem Ab1 {c:TT} {tb:TS} {D:CF} {σ:St} {H:Hp} (Pv:St->Hp->Prop) (μ:St->Hp->Ae) (h0:Pv σ H)
 (hs:∀σ H,Pv σ H->c σ H fun b H1=>if b=Af then tb { D with nx:=fun σ' H'=>Pv σ' H'/\μ σ' H' < μ σ H,ct:=fun σ' H'=>Pv σ' H'/\μ σ' H' < μ σ H,bk:=D.nx } σ H1 else D.nx σ H1)
 (mono:∀σ H Q Q',(∀b H1,Q b H1->Q' b H1)->c σ H Q->c σ H Q'):TF c tb D σ H:=by
 refine ⟨fun m σ H=>m=μ σ H/\Pv σ H,⟨_,rfl,h0⟩,?_⟩
 rintro m σ H ⟨rfl,p⟩
 refine mono σ H _ _ (fun b H1 q=>?_) (hs σ H p)
 cases b with
 | true=>exact ⟨_,fun σ' H' ⟨p',l⟩=>⟨_,l,rfl,p'⟩,q⟩
 | false=>exact q
end L2
namespace L2
open PySem PySem.Spec PyProof.Rows
abbrev R2:=V->V->Hp->VK->Prop
noncomputable def OpR (X:Cx) (f:Ah->Ah->C2 Ah) (r:R2):Prop :=
 ∀(pins:Ab (Ad × A4)) (s:Ai) (σ:St) (H:Hp) (x y:V) (v u:Ah) (Q:VK),Inv X pins σ H s->Ba x v->Ba y u->r x y H Q ->
  Ar (A1 X.prog X.w) X.A (f v u) (EP X pins σ Q) X.xe s
noncomputable def UnR (X:Cx) (f:Ah->C2 Ah) (r:V->Hp->VK->Prop):Prop :=
 ∀(pins:Ab (Ad × A4)) (s:Ai) (σ:St) (H:Hp) (x:V) (v:Ah) (Q:VK),Inv X pins σ H s->Ba x v->r x H Q ->
  Ar (A1 X.prog X.w) X.A (f v) (EP X pins σ Q) X.xe s
noncomputable def Dk (X:Cx) (f:Ah) (r:Ab V->Hp->VK->Prop):Prop :=
 ∀(pins:Ab (Ad × A4)) (s:Ai) (σ:St) (H:Hp) (xs:Ab V) (us:Ab Ah) (Q:VK),Inv X pins σ H s->AW xs us->r xs H Q ->
  Ar (A1 X.prog X.w) X.A (call f us) (EP X pins σ Q) X.xe s
noncomputable def tOp (r:R2) (ta tb:TE):TE:=fun σ H Q=>ta σ H fun x H1=>tb σ H1 fun y H2=>r x y H2 Q
noncomputable def tUn (r:V->Hp->VK->Prop) (ta:TE):TE:=fun σ H Q=>ta σ H fun x H1=>r x H1 Q
inductive rI (C:Ac->Ac->Prop) (g:Ac->Ac->V) (x y:V) (H:Hp) (Q:VK):Prop
 | mk (i j:Ac):x=.int i->y=.int j->(C i j/\Q (g i j) H)->rI C g x y H Q
inductive rI0 (g:Ac->Ac->V) (x y:V) (H:Hp) (Q:VK):Prop
 | mk (i j:Ac):x=.int i->y=.int j->Q (g i j) H->rI0 g x y H Q
inductive rU (g:Ac->V) (x:V) (H:Hp) (Q:VK):Prop
 | mk (i:Ac):x=.int i->Q (g i) H->rU g x H Q
section
variable {X:Cx} {a b c:A3} {ta tb tc:TE} {pos:Pos}
theorem MU (ha:PE X a ta) (hb:PE X b tb) {pins:Ab (Ad × A4)} {s:Ai} {σ:St} {H:Hp} {R:V->V->Hp->Prop} (I:Inv X pins σ H s)
 (h:ta σ H fun x H1=>tb σ H1 fun y H2=>R x y H2) {Q:Ah->Ai->Prop} {f:Ah->Ah->C2 Ah}
 (hf:∀v u s2 x y H2,Inv X pins σ H2 s2->Ba x v->Ba y u->R x y H2->Ar (A1 X.prog X.w) X.A (f v u) Q X.xe s2) :
 Ar (A1 X.prog X.w) X.A (eval a X.env) (fun v s₁=>Ar (A1 X.prog X.w) X.A (eval b X.env) (fun u s₂=>Ar (A1 X.prog X.w) X.A (f v u) Q X.xe s₂) X.xe s₁) X.xe s:=by
 refine thn (ha pins s σ H _ I h) fun v s1 hq_=>?_
 obtain ⟨x,H1,I1,r1,q1⟩:=hq_
 refine thn (hb pins s1 σ H1 _ I1 q1) fun u s2 hq_=>?_
 obtain ⟨y,H2,I2,r2,q2⟩:=hq_
 exact hf v u s2 x y H2 I2 r1 r2 q2
theorem A9 {op:Operator} {r:R2} (ho:OpR X (Ef op) r) (ha:PE X a ta) (hb:PE X b tb):PE X (.BinOp a op b pos) (tOp r ta tb):=by
 intro pins s σ H Q I h
 exact wpAny_BinOp (MU ha hb I h fun v u s2 x y H2 I2 rx ry q=>ho pins s2 σ H2 x y v u Q I2 rx ry q)
theorem Lr {op:UnaryOp} {r:V->Hp->VK->Prop} (ho:UnR X (unaryOp op) r) (ha:PE X a ta):PE X (.UnaryOp op a pos) (tUn r ta):=by
 intro pins s σ H Q I h
 refine UnaryOp_ (thn (ha pins s σ H _ I h) fun v s1 hq_=>?_)
 obtain ⟨x,H1,I1,r1,q1⟩:=hq_
 exact ho pins s1 σ H1 x v Q I1 r1 q1
theorem opI {f:Ah->Ah->C2 Ah} {C:Ac->Ac->Prop} {g:Ac->Ac->Ac}
 (rule:∀(i j:Ac) (t u:BX) (s:Ai) (Q:Ah->Ai->Prop) (E:Ah->Ai->Prop),C i j->Q (.int (g i j) s.toks) { s with toks:=s.toks+1 }->Ar (A1 X.prog X.w) X.A (f (.int i t) (.int j u)) Q E s) :
 OpR X f (rI C fun i j=>.int (g i j)):=by
 intro pins s σ H x y v u Q I rx ry h
 obtain ⟨i,j,rfl,rfl,hc,q⟩:=h
 obtain ⟨t,rfl⟩:=rx
 obtain ⟨t',rfl⟩:=ry
 exact rule i j t t' s _ _ hc ⟨.int (g i j),H,I.tok _,⟨_,rfl⟩,q⟩
theorem Lo {f:Ah->Ah->C2 Ah} {g:Ac->Ac->Ac}
 (rule:∀(i j:Ac) (t u:BX) (s:Ai) (Q:Ah->Ai->Prop) (E:Ah->Ai->Prop),Q (.int (g i j) s.toks) { s with toks:=s.toks+1 }->Ar (A1 X.prog X.w) X.A (f (.int i t) (.int j u)) Q E s) :
 OpR X f (rI0 fun i j=>.int (g i j)):=by
 intro pins s σ H x y v u Q I rx ry h
 obtain ⟨i,j,rfl,rfl,q⟩:=h
 obtain ⟨t,rfl⟩:=rx
 obtain ⟨t',rfl⟩:=ry
 exact rule i j t t' s _ _ ⟨.int (g i j),H,I.tok _,⟨_,rfl⟩,q⟩
theorem Ln {f:Ah->Ah->C2 Ah} {g:Ac->Ac->AR}
 (rule:∀(i j:Ac) (t u:BX) (s:Ai) (Q:Ah->Ai->Prop) (E:Ah->Ai->Prop),Q (.bool (g i j)) s->Ar (A1 X.prog X.w) X.A (f (.int i t) (.int j u)) Q E s) :
 OpR X f (rI0 fun i j=>.bl (g i j)):=by
 intro pins s σ H x y v u Q I rx ry h
 obtain ⟨i,j,rfl,rfl,q⟩:=h
 obtain ⟨t,rfl⟩:=rx
 obtain ⟨t',rfl⟩:=ry
 exact rule i j t t' s _ _ ⟨.bl (g i j),H,I,rfl,q⟩
noncomputable def F' (i j:Ac):Prop:=0<=j/\j<=1000000/\i.natAbs < 2 ^ 64
theorem Abr (k:Ae):(0:Ac)<=2 ^ k:=by
 rw [two_pow_cast]
 exact Oq _
theorem Ch:OpR X (Ef .Add) (rI0 fun i j=>.int (i+j)):=Lo fun _ _ _ _ _ _ _ q=>add_int q
theorem GM:OpR X (Ef .Sub) (rI0 fun i j=>.int (i - j)):=Lo fun _ _ _ _ _ _ _ q=>sub_int q
theorem Cn:OpR X (Ef .Mod) (rI (fun _ j=>j≠0) fun i j=>.int (i.fmod j)):=opI fun _ _ _ _ _ _ _ hc q=>mod_int' hc q
theorem Lp:OpR X (Ef .Pow) (rI F' fun i j=>.int (i ^ j.toNat)):=opI fun _ _ _ _ _ _ _ hc q=>pow_int_small hc.1 hc.2.1 hc.2.2 q
theorem HP:OpR X (Ef .LShift) (rI F' fun i j=>.int (i*2 ^ j.toNat)):=opI fun _ _ _ _ _ _ _ hc q=>lshift_int_small hc.1 hc.2.1 hc.2.2 q
theorem YB:OpR X (Ef .RShift) (rI (fun _ j=>0<=j) fun i j=>.int (i / 2 ^ j.toNat)):=opI fun i j _ _ _ _ _ hc q =>
 rshift_int hc (by rw [Jg i (Abr _)];exact q)
theorem Y7:OpR X (Ef .BitAnd) (rI0 fun i j=>.int (LP i j)):=Lo fun _ _ _ _ _ _ _ q=>and_int q
theorem YA:OpR X (Ef .BitOr) (rI0 fun i j=>.int (Ko i j)):=Lo fun _ _ _ _ _ _ _ q=>or_int q
theorem unI {f:Ah->C2 Ah} {g:Ac->Ac}
 (rule:∀(i:Ac) (t:BX) (s:Ai) (Q:Ah->Ai->Prop) (E:Ah->Ai->Prop),Q (.int (g i) s.toks) { s with toks:=s.toks+1 }->Ar (A1 X.prog X.w) X.A (f (.int i t)) Q E s) :
 UnR X f (rU fun i=>.int (g i)):=by
 intro pins s σ H x v Q I rx h
 obtain ⟨i,rfl,q⟩:=h
 obtain ⟨t,rfl⟩:=rx
 exact rule i t s _ _ ⟨.int (g i),H,I.tok _,⟨_,rfl⟩,q⟩
theorem Ly:UnR X (unaryOp .USub) (rU fun i=>.int (-i)):=unI fun _ _ _ _ _ q=>neg_int q
end
noncomputable def R_:V->V->AR
 | .non,.non=>Af | .non,.int _=>Af | .int _,.non=>Af | .non,.bl _=>Af | .bl _,.non=>Af | .non,.str _=>Af | .str _,.non=>Af
 | .int _,.int _=>Af | .bl _,.bl _=>Af | .str _,.str _=>Af | .byt _,.byt _=>Af
 | .int _,.str _=>Af | .str _,.int _=>Af | .bl _,.str _=>Af | .str _,.bl _=>Af
 | _,_=>As
noncomputable def rEq:R2:=fun x y H Q=>R_ x y=Af/\Q (.bl (decide (x=y))) H
noncomputable def rNe:R2:=fun x y H Q=>R_ x y=Af/\Q (.bl (!decide (x=y))) H
theorem Ql {i j:Ac}:decide (V.int i=V.int j)=(i == j):=by
 rw [Jd]
 simp
theorem Qj {i j:AR}:decide (V.bl i=V.bl j)=(i == j):=by
 rw [Jd]
 simp
theorem Qn {i j:Ak}:decide (V.str i=V.str j)=(i == j):=by
 rw [Jd]
 simp
theorem Qk {i j:A7 UInt8}:decide (V.byt i=V.byt j)=(i.toList == j.toList):=by
 rw [Jd]
 cases i
 cases j
 simp
section
variable {X:Cx} {a b c:A3} {ta tb tc:TE} {pos:Pos}
theorem BH {pins:Ab (Ad × A4)} {σ:St} {H:Hp} {s:Ai} {Q:VK} {k k':AR} (I:Inv X pins σ H s) (q:Q (.bl k) H) (e:k=k'):EP X pins σ Q (.bool k') s:=by
 subst e
 exact ⟨.bl k,H,I,rfl,q⟩
theorem D1:OpR X (CS .Eq) rEq:=by
 intro pins s σ H x y v u Q I rx ry h
 obtain ⟨hs,q⟩:=h
 cases x with
 | non =>
   cases rx
   cases y with
   | non=>cases ry;exact PySem.EqNone.eq_none_none (BH I q (by simp))
   | bl j=>cases ry;exact PySem.EqNone.eq_none_bool (BH I q (by simp))
   | int j=>obtain ⟨t',rfl⟩:=ry;exact PySem.EqNone.eq_none_int (BH I q (by simp))
   | str j=>obtain ⟨t',rfl⟩:=ry;exact PySem.EqNone.eq_none_str (BH I q (by simp))
   | _=>exact A8 (show As=Af from hs) B8
 | bl i =>
   cases rx
   cases y with
   | non=>cases ry;exact PySem.EqNone.eq_bool_none (BH I q (by simp))
   | bl j=>cases ry;exact eq_bool (BH I q Qj)
   | str j=>obtain ⟨t',rfl⟩:=ry;exact PySem.EqMixed.eq_bool_str (BH I q (by simp))
   | _=>exact A8 (show As=Af from hs) B8
 | int i =>
   obtain ⟨t,rfl⟩:=rx
   cases y with
   | non=>cases ry;exact PySem.EqNone.eq_int_none (BH I q (by simp))
   | int j=>obtain ⟨t',rfl⟩:=ry;exact eq_int (BH I q Ql)
   | str j=>obtain ⟨t',rfl⟩:=ry;exact PySem.EqMixed.eq_int_str (BH I q (by simp))
   | _=>exact A8 (show As=Af from hs) B8
 | str i =>
   obtain ⟨t,rfl⟩:=rx
   cases y with
   | non=>cases ry;exact PySem.EqNone.eq_str_none (BH I q (by simp))
   | bl j=>cases ry;exact PySem.EqMixed.eq_str_bool (BH I q (by simp))
   | int j=>obtain ⟨t',rfl⟩:=ry;exact PySem.EqMixed.eq_str_int (BH I q (by simp))
   | str j=>obtain ⟨t',rfl⟩:=ry;exact eq_str (BH I q Qn)
   | _=>exact A8 (show As=Af from hs) B8
 | byt i =>
   obtain ⟨t,rfl⟩:=rx
   cases y with
   | byt j=>obtain ⟨t',rfl⟩:=ry;exact PySem.W.eq_bytes (BH I q Qk)
   | _=>exact A8 (show As=Af from hs) B8
 | _=>cases y <;> exact A8 (show As=Af from hs) B8
theorem ER:OpR X (CS .NotEq) rNe:=by
 intro pins s σ H x y v u Q I rx ry h
 obtain ⟨hs,q⟩:=h
 cases x with
 | non =>
   cases rx
   cases y with
   | non=>cases ry;exact PySem.EqNone.ne_none_none (BH I q (by simp))
   | bl j=>cases ry;exact PySem.EqNone.ne_none_bool (BH I q (by simp))
   | int j=>obtain ⟨t',rfl⟩:=ry;exact PySem.EqNone.ne_none_int (BH I q (by simp))
   | str j=>obtain ⟨t',rfl⟩:=ry;exact PySem.EqNone.ne_none_str (BH I q (by simp))
   | _=>exact A8 (show As=Af from hs) B8
 | bl i =>
   cases rx
   cases y with
   | non=>cases ry;exact PySem.EqNone.ne_bool_none (BH I q (by simp))
   | bl j=>cases ry;exact ne_bool (BH I q (BR not Qj))
   | str j=>obtain ⟨t',rfl⟩:=ry;exact PySem.EqMixed.ne_bool_str (BH I q (by simp))
   | _=>exact A8 (show As=Af from hs) B8
 | int i =>
   obtain ⟨t,rfl⟩:=rx
   cases y with
   | non=>cases ry;exact PySem.EqNone.ne_int_none (BH I q (by simp))
   | int j=>obtain ⟨t',rfl⟩:=ry;exact ne_int (BH I q (BR not Ql))
   | str j=>obtain ⟨t',rfl⟩:=ry;exact PySem.EqMixed.ne_int_str (BH I q (by simp))
   | _=>exact A8 (show As=Af from hs) B8
 | str i =>
   obtain ⟨t,rfl⟩:=rx
   cases y with
   | non=>cases ry;exact PySem.EqNone.ne_str_none (BH I q (by simp))
   | bl j=>cases ry;exact PySem.EqMixed.ne_str_bool (BH I q (by simp))
   | int j=>obtain ⟨t',rfl⟩:=ry;exact PySem.EqMixed.ne_str_int (BH I q (by simp))
   | str j=>obtain ⟨t',rfl⟩:=ry;exact ne_str (BH I q (BR not Qn))
   | _=>exact A8 (show As=Af from hs) B8
 | byt i =>
   obtain ⟨t,rfl⟩:=rx
   cases y with
   | byt j=>obtain ⟨t',rfl⟩:=ry;exact PySem.W.ne_bytes (BH I q (BR not Qk))
   | _=>exact A8 (show As=Af from hs) B8
 | _=>cases y <;> exact A8 (show As=Af from hs) B8
theorem Fx:OpR X (CS .Lt) (rI0 fun i j=>.bl (decide (i < j))):=Ln fun _ _ _ _ _ _ _ q=>lt_int q
theorem EQ:OpR X (CS .LtE) (rI0 fun i j=>.bl (decide (i<=j))):=Ln fun _ _ _ _ _ _ _ q=>le_int q
theorem EO:OpR X (CS .Gt) (rI0 fun i j=>.bl (decide (j < i))):=Ln fun _ _ _ _ _ _ _ q=>gt_int q
theorem Rq:OpR X (CS .GtE) (rI0 fun i j=>.bl (decide (j<=i))):=Ln fun _ _ _ _ _ _ _ q=>ge_int q
theorem N8:OpR X (CS .Is) (fun x y H Q=>y=.non/\Q (.bl (decide (x=.non))) H):=by
 intro pins s σ H x y v u Q I rx ry h
 obtain ⟨rfl,q⟩:=h
 cases ry
 refine is_none_gen (BH I q ?_)
 cases x <;> first
  | (cases rx;rfl)
  | (obtain ⟨t,rfl⟩:=rx;rfl)
theorem N9:OpR X (CS .IsNot) (fun x y H Q=>y=.non/\Q (.bl (!decide (x=.non))) H):=by
 intro pins s σ H x y v u Q I rx ry h
 obtain ⟨rfl,q⟩:=h
 cases ry
 refine isnot_none_gen (BH I q ?_)
 cases x <;> first
  | (cases rx;rfl)
  | (obtain ⟨t,rfl⟩:=rx;rfl)
theorem Fw (b:A3) {op:CmpOp} (h:op≠.In:=by decide) (h2:op≠.NotIn:=by decide):behindInMarks op b=As:=by
 have e1:(op == CmpOp.In)=As:=by cases op <;> first | rfl | exact A8 rfl h
 have e2:(op == CmpOp.NotIn)=As:=by cases op <;> first | rfl | exact A8 rfl h2
 cases b <;> simp [behindInMarks,e1,e2]
theorem Gh {op:CmpOp} {r:R2} (ho:OpR X (CS op) r) (ha:PE X a ta) (hb:PE X b tb) (hm:behindInMarks op b=As):PE X (.Compare a [op] [b] pos) (tOp r ta tb):=by
 intro pins s σ H Q I h
 exact wpAny_Compare1 (MU ha hb I h fun v u s2 x y H2 I2 rx ry q=>ho pins s2 σ H2 x y v u Q I2 rx ry q) hm
noncomputable def NU (t:TE):TT:=fun σ H Q=>t σ H fun x H'=>isB x H' Q
theorem Zq {op:CmpOp} {r:R2} (ho:OpR X (CS op) r) (ha:PE X a ta) (hb:PE X b tb) (hm:behindInMarks op b=As):PT X (.Compare a [op] [b] pos) (NU (tOp r ta tb)):=by
 intro pins s σ H Q I h
 refine wpAny_isTrue_Compare1 (thn (ha pins s σ H _ I h) fun v s1 ⟨x,H1,I1,r1,q1⟩=>thn (hb pins s1 σ H1 _ I1 q1) fun u s2 ⟨y,H2,I2,r2,q2⟩ =>
  thn (ho pins s2 σ H2 x y v u _ I2 r1 r2 q2) fun c s3 ⟨z,H3,I3,r3,k,e,q3⟩=>?_) hm
 subst e
 cases r3
 exact Hz ⟨H3,I3,q3⟩
noncomputable def AaF (r r':R2) (ta tb tc:TE):TE:=fun σ H Q=>ta σ H fun x H1=>tb σ H1 fun y H2=>r x y H2 fun z H3=>∃k,z=.bl k /\
 (if k=Af then tc σ H3 fun w' H4=>r' y w' H4 Q else Q (.bl As) H3)
theorem J_ {op op':CmpOp} {r r':R2} (ho:OpR X (CS op) r) (ho':OpR X (CS op') r') (ha:PE X a ta) (hb:PE X b tb) (hc:PE X c tc)
 (hm:lastMarks [op,op'] [b,c]=As:=by with_unfolding_all rfl):PE X (.Compare a [op,op'] [b,c] pos) (AaF r r' ta tb tc):=by
 intro pins s σ H Q I h
 refine Compare_chain (thn (ha pins s σ H _ I h) fun v s1 ⟨x,H1,I1,r1,q1⟩=>chain_link (thn (hb pins s1 σ H1 _ I1 q1) fun u s2 ⟨y,H2,I2,r2,q2⟩ =>
  thn (ho pins s2 σ H2 x y v u _ I2 r1 r2 q2) fun d s3 ⟨z,H3,I3,r3,k,e,q3⟩=>?_)) hm
 subst e
 cases r3
 refine Hz ?_
 cases k with
 | false=>exact ite_ff ⟨.bl As,H3,I3,rfl,q3⟩
 | true=>exact ite_tt (chain_last (thn (hc pins s3 σ H3 _ I3 q3) fun w' s4 ⟨z',H4,I4,r4,q4⟩=>ho' pins s4 σ H4 y z' u w' Q I4 r2 r4 q4))
theorem JY:(A5:Ae) < 2 ^ 63:=by rw [Fi];decide
theorem EY {x:V} {us:Ab Ah} (r:AW [x] us):∃u,us=[u]/\Ba x u:=by
 cases r with
 | cons r1 r2=>cases r2;exact ⟨_,rfl,r1⟩
theorem NZ {x y:V} {us:Ab Ah} (r:AW [x,y] us):∃u w',us=[u,w']/\Ba x u/\Ba y w':=by
 cases r with
 | cons r1 r2 =>
   cases r2 with
   | cons r3 r4=>cases r4;exact ⟨_,_,rfl,r1,r3⟩
theorem PZ:Dk X (.builtin "abs") (fun xs H Q=>∃i,xs=[.int i]/\Q (.int (if i < 0 then -i else i)) H):=by
 intro pins s σ H xs us Q I r h
 obtain ⟨i,rfl,q⟩:=h
 obtain ⟨u,rfl,t,rfl⟩:=EY r
 exact call_abs_int fun u tk=>⟨.int (if i < 0 then -i else i),H,I.tok _,⟨_,rfl⟩,q⟩
theorem MY (hc:X.calm=Af):Dk X (.builtin "max") (fun xs H Q=>∃i j,xs=[.int i,.int j]/\Q (.int (if j > i then j else i)) H):=by
 intro pins s σ H xs us Q I r h
 obtain ⟨i,j,rfl,q⟩:=h
 obtain ⟨u,w',rfl,⟨t,rfl⟩,⟨t',rfl⟩⟩:=NZ r
 refine max_two_ints (I.ok.hd hc) fun h' tk k=>⟨_,H,I.kept k,?_,q⟩
 by_cases hj:j > i
 ·rw [At hj,At hj];exact ⟨_,rfl⟩
 ·rw [Ao hj,Ao hj];exact ⟨_,rfl⟩
theorem WA (hc:X.calm=Af):Dk X (.builtin "min") (fun xs H Q=>∃i j,xs=[.int i,.int j]/\Q (.int (if j < i then j else i)) H):=by
 intro pins s σ H xs us Q I r h
 obtain ⟨i,j,rfl,q⟩:=h
 obtain ⟨u,w',rfl,⟨t,rfl⟩,⟨t',rfl⟩⟩:=NZ r
 refine min_two_ints (I.ok.hd hc) fun h' tk k=>⟨_,H,I.kept k,?_,q⟩
 by_cases hj:j < i
 ·rw [At hj,At hj];exact ⟨_,rfl⟩
 ·rw [Ao hj,Ao hj];exact ⟨_,rfl⟩
noncomputable def P4 (K:A6) (x:V) (H:Hp) (n:Ae):Prop :=
 match x with
 | .str y=>y.length<=A5/\n=y.length
 | .byt y=>y.size<=A5/\n=y.size
 | .ref p=>(∃xs,SqL K H p xs/\n=xs.length)\/∃xs,SqT K H p xs/\n=xs.length
 | _=>B5
theorem W6:Dk X (.builtin "len") (fun xs H Q=>∃x n,xs=[x]/\P4 X.K x H n/\Q (.int n) H):=by
 intro pins s σ H xs us Q I r h
 obtain ⟨x,n,rfl,e,q⟩:=h
 obtain ⟨u,rfl,rx⟩:=EY r
 have hl:=JY
 have hs:A5=16777216:=Fi
 cases x with
 | str y =>
   obtain ⟨t,rfl⟩:=rx
   obtain ⟨hy,e'⟩:y.length<=A5/\n=y.length:=e
   subst e'
   exact len_str (by omega) ⟨.int _,H,I.tok _,⟨_,rfl⟩,q⟩
 | byt y =>
   obtain ⟨t,rfl⟩:=rx
   obtain ⟨hy,e'⟩:y.size<=A5/\n=y.size:=e
   subst e'
   exact PySem.W.len_bytes (by omega) ⟨.int _,H,I.tok _,⟨_,rfl⟩,q⟩
 | ref p =>
   cases rx
   have e':(∃xs,SqL X.K H p xs/\n=xs.length)\/∃xs,SqT X.K H p xs/\n=xs.length:=e
   rcases e' with ⟨xs,hx,e'⟩ | ⟨xs,hx,e'⟩
   ·subst e'
    obtain ⟨its,r',pl,hz⟩:=I.list hx
    have hlen:=r'.length
    exact Uz pl.isList (by simp only [BB];omega) ⟨.int xs.length,H,I.tok _,⟨_,by simp only [BB];rw [hlen]⟩,q⟩
   ·subst e'
    obtain ⟨its,r',pl,hz⟩:=I.tuple hx
    have hlen:=r'.length
    exact len_tuple pl (by simp only [BB];omega) ⟨.int xs.length,H,I.tok _,⟨_,by simp only [BB];rw [hlen]⟩,q⟩
 | _=>exact (show B5 from e).elim
end
end L2
namespace L2
open PySem PySem.Spec PyProof.Rows
structure G9 (h:AC) (x dx C:Ad) (mA:Ak->Ay Ah):Prop where
 obj:h.get? x=Aa (G4 C dx)
 ns:h.Ns1 dx mA
 ne:dx≠x
theorem QN {h:AC} {dx:Ad} {mA:Ak->Ay Ah} (n:h.Ns1 dx mA):∃od,h.get? dx=Aa od/\∀name,Mz name od=Aa (mA name):=by
 obtain ⟨o,es,ep,ho,hd,hk,_,hm⟩:=n
 refine ⟨o,ho,fun name=>?_⟩
 have e:=hm name
 unfold nsFind findBy at e
 rw [<- Array.find?_toList] at e
 unfold Mz
 rw [hd]
 dsimp only
 split
 ·rename_i y q
  rw [q] at e
  exact BR Aa e
 ·rename_i q
  rw [q] at e
  have a:es.toList.any (·.refKey)=As:=by
   rw [List.any_eq_false]
   intro y hy
   obtain ⟨z,t,hkey⟩:=hk y (Array.mem_toList_iff.mp hy)
   simp [DictEntry.refKey,hkey]
  have a':¬ es.toList.any (·.refKey)=Af:=by rw [a];exact B8
  rw [Ao a']
  exact BR Aa e
theorem G9.look {h:AC} {x dx C:Ad} {mA:Ak->Ay Ah} (I:G9 h x dx C mA):∃od,Jr h x (G4 C dx) C (Aa od)/\∀name,Mz name od=Aa (mA name) :=
 let ⟨od,ho,hl⟩:=QN I.ns
 ⟨od,⟨I.obj,rfl,rfl,ho⟩,hl⟩
section
variable {prog:AN} {w:AA} {A:AV} {E:Ah->Ai->Prop} {s:Ai} {K:A6} {x dx C f:Ad} {mA:Ak->Ay Ah} {name:Ak} {v:Ah}
theorem Xk {expr:AR} {Q:Ah->Ai->Prop} (X:K.In s.heap) (I:G9 s.heap x dx C mA) (hg:FW K C name=Af) (hh:FV K C=Af)
 (ha:Bf K (.ref C) name=Aa Ag) (hv:mA name=Aa v) (hv':OP v=Af) (h:Q v { s with toks:=s.toks+1 }) :
 Ar (A1 prog w) A (getAttr (.ref x) name expr) Q E s:=by
 obtain ⟨od,J,hl⟩:=I.look
 exact PySem.W.get_value X J (OT hg).1 (V6 hh ha rfl (by rw [hl,hv])) hv' h
theorem Xl {pl:C2 AR} {Q:Ah × Ab Ah->Ai->Prop} (X:K.In s.heap) (I:G9 s.heap x dx C mA) (hg:FW K C name=Af)
 (hf:Bf K (.ref C) name=Aa (Aa (.ref f))) (ht:BN K (.ref f)=Af) (hv:mA name=Ag) (h:Q (.ref f,[.ref x]) s) :
 Ar (A1 prog w) A (getMethod (.ref x) name pl) Q E s:=by
 obtain ⟨od,J,hl⟩:=I.look
 exact PySem.W.method_fn X J (OT hg).1 (OT hg).2 hf (beq_iff_eq.mp ht) (by show (Mz name od).map (·.isSome)=Aa As;rw [hl,hv];rfl) h
theorem Aag {ns:Ab Ak} {Q:CZ->Ai->Prop} (X:K.In s.heap) (I:G9 s.heap x dx C mA)
 (hs:Bf K (.ref C) "__setattr__"=Aa (Aa (.builtin "object.__setattr__"))) (hp:Hq K C=Af) (ht:OV K C name=Aa Ag) (hh:FV K C=Af)
 (hw:M1 mA ns) (hsz:ns.length<=A5)
 (h:∀h',G9 h' x dx C (fun y=>if y=name then Aa v else mA y)->Ep dx s.heap h'->Q () { s with heap:=h',toks:=s.toks+2 }) :
 Ar (A1 prog w) A (setAttr (.ref x) name v) Q E s:=by
 obtain ⟨od,J,hl⟩:=I.look
 refine PySem.W.set_plain X J hs (PySem.W.osa_open (s:={ s with toks:=s.toks+1 }) (r:=Ag) X J hp ht fun b=>?_)
 obtain ⟨cd,hc,hd'⟩:=PySem.W.any_some hh
 have hx:s.heap.get? x=Aa ⟨.ref C,Aa dx,.plain,#[]⟩:=I.obj
 refine Al (A0 (Al (Al (wpAny_loadPart hx (Al (PySem.W.Looks.here (s:={ s with toks:=s.toks+1 }) (PySem.W.looks_clsIn X hc) ?_))))))
 rw [hd']
 refine A0 (a:=Aa dx) (Al (A0 (Al ?_)))
 refine wpAny_nsSet1 (s:={ s with toks:=s.toks+1 }) I.ns fun h' hn2 hs2=>?_
 obtain ⟨oD,esD,epD,hoD,hdD,hcD⟩:=hn2.count (PySem.Within.cons name v hw)
 refine Al (wpAny_lookBehind hoD (by rw [hdD];exact pastItsLine_dict (CK hcD (by rw [BA];omega))) ?_)
 exact A0 (h _ ⟨(hs2.2 _ (AM I.ne)).trans I.obj,hn2,I.ne⟩ hs2)
theorem Ye {R:Jv->Ai->Prop} {vs:Ab Ah} {kw:Ab (Ak × Ah)} (X:K.In s.heap) (hm:Ju K C=Af)
 (hi:Bf K (.ref C) "__init__"=Aa (Aa (.ref f))) (hf:OW K (.ref f)=Aa (.type "function"))
 (h:codeAny (A1 prog w) (A.under (.builtin "type.__call__" ⟨.ref C :: vs,kw⟩)) (.call (.ref f) ⟨.ref (s.heap.objs.size+1) :: vs,kw⟩) (PySem.W.InitBack (s.heap.objs.size+1) R)
  { s with heap:=(s.heap.push FU).push (G4 C s.heap.objs.size) }) :
 codeAny (A1 prog w) A (.call (.ref C) ⟨vs,kw⟩) R s:=by
 obtain ⟨hh,g,d,t,os⟩:=s
 exact PySem.W.make_core (PySem.W.makes_of X hm) (OQ X hi) (fun self=>PySem.W.bind_fn X self hf) (.inl rfl) h
end
noncomputable def Bb (f:Ak) (v:V):Ab (Ak × V)->Ab (Ak × V)
 | []=>[(f,v)]
 | (g,x) :: r=>if g=f then (g,v) :: r else (g,x) :: Bb f v r
theorem QP (f g:Ak) (v:V):∀fs:Ab (Ak × V),(Bb f v fs).lookup g=if g=f then Aa v else fs.lookup g
 | []=>by
   show FM g [(f,v)]=_
   by_cases h:g=f
   ·have hb:(g == f)=Af:=beq_iff_eq.mpr h
    simp only [FM,hb,At h]
   ·have hb:(g == f)=As:=beq_eq_false_iff_ne.mpr h
    simp only [FM,hb,Ao h]
 | (k,x) :: r=>by
   have ih:=QP f g v r
   rw [show Bb f v ((k,x) :: r)=(if k=f then (k,v) :: r else (k,x) :: Bb f v r) from rfl]
   by_cases hk:k=f
   ·rw [At hk]
    by_cases h:g=k
    ·have hb:(g == k)=Af:=beq_iff_eq.mpr h
     simp only [FM,hb,At (h.trans hk)]
    ·have hb:(g == k)=As:=beq_eq_false_iff_ne.mpr h
     simp only [FM,hb,Ao (fun e:g=f=>h (e.trans hk.symm))]
   ·rw [Ao hk]
    by_cases h:g=k
    ·have hb:(g == k)=Af:=beq_iff_eq.mpr h
     simp only [FM,hb,Ao (fun e:g=f=>hk (h.symm.trans e))]
    ·have hb:(g == k)=As:=beq_eq_false_iff_ne.mpr h
     simp only [FM,hb]
     exact ih
theorem Nr (f:Ak) (v:V):∀fs:Ab (Ak × V),f∈(Bb f v fs).map (·.1)/\∀g,g∈fs.map (·.1)->g∈(Bb f v fs).map (·.1)
 | []=>⟨by simp [Bb],fun g h=>by simp at h⟩
 | (k,x) :: r=>by
   obtain ⟨i1,i2⟩:=Nr f v r
   rw [show Bb f v ((k,x) :: r)=(if k=f then (k,v) :: r else (k,x) :: Bb f v r) from rfl]
   by_cases hk:k=f
   ·rw [At hk]
    subst hk
    exact ⟨by simp,fun g h=>by simpa using h⟩
   ·rw [Ao hk]
    refine ⟨?_,fun g h=>?_⟩
    ·rw [BL]
     exact Bv _ i1
    ·rw [BL] at h ⊢
     rcases List.mem_cons.mp h with e | e
     ·exact List.mem_cons.mpr (.inl e)
     ·exact Bv _ (i2 g e)
theorem QL (f:Ak) (v:V):∀fs:Ab (Ak × V),(Bb f v fs).length<=fs.length+1
 | []=>by simp [Bb]
 | (k,x) :: r=>by
   have ih:=QL f v r
   rw [show Bb f v ((k,x) :: r)=(if k=f then (k,v) :: r else (k,x) :: Bb f v r) from rfl]
   by_cases hk:k=f
   ·rw [At hk,BA,BA];omega
   ·rw [Ao hk,BA,BA];omega
theorem CG.some_of {v:V} {o:Ay Ah} (r:CG (Aa v) o):∃u,o=Aa u/\Ba v u:=by
 cases o with
 | none=>exact (show B5 from r).elim
 | some u=>exact ⟨u,rfl,r⟩
theorem CG.none_of {o:Ay Ah} (r:CG Ag o):o=Ag:=by
 cases o with
 | none=>rfl
 | some u=>exact (show B5 from r).elim
theorem Q3 {v:V} {u:Ah} (r:Ba v u):OP u=Af:=by
 cases v with
 | non=>cases (show u=B6 from r);rfl
 | bl b=>cases (show u=EK b from r);rfl
 | int i=>obtain ⟨t,e⟩:=(show ∃t,u=Di i t from r);cases e;rfl
 | str x=>obtain ⟨t,e⟩:=(show ∃t,u=Jx x t from r);cases e;rfl
 | byt b=>obtain ⟨t,e⟩:=(show ∃t,u=Value.bytes b t from r);cases e;rfl
 | flt b=>obtain ⟨t,e⟩:=(show ∃t,u=Pb b t from r);cases e;rfl
 | ref a=>cases (show u=A_ a from r);rfl
 | ty n=>cases (show u=Ck n from r);rfl
section
variable {P:AN} {w:AA} {H H':Hp} {h h':AC} {a C dx:Ad} {fs fs':Ab (Ak × V)}
theorem Lf (hok:HOk P w H h) (e:H a=Aa (.ins C dx fs)):∃mA,G9 h a dx C mA/\(∀f,CG (fs.lookup f) (mA f))/\M1 mA (fs.map (·.1))/\fs.length<=1000/\H dx=Aa (.own a):=by
 obtain ⟨d,z,ne,ob,mA,n,r,q⟩:=(show BD P w H h a (.ins C dx fs) from hok a _ e)
 exact ⟨mA,⟨ob,n,ne⟩,r,q,z,d⟩
end
structure Cls (K:A6) (C:Ad):Prop where
 pg:FW K C Jw=Af
 hd:FV K C=Af
 po:Hq K C=Af
 sa:Bf K (.ref C) "__setattr__"=Aa (Aa (.builtin "object.__setattr__"))
theorem Cls.get {K:A6} {C:Ad} (c:Cls K C) (f:Ak):FW K C f=Af:=c.pg
noncomputable def BG (K:A6) (C:Ad) (f:Ak):Prop:=Bf K (.ref C) f=Aa Ag
theorem BG.taker {K:A6} {C:Ad} {f:Ak} (n:BG K C f):OV K C f=Aa Ag:=by
 unfold OV
 rw [show Bf K (.ref C) f=Aa Ag from n]
 rfl
structure Cb (K:A6) (C:Ad) (m:Ak) (f:Ad):Prop where
 at_:Bf K (.ref C) m=Aa (Aa (.ref f))
 fn:BN K (.ref f)=Af
 kp:AL K (.ref f)=Af
section
variable {X:Cx} {pins:Ab (Ad × A4)} {σ:St} {H:Hp} {s:Ai} {a C dx:Ad} {fs:Ab (Ak × V)} {f:Ak} {v:V} {A:AV} {E:Ah->Ai->Prop}
theorem Xm {b:AR} {Q:Ah->Ai->Prop} (I:Inv X pins σ H s) (e:H a=Aa (.ins C dx fs)) (c:Cls X.K C) (n:BG X.K C f) (l:fs.lookup f=Aa v)
 (h:∀u s',Inv X pins σ H s'->Ba v u->Q u s'):Ar (A1 X.prog X.w) A (getAttr (.ref a) f b) Q E s:=by
 obtain ⟨mA,O,r,_,_,_⟩:=Lf I.hok e
 obtain ⟨u,hu,ru⟩:=CG.some_of (v:=v) (o:=mA f) (by rw [<- l];exact r f)
 exact Xk I.kIn O (c.get f) c.hd n hu (Q3 ru) (h u _ (I.tok _) ru)
theorem Q1 {m:Ak} {g:Ad} {pl:C2 AR} {Q:Ah × Ab Ah->Ai->Prop} (I:Inv X pins σ H s) (e:H a=Aa (.ins C dx fs)) (c:Cls X.K C) (k:Cb X.K C m g) (l:fs.lookup m=Ag)
 (h:Q (.ref g,[.ref a]) s):Ar (A1 X.prog X.w) A (getMethod (.ref a) m pl) Q E s:=by
 obtain ⟨mA,O,r,_,_,_⟩:=Lf I.hok e
 have hn:mA m=Ag:=CG.none_of (by rw [<- l];exact r m)
 exact Xl I.kIn O (c.get m) k.at_ k.fn hn h
theorem Aap {y:V} {u:Ah} {Q:CZ->Ai->Prop} (I:Inv X pins σ H s) (e:H a=Aa (.ins C dx fs)) (c:Cls X.K C) (n:BG X.K C f) (hl:fs.length < 1000) (ry:Ba y u)
 (h:∀s',Inv X pins σ (upd H a (.ins C dx (Bb f y fs))) s'->Q () s'):Ar (A1 X.prog X.w) A (setAttr (.ref a) f u) Q E s:=by
 obtain ⟨mA,O,r,wi,_,ho⟩:=Lf I.hok e
 have hz:(fs.map (·.1)).length<=A5:=by rw [Aw,Fi];omega
 refine Aag I.kIn O c.sa c.po n.taker c.hd wi hz fun h' O' sb=>h _ ?_
 have hd:∃o,h'.get? dx=Aa o:=let ⟨o,_,_,e',_⟩:=O'.ns;⟨o,e'⟩
 refine I.write (x:=a) (e:=dx) (by rw [e];exact EJ) (.inr ho) (fun b q hb z=>(sb.2 b hb).trans z) hd ?_
 refine ⟨by rw [AF O.ne];exact ho,?_,O.ne,O'.obj,_,O'.ns,fun g=>?_,fun g hg=>?_⟩
 ·have:=QL f y fs;omega
 ·show CG ((Bb f y fs).lookup g) (if g=f then Aa u else mA g)
  rw [QP]
  by_cases q:g=f
  ·rw [At q,At q];exact ry
  ·rw [Ao q,Ao q];exact r g
 ·by_cases q:g=f
  ·rw [q];exact (Nr f y fs).1
  ·refine (Nr f y fs).2 g (wi g fun z=>hg ?_)
   show (if g=f then Aa u else mA g)=Ag
   rw [Ao q];exact z
theorem Inv.made (I:Inv X pins σ H s):Inv X pins σ (upd (upd H s.heap.objs.size (.own (s.heap.objs.size+1))) (s.heap.objs.size+1) (.ins C s.heap.objs.size []))
 { s with heap:=(s.heap.push FU).push (G4 C s.heap.objs.size) }:=by
 have e1:(s.heap.push FU).get? s.heap.objs.size=Aa FU:=BE s.heap rfl
 have e2:((s.heap.push FU).push (G4 C s.heap.objs.size)).get? (s.heap.objs.size+1)=Aa (G4 C s.heap.objs.size):=by
  have:=BE (s.heap.push FU) (o:=G4 C s.heap.objs.size) rfl
  rwa [Er] at this
 have e3:(s.heap.push FU).Ns s.heap.objs.size (fun _=>Ag):=⟨FU,#[],_,e1,rfl,(fun e he=>A8 he (by simp)),fun _=>rfl⟩
 have I1:=I.laid (a:=s.heap.objs.size) (o:=.own (s.heap.objs.size+1)) (h':=s.heap.push FU) (t':=s.toks) (fun b u q=>Bk _ q) (AB _) ⟨_,e1⟩
 refine I1.laid (a:=s.heap.objs.size+1) (o:=.ins C s.heap.objs.size []) (t':=s.toks) (fun b u q=>Bk _ q) (Mq (Er _ _)) ?_
 have ne:s.heap.objs.size≠s.heap.objs.size+1:=Bx (Fe _)
 refine ⟨by rw [AF ne,Ap],BQ _,ne,e2,fun _=>Ag,(Heap.Ns1.of_empty e3).at fun o q=>Bk _ q,fun _=>EJ,fun y hy=>A8 rfl hy⟩
theorem PJ {prog:AN} {w:AA} {env:BK} {e:A3} {f:Ak} {pos:Pos} {s:Ai} {Q:Ah->Ai->Prop} (hb:attributeBase e f env (eval e env)=eval e env)
 (h:Ar (A1 prog w) A (eval e env) (fun o s₁=>Ar (A1 prog w) A (getAttr o f Af) Q E s₁) E s):Ar (A1 prog w) A (eval (.Attribute e f pos) env) Q E s :=
 Attribute_any_ h (by rw [arm_eval_Attribute,hb])
end
inductive RN (K:A6) (f:Ak) (x:V) (H:Hp) (Q:VK):Prop
 | mk (a C dx:Ad) (fs:Ab (Ak × V)) (v:V):x=.ref a->H a=Aa (.ins C dx fs)->Cls K C->BG K C f->fs.lookup f=Aa v->Q v H->RN K f x H Q
noncomputable def T9 (K:A6) (ta:TE) (f:Ak):TE:=fun σ H Q=>ta σ H fun x H1=>RN K f x H1 Q
inductive RS (K:A6) (f:Ak) (y x:V) (H:Hp) (Q:Hp->Prop):Prop
 | mk (a C dx:Ad) (fs:Ab (Ak × V)):x=.ref a->H a=Aa (.ins C dx fs)->Cls K C->BG K C f->fs.length < 1000->Q (upd H a (.ins C dx (Bb f y fs)))->RS K f y x H Q
noncomputable def ZX (K:A6) (ta tv:TE) (f:Ak):TS:=fun D σ H=>tv σ H fun y H1=>ta σ H1 fun x H2=>RS K f y x H2 (D.nx σ)
section
variable {X:Cx} {o e value:A3} {f:Ak} {pos pos' tpos:Pos} {ta tv:TE}
theorem B4 (he:PE X e ta) (hb:attributeBase e f X.env (eval e X.env)=eval e X.env):PE X (.Attribute e f pos) (T9 X.K ta f):=by
 intro pins s σ H Q I h
 refine PJ hb (thn (he pins s σ H _ I h) fun u s1 hq_=>?_)
 obtain ⟨x,H1,I1,rx,a,C,dx,fs,v,ex,ea,c,n,l,q⟩:=hq_
 subst ex
 obtain rfl:u=A_ a:=rx
 exact Xm I1 ea c n l fun u' s2 I2 ru=>⟨v,H1,I2,ru,q⟩
theorem Dq (ha:PE X o ta) (hv:PE X value tv) (hs:swapsWith value (Aa (.Attribute o f pos')) pos.line X.env=pure As):PS X (.Assign [.Attribute o f pos'] value pos) (ZX X.K ta tv f):=by
 intro pins s σ H D I h
 refine plainObj_wpAny_Assign_Attribute (thn (hv pins s σ H _ I h) fun u s1 ⟨y,H1,I1,ry,q⟩=>thn (ha pins s1 σ H1 _ I1 q) fun ov s2 ⟨x,H2,I2,rx,a,C,dx,fs,ex,ea,c,n,l,q2⟩=>?_) hs
 subst ex
 obtain rfl:ov=A_ a:=rx
 exact Aap I2 ea c n l ry fun s3 I3=>⟨σ,_,I3,q2⟩
end
section
variable {X:Cx} {pins:Ab (Ad × A4)} {σ:St} {H:Hp} {s:Ai} {A:AV} {E:Ah->Ai->Prop} {Q:Ah->Ai->Prop} {c:Ah} {b:AR}
inductive C3 (K:A6) (H:Hp):V->Ah->Prop where
 | non:C3 K H .non (.type "NoneType")
 | bl (x:AR):C3 K H (.bl x) (.type "bool")
 | int (i:Ac):C3 K H (.int i) (.type "int")
 | str (x:Ak):C3 K H (.str x) (.type "str")
 | flt (x:UInt64):C3 K H (.flt x) (.type "float")
 | lst {a:Ad} {xs:Ab V} (e:H a=Aa (.lst xs)):C3 K H (.ref a) (.type "list")
 | frz {a:Ad} {o:A4} {xs:Ab V} (e:H a=Aa (.frz o (.lst xs))):C3 K H (.ref a) (.type "list")
 | tup {a:Ad} {xs:Ab V} (e:H a=Aa (.tup xs)):C3 K H (.ref a) (.type "tuple")
 | dK {a:Ad} {kvs:Ab (Key × V)} (e:H a=Aa (.dK kvs)):C3 K H (.ref a) (.type "dict")
 | dT {a:Ad} {kvs:Ab (Ab Key × V)} (e:H a=Aa (.dT kvs)):C3 K H (.ref a) (.type "dict")
 | ins {a C dx:Ad} {fs:Ab (Ak × V)} (e:H a=Aa (.ins C dx fs)) (cl:Cls K C) (ha:Bf K (.ref C) "__class__"=Aa (Aa (.builtin "object.__class__")))
  (hn:OU K (.builtin "object.__class__") "__get__"=Aa (Aa (.builtin "getset_descriptor.__get__"))) (htk:PySem.W.takesIn K (.builtin "object.__class__")=Aa Af)
  (hm:M0 K C (.type "object")=Aa Af):C3 K H (.ref a) (.ref C)
theorem XB {x:V} {u t:Ah} (I:Inv X pins σ H s) (rx:Ba x u) (ty:C3 X.K H x t) (e:Jt X.K t c=Aa b) (h:∀tk,Q (.bool b) { s with toks:=tk }) :
 Ar (A1 X.prog X.w) A (call (.builtin "isinstance") [u,c]) Q E s:=by
 cases ty with
 | non=>cases (show u=B6 from rx);exact EI PySem.W.kitx_none I.kIn EJ e (fun z=>by cases z) h
 | bl y=>cases (show u=EK y from rx);exact EI PySem.W.kitx_bool I.kIn EJ e (fun z=>by cases z) h
 | int i=>obtain ⟨t,q⟩:=(show ∃t,u=Di i t from rx);cases q;exact EI PySem.W.kitx_int I.kIn EJ e (fun z=>by cases z) h
 | str y=>obtain ⟨t,q⟩:=(show ∃t,u=Jx y t from rx);cases q;exact EI PySem.W.kitx_str I.kIn EJ e (fun z=>by cases z) h
 | flt y=>obtain ⟨t,q⟩:=(show ∃t,u=Pb y t from rx);cases q;exact EI PySem.W.kitx_float I.kIn EJ e (fun z=>by cases z) h
 | @lst a xs ea =>
   cases (show u=A_ a from rx)
   obtain ⟨_,_,n,_,h1⟩:=(show BD X.prog X.w H s.heap a (.lst xs) from I.hok a _ ea)
   exact EI V8 I.kIn ⟨_,h1,rfl⟩ e (fun z=>by cases z) h
 | @frz a ob xs ea =>
   cases (show u=A_ a from rx)
   obtain ⟨_,_,_,n,_,h1⟩:=(show BD X.prog X.w H s.heap a (.frz ob (.lst xs)) from I.hok a _ ea)
   exact EI V8 I.kIn ⟨_,h1,rfl⟩ e (fun z=>by cases z) h
 | @tup a xs ea =>
   cases (show u=A_ a from rx)
   obtain ⟨_,_,_,p⟩:=(show BD X.prog X.w H s.heap a (.tup xs) from I.hok a _ ea)
   obtain ⟨o,h1,h2,_⟩:=p
   exact EI PySem.W.kitx_tuple I.kIn ⟨o,h1,h2⟩ e (fun z=>by cases z) h
 | @dK a kvs ea =>
   cases (show u=A_ a from rx)
   obtain ⟨_,_,vs,_,p⟩:=(show BD X.prog X.w H s.heap a (.dK kvs) from I.hok a _ ea)
   obtain ⟨o,es,ep,h1,h2,_⟩:=p
   exact EI V7 I.kIn ⟨o,h1,h2.1⟩ e (fun z=>by cases z) h
 | @dT a kvs ea =>
   cases (show u=A_ a from rx)
   obtain ⟨_,_,xs,_,o,es,ep,h1,h2,_⟩:=(show BD X.prog X.w H s.heap a (.dT kvs) from I.hok a _ ea)
   exact EI V7 I.kIn ⟨o,h1,h2.1⟩ e (fun z=>by cases z) h
 | @ins a C dx fs ea cl ha hn htk hm =>
   cases (show u=A_ a from rx)
   obtain ⟨mA,O,_⟩:=Lf I.hok ea
   obtain ⟨od,J,_⟩:=O.look
   exact EI (PySem.W.kitx_own (cl.get _) cl.hd ha hn htk hm) I.kIn J e (fun z=>by cases z) h
end
end L2
namespace L2
open PySem PySem.Spec PyProof.Rows
structure Cc (k:Ae) (A:AV):Prop where
 hd:A.handled=Ag
 dp:A.depth+3*k+5 < recursionLimit
 un:A.units+16*k+200 < cLine
theorem Cc.mono {j k:Ae} {A:AV} (r:Cc k A) (h:j<=k):Cc j A:=⟨r.hd,by have:=r.dp;omega,by have:=r.un;omega⟩
theorem Cc.deeper {k:Ae} {A:AV} (r:Cc (k+1) A) (env:BK):Cc k (A.deeper env) :=
 ⟨r.hd,by have:=r.dp;show A.depth+1+3*k+5 < _;omega,by have:=r.un;show A.units+3+16*k+200 < _;omega⟩
theorem Yd {A:AV} {C:Ad} {us:Ab Ah} {kw:Ab (Ak × Ah)}:(A.under (.builtin "type.__call__" ⟨.ref C :: us,kw⟩)).depth=A.depth+1:=by
 first | rfl | simp [N',Code.weight,Code.isCreation,Code.isGuard,Code.isCaller,Code.frames,Og,guardIds]
theorem Yg {A:AV} {C:Ad} {us:Ab Ah} {kw:Ab (Ak × Ah)}:(A.under (.builtin "type.__call__" ⟨.ref C :: us,kw⟩)).units=A.units+1:=by
 first | rfl | simp [N',Code.cUnits,Code.frames,Og]
theorem Cc.make {k:Ae} {A:AV} (r:Cc (k+1) A) (C:Ad) (us:Ab Ah) (kw:Ab (Ak × Ah)):Cc k (A.under (.builtin "type.__call__" ⟨.ref C :: us,kw⟩)) :=
 ⟨r.hd,by have:=r.dp;rw [Yd];omega,by have:=r.un;rw [Yg];omega⟩
theorem Cc.depth {k:Ae} {A:AV} (r:Cc k A):A.depth < recursionLimit:=by have:=r.dp;omega
theorem Cc.units {k:Ae} {A:AV} (r:Cc k A):A.units+64 < cLine:=by have:=r.un;omega
theorem Cc.units0 {k:Ae} {A:AV} (r:Cc k A):A.units < cLine:=by have:=r.un;omega
noncomputable def TC:TA:=fun _ H Q=>Q [] H
noncomputable def AaG (ta:TE) (tr:TA):TA:=fun σ H Q=>ta σ H fun x H1=>tr σ H1 fun xs H2=>Q (x :: xs) H2
section
variable {X:Cx} {e:A3} {es:Ab A3} {te:TE} {t:TA} {pos:Pos}
theorem Am:PA X [] TC:=fun _ _ _ _ H Q I h=>FI ⟨[],H,I,.nil,h⟩
theorem Aj (ha:PE X e te) (hr:PA X es t) (hs:Bh (e :: es) X.env=(As,eval e X.env) :: Bh es X.env:=by rfl):PA X (e :: es) (AaG te t):=by
 intro pos pins s σ H Q I h
 rw [hs]
 show Ar _ _ (spliced ((As,eval e X.env) :: backTo pos (Bh es X.env))) _ _ s
 refine E_ (thn (ha pins s σ H _ I h) fun u s1 hq_=>?_)
 obtain ⟨x,H1,I1,r1,q1⟩:=hq_
 refine thn (hr pos pins s1 σ H1 _ I1 q1) fun us s2 hq_=>?_
 obtain ⟨xs,H2,I2,r2,q2⟩:=hq_
 exact ⟨x :: xs,H2,I2,.cons r1 r2,q2⟩
noncomputable def Aa' (t:TA):TE:=fun σ H Q=>t σ H fun xs H1=>xs.length<=A5/\∀p,H1 p=Ag->Q (.ref p) (upd H1 p (.tup xs))
noncomputable def AaP (t:TA):TE:=fun σ H Q=>t σ H fun xs H1=>xs.length<=A5/\∀p,H1 p=Ag->Q (.ref p) (upd H1 p (.lst xs))
theorem BI {x1} (h:PA X es t):PE X (.Tuple es x1 pos) (Aa' t):=by
 intro pins s σ H Q I hq
 refine wpAny_Tuple_spliced (thn (h pos pins s σ H _ I hq) fun us s1 hq_=>?_)
 obtain ⟨xs,H1,I1,r,z,q⟩:=hq_
 refine ⟨by rw [<- r.length];exact z,?_⟩
 have hf:H1 s1.heap.objs.size=Ag:=I1.hok.fresh (AB _)
 refine ⟨.ref s1.heap.objs.size,upd H1 s1.heap.objs.size (.tup xs),I1.laid (t':=s1.toks) (fun b u e=>Bk _ e) (AB _) ?_,rfl,q _ hf⟩
 exact ⟨z,us,r,⟨_,BE _ rfl,rfl,_,rfl⟩⟩
theorem Cz (h:PA X es t):PE X (.List es pos) (AaP t):=by
 intro pins s σ H Q I hq
 refine wpAny_List_spliced (thn (h pos pins s σ H _ I hq) fun us s1 hq_=>?_)
 obtain ⟨xs,H1,I1,r,z,q⟩:=hq_
 refine ⟨by rw [<- r.length];exact z,?_⟩
 have hf:H1 s1.heap.objs.size=Ag:=I1.hok.fresh (AB _)
 refine ⟨.ref s1.heap.objs.size,upd H1 s1.heap.objs.size (.lst xs),I1.laid (t':=s1.toks) (fun b u e=>Bk _ e) (AB _) ?_,rfl,q _ hf⟩
 exact ⟨z,us,0,r,BE _ rfl⟩
end
abbrev Sp:=Ab V->Hp->VK->XK->Prop
abbrev CXT:=Ab BK->Hp->Ai->XK->Ah->Ai->Prop
structure G8 (P:AN) (w:AA) (K:A6) (mg:Ak->Ay Ah) (base:AC) (A:AV) (outer:Ab BK) (s:Ai) (H:Hp):Prop where
 frames:A.frames=Aa outer
 mod:Mod K mg base
 bs:∀b o,base.get? b=Aa o->s.heap.get? b=Aa o/\H b=Ag
 bsz:base.objs.size<=s.heap.objs.size
 funs:s.heap.FunFrames base outer
 frf:∀b∈frs outer,H b=Ag
 hok:HOk P w H s.heap
 bare:FG s.gens
noncomputable def CE (outer:Ab BK) (P:AN) (w:AA) (H:Hp) (s:Ai) (Q:VK) (u:Ah) (s':Ai):Prop :=
 ∃v H',s'.os=s.os/\FG s'.gens/\Un (frs outer) [] H H' s.heap s'.heap/\HOk P w H' s'.heap/\Ba v u/\Q v H'
noncomputable def CR (CX:CXT) (outer:Ab BK) (P:AN) (w:AA) (H:Hp) (s:Ai) (Q:VK) (E:XK) (r:Jv) (s':Ai):Prop :=
 match r with
 | .ok (.ret u)=>CE outer P w H s Q u s'
 | .ok _=>B5
 | .error e=>CX outer H s E e s'
structure AG (P:AN) (w:AA) (K:A6) (mg:Ak->Ay Ah) (base:AC) (CX:CXT) (k:Ae) (f:Ad) (fd:AE) (ps:Ab Ak) (sp:Sp):Prop where
 len:∀vs H Q E,sp vs H Q E->vs.length=ps.length
 run:∀(A:AV) (outer:Ab BK) (s:Ai) (H:Hp) (args:Args) (us:Ab Ah) (vs:Ab V) (Q:VK) (E:XK),Cc k A->G8 P w K mg base A outer s H->Jc s fd args (ps.zip us)->AW vs us->sp vs H Q E ->
  codeAny (A1 P w) A (.call (.ref f) args) (CR CX outer P w H s Q E) s
theorem G8.make {P:AN} {w:AA} {K:A6} {mg:Ak->Ay Ah} {base:AC} {A:AV} {outer:Ab BK} {s:Ai} {H:Hp} (e:G8 P w K mg base A outer s H) (C:Ad) (us:Ab Ah) (kw:Ab (Ak × Ah)) :
 G8 P w K mg base (A.under (.builtin "type.__call__" ⟨.ref C :: us,kw⟩)) outer s H:=⟨by first | exact e.frames | (simpa [N',Code.envs,Og,pushEnvs] using e.frames),e.mod,e.bs,e.bsz,e.funs,e.frf,e.hok,e.bare⟩
section
variable {X:Cx} {pins:Ab (Ad × A4)} {σ:St} {H:Hp} {s s':Ai}
theorem Inv.env0 (I:Inv X pins σ H s):G8 X.prog X.w X.K X.mg X.base X.A X.stack s H :=
 ⟨I.ok.frames,I.ok.mod,I.bs,CK I.ok.bsz I.sz,I.stack,I.stkFree,I.hok,I.bare⟩
theorem Inv.after {Q:VK} {u:Ah} (I:Inv X pins σ H s) (h:CE X.stack X.prog X.w H s Q u s'):EP X pins σ Q u s':=by
 obtain ⟨v,H',os,bare,un,hok,r,q⟩:=h
 obtain ⟨hh,g,d,t,os'⟩:=s'
 obtain rfl:os'=s.os:=os
 exact ⟨v,H',I.call (h':=hh) (g':=g) (d':=d) (t':=t) (ch:=[]) un hok bare (fun b z=>A8 z (by simp)),r,q⟩
end
noncomputable def T7 (sp:Sp) (dvs:Ab V) (E:XK) (t:TA):TE:=fun σ H Q=>t σ H fun vs H1=>sp (vs++dvs) H1 Q E
inductive RQ (C:Ad) (m:Ak) (sp:Sp) (dvs:Ab V) (E:XK) (t:TA) (σ:St) (x:V) (H:Hp) (Q:VK):Prop
 | mk (a dx:Ad) (fs:Ab (Ak × V)):x=.ref a->H a=Aa (.ins C dx fs)->fs.lookup m=Ag->(t σ H fun vs H2=>sp (x :: (vs++dvs)) H2 Q E)->RQ C m sp dvs E t σ x H Q
noncomputable def TB (C:Ad) (m:Ak) (sp:Sp) (dvs:Ab V) (E:XK) (ta:TE) (t:TA):TE:=fun σ H Q=>ta σ H fun x H1=>RQ C m sp dvs E t σ x H1 Q
noncomputable def AaQ (C:Ad) (sp:Sp) (dvs:Ab V) (E:XK) (t:TA):TE:=fun σ H Q=>t σ H fun vs H1=>∀x dx,H1 x=Ag->H1 dx=Ag->dx≠x ->
 sp (.ref x :: (vs++dvs)) (upd (upd H1 dx (.own x)) x (.ins C dx [])) (fun v H2=>v=.non/\Q (.ref x) H2) E
noncomputable def AI (K:A6) (fd:AE) (ps:Ab Ak) (ds:Ab Ah):Prop :=
 ∀(s:Ai) (us:Ab Ah),K.In s.heap->(us++ds).length=ps.length->Jc s fd ⟨us,[]⟩ (ps.zip (us++ds))
theorem AI.all {K:A6} {fd:AE} {ps:Ab Ak} (h:∀us:Ab Ah,us.length=ps.length->bindArgs fd ⟨us,[]⟩=pure (ps.zip us)):AI K fd ps []:=fun s us _ hl=>by
 rw [FK] at hl ⊢
 exact .of_eq (h us hl)
noncomputable def Gc (CX:CXT) (X:Cx) (E:XK):Prop:=∀(pins:Ab (Ad × A4)) (σ:St) (H:Hp) (s:Ai) (e:Ah) (s':Ai),Inv X pins σ H s->CX X.stack H s E e s'->X.xe e s'
section
variable {X:Cx} {CX:CXT} {k:Ae} {f C:Ad} {fd:AE} {ps:Ab Ak} {sp:Sp} {dvs:Ab V} {ds:Ab Ah} {E:XK} {x m:Ak} {p pos apos:Pos} {e o:A3} {es:Ab A3} {ta:TE} {t:TA}
theorem Lu {pins:Ab (Ad × A4)} {σ:St} {H:Hp} {s:Ai} {Q:VK} {us:Ab Ah} {vs:Ab V} (F:AG X.prog X.w X.K X.mg X.base CX k f fd ps sp) (hr:Cc k X.A) (hb:AI X.K fd ps ds) (hd:AW dvs ds) (hx:Gc CX X E)
 (I:Inv X pins σ H s) (r:AW vs us) (h:sp (vs++dvs) H Q E):Ar (A1 X.prog X.w) X.A (call (.ref f) us) (EP X pins σ Q) X.xe s:=by
 have r2:AW (vs++dvs) (us++ds):=r.append hd
 have hl:(us++ds).length=ps.length:=by rw [<- r2.length];exact F.len _ _ _ _ h
 refine KL (Eg (F.run X.A X.stack s H ⟨us,[]⟩ (us++ds) (vs++dvs) Q E hr I.env0 (hb s us I.kIn hl) r2 h) fun r s' hq=>?_)
 cases r with
 | error e=>exact hx pins σ H s e s' I hq
 | ok fl =>
   cases fl with
   | ret u=>exact I.after hq
   | next=>exact DZ hq
   | brk=>exact DZ hq
   | cont=>exact DZ hq
theorem YK (F:AG X.prog X.w X.K X.mg X.base CX k f fd ps sp) (hr:Cc k X.A) (hg:Gl X x) (hm:X.mg x=Aa (.ref f)) (hk:AL X.K (.ref f)=Af) (hb:AI X.K fd ps ds) (hd:AW dvs ds) (hx:Gc CX X E)
 (ha:PA X (e :: es) t) (hdb:(x == ("__debug__":Ak))=As:=by decide) (he:Bh (e :: es) X.env=(As,eval e X.env) :: Bh es X.env:=by rfl) (hpl:(backTo pos (Bh es X.env)).any (·.1)=As:=by rfl) :
 PE X (.Call (.Name x p) (e :: es) [] pos) (T7 sp dvs E t):=by
 intro pins s σ H Q I h
 refine EL (JX I hg hm ?_ hdb)
 refine Mx (h₀:=X.base) I.ok.mod.kin hk (thn (ha pos pins s σ H _ I h) fun us s1 ⟨vs,H1,I1,r,q⟩=>⟨I1.kIn,?_⟩) he hpl
 exact Lu F hr hb hd hx I1 r q
theorem YQ {pl:C2 AR} (he:PE X o ta) (c:Cls X.K C) (hm:Cb X.K C m f) (F:AG X.prog X.w X.K X.mg X.base CX k f fd ps sp) (hr:Cc k X.A) (hb:AI X.K fd ps ds) (hd:AW dvs ds) (hx:Gc CX X E) (ha:PA X (e :: es) t)
 (hst:Bh (e :: es) X.env=(As,eval e X.env) :: Bh es X.env:=by rfl) (hpl:(backTo pos (Bh es X.env)).any (·.1)=As:=by rfl)
 (ht:eval (.Call (.Attribute o m apos) (e :: es) [] pos) X.env=(do
  let ov <- eval o X.env
  standAt apos.atName
  let (f,first) <- holding [ov] (getMethod ov m pl)
  callWith pos f first (backTo pos (Bh (e :: es) X.env)) (backToKw pos (keywordEach [] X.env))):=by rfl) :
 PE X (.Call (.Attribute o m apos) (e :: es) [] pos) (TB C m sp dvs E ta t):=by
 intro pins s σ H Q I h
 refine OR (pl:=pl) (thn (he pins s σ H _ I h) fun u s1 ⟨x,H1,I1,rx,a,dx,fs,ex,ea,l,q⟩=>?_) ht
 subst ex
 obtain rfl:u=A_ a:=rx
 refine Q1 I1 ea c hm l ?_
 refine Mx (first:=[.ref a]) (h₀:=X.base) I.ok.mod.kin hm.kp (thn (ha pos pins s1 σ H1 _ I1 q) fun us s2 ⟨vs,H2,I2,r,q2⟩=>⟨I2.kIn,?_⟩) hst hpl
 exact Lu (us:=.ref a :: us) (vs:=.ref a :: vs) F hr hb hd hx I2 (.cons rfl r) q2
theorem CP {pl:C2 AR} (he:PE X o ta) (c:Cls X.K C) (hm:Cb X.K C m f) (F:AG X.prog X.w X.K X.mg X.base CX k f fd ps sp) (hr:Cc k X.A) (hb:AI X.K fd ps ds) (hd:AW dvs ds) (hx:Gc CX X E)
 (ht:eval (.Call (.Attribute o m apos) [] [] pos) X.env=(do
  let ov <- eval o X.env
  standAt apos.atName
  let (f,first) <- holding [ov] (getMethod ov m pl)
  callWith pos f first (backTo pos (Bh [] X.env)) (backToKw pos (keywordEach [] X.env))):=by rfl) :
 PE X (.Call (.Attribute o m apos) [] [] pos) (TB C m sp dvs E ta TC):=by
 intro pins s σ H Q I h
 refine OR (pl:=pl) (thn (he pins s σ H _ I h) fun u s1 ⟨x,H1,I1,rx,a,dx,fs,ex,ea,l,q⟩=>?_) ht
 subst ex
 obtain rfl:u=A_ a:=rx
 refine Q1 I1 ea c hm l ?_
 exact PySem.W.callWith_K0 (first:=[.ref a]) I1.kIn hm.kp (Lu (us:=[.ref a]) (vs:=[.ref a]) F hr hb hd hx I1 (.cons rfl .nil) q)
structure Mk (K:A6) (C f:Ad):Prop where
 makes:Ju K C=Af
 init:Bf K (.ref C) "__init__"=Aa (Aa (.ref f))
 fn:BN K (.ref f)=Af
 kp:AL K (.ref C)=Af
theorem ZV {pins:Ab (Ad × A4)} {σ:St} {H:Hp} {s:Ai} {Q:VK} {us:Ab Ah} {vs:Ab V} (M:Mk X.K C f) (F:AG X.prog X.w X.K X.mg X.base CX k f fd ps sp) (hr:Cc (k+1) X.A) (hb:AI X.K fd ps ds) (hd:AW dvs ds)
 (hx:Gc CX X E) (I:Inv X pins σ H s) (r:AW vs us)
 (h:∀x dx,H x=Ag->H dx=Ag->dx≠x->sp (.ref x :: (vs++dvs)) (upd (upd H dx (.own x)) x (.ins C dx [])) (fun v H2=>v=.non/\Q (.ref x) H2) E) :
 Ar (A1 X.prog X.w) X.A (call (.ref C) us) (EP X pins σ Q) X.xe s:=by
 have hq:=h (s.heap.objs.size+1) s.heap.objs.size (I.hok.fresh (Ec _)) (I.hok.fresh (AB _)) (Bx (Fe _))
 have I2:=Inv.made (C:=C) I
 have r2:AW (V.ref (s.heap.objs.size+1) :: (vs++dvs)) (A_ (s.heap.objs.size+1) :: (us++ds)):=.cons rfl (r.append hd)
 have hl:(A_ (s.heap.objs.size+1) :: us++ds).length=ps.length:=by
  have e:=r2.length
  rw [F.len _ _ _ _ hq] at e
  exact e.symm
 refine KL (Ye (f:=f) I.kIn M.makes M.init (beq_iff_eq.mp M.fn) (Eg (F.run _ X.stack _ _ ⟨A_ (s.heap.objs.size+1) :: us,[]⟩ (A_ (s.heap.objs.size+1) :: (us++ds)) _ _ E (hr.make C us [])
  (I2.env0.make C us []) (hb _ (A_ (s.heap.objs.size+1) :: us) I2.kIn hl) r2 hq) fun r s' hq'=>?_))
 cases r with
 | error e=>exact hx pins σ _ _ e s' I2 hq'
 | ok fl =>
   cases fl with
   | ret u =>
     obtain ⟨v,H',I3,rv,ev,q3⟩:=I2.after hq'
     subst ev
     exact ⟨rv,⟨V.ref (s.heap.objs.size+1),H',I3,rfl,q3⟩⟩
   | next=>exact DZ hq'
   | brk=>exact DZ hq'
   | cont=>exact DZ hq'
theorem HQ (M:Mk X.K C f) (F:AG X.prog X.w X.K X.mg X.base CX k f fd ps sp) (hr:Cc (k+1) X.A) (hg:Gl X x) (hm:X.mg x=Aa (.ref C)) (hb:AI X.K fd ps ds) (hd:AW dvs ds) (hx:Gc CX X E)
 (ha:PA X (e :: es) t) (hdb:(x == ("__debug__":Ak))=As:=by decide) (he:Bh (e :: es) X.env=(As,eval e X.env) :: Bh es X.env:=by rfl) (hpl:(backTo pos (Bh es X.env)).any (·.1)=As:=by rfl) :
 PE X (.Call (.Name x p) (e :: es) [] pos) (AaQ C sp dvs E t):=by
 intro pins s σ H Q I h
 refine EL (JX I hg hm ?_ hdb)
 refine Mx (h₀:=X.base) I.ok.mod.kin M.kp (thn (ha pos pins s σ H _ I h) fun us s1 ⟨vs,H1,I1,r,q⟩=>⟨I1.kIn,?_⟩) he hpl
 exact ZV M F hr hb hd hx I1 r q
end
section
variable {X:Cx} {CX:CXT} {k:Ae} {f C:Ad} {fd:AE} {ps ks:Ab Ak} {sp:Sp} {E:XK} {x m:Ak} {p pos apos kpos:Pos} {e o:A3} {es:Ab A3} {kws:Ab Gz} {te ta:TE} {t tk:TA} {nm:Ay Ak}
variable {g:Ab Ah->Ab Ah->Ab Ah} {gV:Ab V->Ab V->Ab V}
end
structure AT (N P:Ab Ak) (sc:B1):Prop where
 kind:sc.kind=.function
 co:sc.isCoroutine=As
 gen:sc.isGenerator=As
 nd:N.Nodup
 pre:N.take P.length=P
 par:∀x∈P,sc.names.lookup x=Aa .local\/sc.names.lookup x=Aa .cell
 nofree:∀y∈sc.names,y.2≠.free
theorem PR {kindOf:Ak->Ay FQ} {x:Ak}:∀{binds:Ab (Ak × Ah)} {m:Ak->Ay Ah},(∀v,(x,v) ∉ binds)->bindL kindOf binds m x=m x
 | [],_,_=>rfl
 | (n,v) :: r,m,h=>by
   unfold bindL
   rw [PR fun w hw=>h w (Bv _ hw)]
   split
   ·have:x≠n:=by rintro rfl;exact h v Bw
    simp [this]
   ·rfl
theorem PP {kindOf:Ak->Ay FQ} {x:Ak}:∀{binds:Ab (Ak × Ah)} {m:Ak->Ay Ah},(∀v,(x,v) ∉ binds)->bindC kindOf binds m x=m x
 | [],_,_=>rfl
 | (n,v) :: r,m,h=>by
   unfold bindC
   rw [PP fun w hw=>h w (Bv _ hw)]
   split
   ·rfl
   ·have:x≠n:=by rintro rfl;exact h v Bw
    simp [this]
theorem PQ {kindOf:Ak->Ay FQ} {x:Ak} {v:Ah}:∀{P:Ab Ak} {vs:Ab Ah} {i:Ae} {m:Ak->Ay Ah},P.Nodup->P[i]?=Aa x->vs[i]?=Aa v->kindOf x=Aa .local ->
 bindL kindOf (P.zip vs) m x=Aa v
 | [],_,_,_,_,h,_,_=>by simp at h
 | _ :: _,[],_,_,_,_,h,_=>by simp at h
 | p :: P,w :: vs,0,m,nd,h1,h2,hk=>by
   simp at h1 h2;subst h1;subst h2
   show bindL kindOf ((p,w) :: P.zip vs) m p=_
   unfold bindL
   rw [PR fun v hv=>(List.nodup_cons.mp nd).1 (O7 hv).1,At hk]
   simp
 | p :: P,w :: vs,i+1,m,nd,h1,h2,hk=>by
   show bindL kindOf ((p,w) :: P.zip vs) m x=_
   unfold bindL
   exact PQ (i:=i) (List.nodup_cons.mp nd).2 (by simpa using h1) (by simpa using h2) hk
theorem PN {kindOf:Ak->Ay FQ} {x:Ak} {v:Ah}:∀{P:Ab Ak} {vs:Ab Ah} {i:Ae} {m:Ak->Ay Ah},P.Nodup->P[i]?=Aa x->vs[i]?=Aa v->kindOf x≠Aa .local ->
 bindC kindOf (P.zip vs) m x=Aa v
 | [],_,_,_,_,h,_,_=>by simp at h
 | _ :: _,[],_,_,_,_,h,_=>by simp at h
 | p :: P,w :: vs,0,m,nd,h1,h2,hk=>by
   simp at h1 h2;subst h1;subst h2
   show bindC kindOf ((p,w) :: P.zip vs) m p=_
   unfold bindC
   rw [PP fun v hv=>(List.nodup_cons.mp nd).1 (O7 hv).1,Ao hk]
   simp
 | p :: P,w :: vs,i+1,m,nd,h1,h2,hk=>by
   show bindC kindOf ((p,w) :: P.zip vs) m x=_
   unfold bindC
   exact PN (i:=i) (List.nodup_cons.mp nd).2 (by simpa using h1) (by simpa using h2) hk
noncomputable def FD (N:Ab Ak) (vs:Ab V):St:=vs.map Aa++Ct (N.length - vs.length) Ag
noncomputable def GC (CX:CXT) (P:AN) (w:AA) (K:A6) (mg:Ak->Ay Ah) (base:AC) (N:Ab Ak) (qual:Ak) (scope:B1) (f:Ad) (cd:Ah) (A:AV) (outer:Ab BK) (s:Ai) (H:Hp) (E:XK):Cx where
 prog:=P
 w:=w
 K:=K
 mg:=mg
 base:=base
 A:=A.deeper (envOfC qual scope s.heap.objs.size f cd)
 N:=N
 s₀:=s
 H₀:=H
 env:=envOfC qual scope s.heap.objs.size f cd
 outer:=outer
 stack:=envOfC qual scope s.heap.objs.size f cd :: outer
 ex:=[]
 calm:=Af
 fn:=fun _=>Af
 pn:=[]
 xe:=fun e s'=>Ar (A1 P w) (A.deeper (envOfC qual scope s.heap.objs.size f cd)) (leaving (envOfC qual scope s.heap.objs.size f cd) e) (fun _ s''=>CX outer H s E e s'') (fun e' s''=>CX outer H s E e' s'') s'
theorem Qa {sc:B1} {n:Ae} {x:Ak} (h:sc.names.lookup x=Aa .cell):∃c,(cellsFrom n sc.names []).lookup x=Aa c:=by
 have q:=V3 sc.names n [] (.inl h)
 exact Option.isSome_iff_exists.mp q
theorem X9 {CX:CXT} {P:AN} {w:AA} {K:A6} {mg:Ak->Ay Ah} {base:AC} {N ps:Ab Ak} {qual:Ak} {scope:B1} {f:Ad} {cd:Ah} {A:AV} {outer:Ab BK} {s s1:Ai} {H:Hp} {E:XK} {us:Ab Ah} {vs:Ab V}
 (S:AT N ps scope) (hd:A.handled=Ag) (e0:G8 P w K mg base A outer s H) (hl:vs.length=ps.length) (r:AW vs us)
 (x:InCallC s s.heap.objs.size (bindL (envOfC qual scope s.heap.objs.size f cd).kindOf (ps.zip us) fun _=>Ag) (cellsFrom (s.heap.objs.size+1) scope.names []) (bindC (envOfC qual scope s.heap.objs.size f cd).kindOf (ps.zip us) fun _=>Ag) s1) :
 Inv (GC CX P w K mg base N qual scope f cd A outer s H E) [] (FD N vs) H s1:=by
 have hpl:ps.length<=N.length:=by have:=BR EE S.pre;rw [DP] at this;omega
 obtain ⟨h1,tk,rfl,hk⟩:=x.done
 have noA:∀b:Ad,b ∉ (GC CX P w K mg base N qual scope f cd A outer s H E).ex:=fun b z=>A8 (show b∈([]:Ab Ad) from z) (by simp)
 refine ⟨⟨e0.mod,S.kind,rfl,rfl,AB _,fun y z c h1 h2=>?_,fun y hy=>?_,fun y c _ h=>?_,fun _=>hd,Around.frames_deeper e0.frames,.inr ⟨rfl,rfl⟩,fun b z=>A8 z (noA b),e0.bs,e0.bsz,fun b _ _=>noA b,fun b z=>A8 z (noA b),e0.funs,e0.frf⟩,
  rfl,e0.bare,Un.kept hk,⟨_,x.toInCall.ns,fun i y v h1 h2 h3=>?_⟩,fun y c h=>⟨_,x.cell y c h⟩,e0.hok.fresh (AB _),fun y c h=>?_,fun p hp=>A8 (show p∈([]:Ab (Ad × A4)) from hp) (by simp),e0.hok.kept hk,?_⟩
 ·exact name_of_addr x.apart (Ff h1) (Ff h2)
 ·have hy:scope.names.lookup y=Aa .cell\/scope.names.lookup y=Aa .free:=hy
  rcases hy with hy | hy
  ·exact Qa hy
  ·exact A8 rfl (S.nofree _ (Ff hy))
 ·exact EG (x.above y c (Ff h))
 ·have hi:i < vs.length:=by
   unfold FD at h2
   by_cases hi:i < vs.length
   ·exact hi
   ·rw [Jj (by simpa using hi)] at h2
    rw [Oz] at h2
    split at h2 <;> cases h2
  have ha:vs[i]?=Aa v:=by
   unfold FD at h2
   rw [K6 (by simpa using hi),Bm] at h2
   cases e:vs[i]? with
   | none=>rw [e] at h2;cases h2
   | some a=>rw [e] at h2;cases h2;rfl
  obtain ⟨u,hu,rv⟩:=r.get ha
  have hp:ps[i]?=Aa y:=by
   rw [<- S.pre,List.getElem?_take_of_lt (by omega)];exact h1
  have ndP:ps.Nodup:=by rw [<- S.pre];exact S.nd.sublist (List.take_sublist _ _)
  refine ⟨u,rv,?_⟩
  rcases S.par y (Br hp) with k | k
  ·exact .inl ⟨k,PQ ndP hp hu k⟩
  ·obtain ⟨c,e⟩:=Qa (n:=s.heap.objs.size+1) k
   refine .inr ⟨.inl k,c,e,?_⟩
   have q:=x.cell y c e
   rw [PN ndP hp hu (by show scope.names.lookup y≠_;rw [k];decide)] at q
   exact q
 ·exact e0.hok.fresh (EG (x.above y c (Ff h)))
 ·unfold FD
  show _=N.length
  rw [B9,Aw,Fc]
  omega
theorem Qx {CX:CXT} {P:AN} {w:AA} {K:A6} {mg:Ak->Ay Ah} {base:AC} {k:Ae} {f:Ad} {name qual:Ak} {params:Km} {body:Ab AD} {scope:B1} {dV kV doc pm cdv ct oc:Ah} {an od:Ay Ad}
 {osl:A7 (Ay Ah)} {N ps:Ab Ak} {sp:Sp} (lk:K.lookup f=Aa ⟨oc,od,.func (AK name qual params body scope dV kV doc pm an cdv ct),osl⟩) (hcd:AS K cdv qual=Af) (S:AT N ps scope)
 (len:∀vs H Q E,sp vs H Q E->vs.length=ps.length)
 (hbody:∀(A:AV) (outer:Ab BK) (s:Ai) (H:Hp) (vs:Ab V) (Q:VK) (E:XK),Cc k (A.deeper (envOfC qual scope s.heap.objs.size f cdv))->sp vs H Q E ->
  ∃t,PSs (GC CX P w K mg base N qual scope f cdv A outer s H E) body t/\t { nx:=fun _ H'=>Q .non H',rt:=Q } (FD N vs) H) :
 AG P w K mg base CX (k+1) f (AK name qual params body scope dV kV doc pm an cdv ct) ps sp:=by
 refine ⟨len,fun A outer s H args us vs Q E hr e0 hb r hsp=>?_⟩
 have hl:=len _ _ _ _ hsp
 have KX:K.In s.heap:=e0.mod.kin.keeps fun b o e=>(e0.bs b o e).1
 have lim:s.heap.NoLimit:=e0.mod.nolimit.keeps fun b o e=>(e0.bs b o e).1
 have hkind:∀y∈ps.zip us,scope.names.lookup y.1=Aa .local\/(scope.names.lookup y.1=Aa .cell/\((cellsFrom (s.heap.objs.size+1) scope.names []).lookup y.1).isSome=Af):=fun ⟨n,v⟩ hy=>by
  rcases S.par n (O7 hy).1 with q | q
  ·exact .inl q
  ·exact .inr ⟨q,V3 _ _ _ (.inl q)⟩
 refine codeAny_call_function hr.depth (KX _ _ lk) rfl S.co S.gen rfl (PySem.W.codeRec_of KX hcd) (hb _ _ _ _ ?_)
 refine wpAny_newFunctionEnv_cells S.kind hkind fun env he s1 x=>?_
 subst he
 refine ⟨lim.keeps x.toInCall.keep,codeAny_func ?_⟩
 obtain ⟨t,ht,hq⟩:=hbody A outer s H vs Q E (hr.deeper _) hsp
 have I:Inv (GC CX P w K mg base N qual scope f cdv A outer s H E) [] (FD N vs) H s1:=X9 S hr.hd e0 hl r x
 refine DE (ht [] s1 (FD N vs) H _ I hq) (fun fl s' hs=>?_) fun e s' hs=>hs
 have fin:∀{σ':St} {H':Hp} {v:V} {u:Ah},Inv (GC CX P w K mg base N qual scope f cdv A outer s H E) [] σ' H' s'->Ba v u->Q v H'->CE outer P w H s Q u s' :=
  fun {σ' H' v u} J rv q=>⟨v,H',J.os,J.bare,J.base,J.hok,rv,q⟩
 cases fl with
 | ret u =>
   obtain ⟨v,σ',H',J,rv,q⟩:=hs
   exact fin J rv q
 | next =>
   obtain ⟨σ',H',J,q⟩:=hs
   exact fin (v:=V.non) (u:=B6) J rfl q
 | brk =>
   obtain ⟨_,_,_,q⟩:=hs
   exact DZ q
 | cont =>
   obtain ⟨_,_,_,q⟩:=hs
   exact DZ q
end L2
namespace L2
open PySem PySem.Spec PyProof.Rows
section
variable {X:Cx} {x:Ak} {p pos:Pos} {e:A3} {es:Ab A3} {t:TA} {id T:CN} {r:Ab V->Hp->VK->Prop}
noncomputable def tCB (r:Ab V->Hp->VK->Prop) (t:TA):TE:=fun σ H Q=>t σ H fun vs H1=>r vs H1 Q
theorem B2 (hc:Dk X (.builtin id) r) (hg:Gl X x) (hm:X.mg x=Ag) (hv:bootBuiltins x=Aa (.builtin id)) (ha:PA X (e :: es) t) (hn:x≠"__name__":=by decide) (hdb:(x == ("__debug__":Ak))=As:=by decide)
 (he:Bh (e :: es) X.env=(As,eval e X.env) :: Bh es X.env:=by rfl) (hpl:(backTo pos (Bh es X.env)).any (·.1)=As:=by rfl):PE X (.Call (.Name x p) (e :: es) [] pos) (tCB r t):=by
 intro pins s σ H Q I h
 refine EL (Dx I hg hm hv ?_ hn hdb)
 exact PyProof.Rows.callWith_builtin1 (thn (ha pos pins s σ H _ I h) fun us s1 ⟨vs,H1,I1,r1,q1⟩=>hc pins s1 σ H1 vs us Q I1 r1 q1) he hpl
theorem EU (hc:Dk X (.type T) r) (hg:Gl X x) (hm:X.mg x=Ag) (hv:bootBuiltins x=Aa (.type T)) (ha:PA X (e :: es) t) (hn:x≠"__name__":=by decide) (hdb:(x == ("__debug__":Ak))=As:=by decide)
 (he:Bh (e :: es) X.env=(As,eval e X.env) :: Bh es X.env:=by rfl) (hpl:(backTo pos (Bh es X.env)).any (·.1)=As:=by rfl):PE X (.Call (.Name x p) (e :: es) [] pos) (tCB r t):=by
 intro pins s σ H Q I h
 refine EL (Dx I hg hm hv ?_ hn hdb)
 exact Jq (thn (ha pos pins s σ H _ I h) fun us s1 ⟨vs,H1,I1,r1,q1⟩=>hc pins s1 σ H1 vs us Q I1 r1 q1) he hpl
end
end L2
namespace HT
open PySem PyProof.Rows
noncomputable def lexLt:Ab Ac->Ab Ac->AR
 | [],[]=>As
 | [],_ :: _=>Af
 | _ :: _,[]=>As
 | x :: xs,y :: ys=>if x=y then lexLt xs ys else decide (x < y)
theorem lexLt_cons (x y:Ac) (xs ys:Ab Ac):lexLt (x :: xs) (y :: ys)=if x=y then lexLt xs ys else decide (x < y):=rfl
theorem XV:lexLt [] []=As:=rfl
theorem XU (y:Ac) (ys:Ab Ac):lexLt [] (y :: ys)=Af:=rfl
theorem XT (x:Ac) (xs:Ab Ac):lexLt (x :: xs) []=As:=rfl
theorem WU (A:AV) (s:Ai) (a:Ac) (t:BX) (c:Ac) (u:BX):∃e,SeqAt.EqAt A s (.int a t) (.int c u) e/\(e=Af↔a=c) :=
 ⟨(a == c),VC a t c u,by simp⟩
theorem ZL (A:AV) (s:Ai) (a:Ac) (t:BX) (c:Ac) (u:BX) (prog:AN) (w:AA) (E:Ah->Ai->Prop) (Q:Ah->Ai->Prop) (h:Q (.bool (decide (a < c))) s) :
 Ar (A1 prog w) A (richCompare .Lt (.int a t) (.int c u)) Q E s :=
 (PyProof.Rows.lt_int h:Ar (A1 prog w) A (CS .Lt (.int a t) (.int c u)) Q E s)
section
open PySem.SeqAt
open PySem.AutoSeq1 (wpAny_loadPart')
open PySem.MeetsSeq PySem.MeetsSeq2 PySem.MeetsSeq3
theorem tuple_lt_ints (l b:Ad) (items items2:A7 Ah) (n n2:Ae) (dd dd2:Ay Ad) (sl sl2:A7 (Ay Ah)) (ns ms:Ab Ac) (hi:Cf items.toList ns) (hj:Cf items2.toList ms) :
 Jm (C9.«tuple.__lt__» ⟨[.ref l,.ref b],[]⟩)
  (fun _ R s=>s.heap.get? l=Aa { cls:=.type "tuple",dict:=dd,data:=.seq items n,slots:=sl }/\s.heap.get? b=Aa { cls:=.type "tuple",dict:=dd2,data:=.seq items2 n2,slots:=sl2 } /\
   R (.ok (.ret (.bool (lexLt ns ms)))) s) :=
 .of_wp fun prog w A R s h=>by
  obtain ⟨hp,g,d,tk,os⟩:=s;obtain ⟨hl,hb,h⟩:=h
  have f2:=AutoSeq1.sub_tuple_tuple
  have z1:items.size=ns.length:=by rw [<- hi.length];simp
  have z2:items2.size=ms.length:=by rw [<- hj.length];simp
  wp_walk using wpAny_loadPart' hl,wpAny_loadPart' hb,wpAny_forIn_list _ (fun rest b s'=>b.1=Ag/\s'=⟨hp,g,d,tk,os⟩/\∃(vs ws:Ab Ah) (ns' ms':Ab Ac),rest=vs.zip ws /\
   Cf vs ns'/\Cf ws ms'/\ns'.length+items2.size=ms'.length+items.size/\R (.ok (.ret (.bool (lexLt ns' ms')))) ⟨hp,g,d,tk,os⟩) _
  case turn =>
   rintro ⟨y,x⟩ rest b s' ⟨hb',rfl,vs,ws,ns',ms',hz,hvi,hwi,hlen,hR⟩
   cases hvi with
   | nil=>rw [List.zip_nil_left] at hz;cases hz
   | cons a t hvi' =>
     cases hwi with
     | nil=>rw [List.zip_nil_right] at hz;cases hz
     | cons c u hwi' =>
       rw [Vd] at hz
       injection hz with hyx hrest
       injection hyx with hy hx
       subst hy hx
       rw [lexLt_cons] at hR
       simp only [BA] at hlen
       obtain ⟨e,he,hiff⟩:=WU A.in1 ⟨hp,g,d,tk,os⟩ a t c u
       refine Al (he prog w _ _ ?_)
       cases e with
       | true =>
         rw [At (hiff.mp rfl)] at hR
         wp_walk
         exact ⟨rfl,rfl,_,_,_,_,hrest,hvi',hwi',by omega,hR⟩
       | false =>
         rw [Ao (fun q=>A8 (hiff.mpr q) B8)] at hR
         have hri:=ZL A.in1 ⟨hp,g,d,tk,os⟩ a t c u prog w
         wp_walk using hri
         exact ⟨_,rfl,by simpa using hR⟩
  case fin =>
   rintro ⟨b1,b2⟩ s' ⟨hb',rfl,vs,ws,ns',ms',hz,hvi,hwi,hlen,hR⟩
   simp only at hb'
   subst hb'
   have hv:lexLt ns' ms'=decide (items.size < items2.size):=by
    cases hvi with
    | nil =>
      cases hwi with
      | nil =>
        simp only [Cs] at hlen
        rw [XV]
        exact (Bo (by omega)).symm
      | cons c u hw =>
        simp only [Cs,BA] at hlen
        rw [XU]
        exact (Be (by omega)).symm
    | cons a t hv =>
      cases hwi with
      | nil =>
        simp only [Cs,BA] at hlen
        rw [XT]
        exact (Bo (by omega)).symm
      | cons c u hw =>
        rw [Vd] at hz
        cases hz
   rw [hv] at hR
   wp_walk
   exact ⟨_,rfl,by simpa [Builtin.Tuple.tupleCompareSizes] using hR⟩
  case h =>
   exact ⟨rfl,rfl,items.toList,items2.toList,ns,ms,rfl,hi,hj,by omega,h⟩
end
section
variable {prog:AN} {w:AA} {A:AV} {E:Ah->Ai->Prop} {s:Ai}
theorem lt_tupInts {l b:Ad} {items items2:A7 Ah} {ns ms:Ab Ac} {Q:Ah->Ai->Prop} (hl:IsTup s.heap l items) (hb:IsTup s.heap b items2) (hi:Cf items.toList ns) (hj:Cf items2.toList ms)
 (hu:A.units < cLine) (h:Q (.bool (lexLt ns ms)) s):Ar (A1 prog w) A (CS .Lt (.ref l) (.ref b)) Q E s:=by
 obtain ⟨⟨cls,dd,data,sl⟩,ho,hc,n,hd⟩:=id hl
 obtain ⟨⟨cls2,dd2,data2,sl2⟩,ho2,hc2,n2,hd2⟩:=id hb
 simp only at hc hd hc2 hd2
 subst hc hd hc2 hd2
 exact richCompare_meets_room (op:=.Lt) ⟨_,ho,rfl⟩ ⟨_,ho2,rfl⟩ ON Vu (Vs _ _) (tuple_lt_ints l b items items2 n n2 dd dd2 sl sl2 ns ms hi hj)
  ⟨ho,ho2,show EK (lexLt ns ms)≠Value.notImplemented/\Q (.bool (lexLt ns ms)) s from ⟨(fun x=>nomatch x),h⟩⟩ hu
noncomputable def sIx (n d:Ae):Ay Ac->Ae
 | none=>d
 | some v=>if v < 0 then (v+(n:Ac)).toNat else min v.toNat n
theorem sIx_none (n d:Ae):sIx n d Ag=d:=rfl
theorem sIx_nat (n d k:Ae):sIx n d (Aa (k:Ac))=min k n:=by
 show (if (k:Ac) < 0 then ((k:Ac)+(n:Ac)).toNat else min (k:Ac).toNat n)=min k n
 rw [Ao (by omega),Ce]
end
end HT
namespace L2
open PySem PySem.Spec PyProof.Rows
abbrev TO:=St->Hp->(Ay Ac->Hp->Prop)->Prop
noncomputable def PO (X:Cx) (e:Ay A3) (t:TO):Prop :=
 ∀(pins:Ab (Ad × A4)) (s:Ai) (σ:St) (H:Hp) (Q:Ay Ac->Hp->Prop),Inv X pins σ H s->t σ H Q ->
  Ar (A1 X.prog X.w) X.A (evalPart e X.env) (fun u s'=>∃o H',Inv X pins σ H' s'/\IsPart u o/\Q o H') X.xe s
noncomputable def AaT:TO:=fun _ H Q=>Q Ag H
noncomputable def AaW (t:TE):TO:=fun σ H Q=>t σ H fun x H1=>∃i,x=.int i/\Q (Aa i) H1
theorem Ft {ns:Ab Ac}:∀{us:Ab Ah},AW (ns.map V.int) us->Cf us ns:=by
 induction ns with
 | nil=>intro us r;rw [Mh] at r;cases r;exact .nil
 | cons n ns ih =>
   intro us r
   rw [BL] at r
   cases r with
   | cons r1 r2 =>
     obtain ⟨t,e⟩:=r1
     subst e
     exact .cons n t (ih r2)
section
variable {X:Cx} {e:A3} {te:TE} {lo hi:Ay A3} {tl th:TO} {pos p2:Pos}
theorem HV:PO X Ag AaT:=by
 intro pins s σ H Q I h
 rw [evalPart_none]
 exact A0 ⟨Ag,H,I,.none,h⟩
theorem HW (h:PE X e te):PO X (Aa e) (AaW te):=by
 intro pins s σ H Q I hw
 rw [evalPart_some]
 refine thn (h pins s σ H _ I hw) fun u s1 hq_=>?_
 obtain ⟨x,H1,I1,r1,q1⟩:=hq_
 obtain ⟨i,rfl,q⟩:=q1
 obtain ⟨t,rfl⟩:=r1
 exact ⟨Aa i,H1,I1,.int i t,q⟩
noncomputable def SlR (X:Cx) (r:V->Ay Ac->Ay Ac->Hp->VK->Prop):Prop :=
 ∀(pins:Ab (Ad × A4)) (s:Ai) (σ:St) (H:Hp) (x:V) (v vl vu:Ah) (lo hi:Ay Ac) (sl:Ad) (Q:VK),Inv X pins σ H s->Ba x v->s.heap.IsSliceOf sl vl vu .none->IsPart vl lo->IsPart vu hi->r x lo hi H Q ->
  ∃T id,typeLookup (.type T) "__getitem__"=pure (Aa (.builtin id))/\s.TypeIs v T/\Ar (A1 X.prog X.w) X.A (getItem v (.ref sl)) (EP X pins σ Q) X.xe s
noncomputable def tSl (r:V->Ay Ac->Ay Ac->Hp->VK->Prop) (te:TE) (tl th:TO):TE:=fun σ H Q=>te σ H fun x H1=>tl σ H1 fun l H2=>th σ H2 fun u H3=>r x l u H3 Q
theorem HR {r:V->Ay Ac->Ay Ac->Hp->VK->Prop} (hr:SlR X r) (he:PE X e te) (hl:PO X lo tl) (hu:PO X hi th):PE X (.Subscript e (.Slice lo hi Ag p2) pos) (tSl r te tl th):=by
 intro pins s σ H Q I h
 refine Subscript_ (thn (he pins s σ H _ I h) fun v s1 hq_=>?_)
 obtain ⟨x,H1,I1,r1,q1⟩:=hq_
 refine wpAny_Slice (thn (hl pins s1 σ H1 _ I1 q1) fun vl s2 hq_=>?_)
 obtain ⟨l,H2,I2,pl,q2⟩:=hq_
 refine thn (hu pins s2 σ H2 _ I2 q2) fun vu s3 hq_=>?_
 obtain ⟨u,H3,I3,pu,q3⟩:=hq_
 rw [evalPart_none]
 refine A0 ?_
 have I4:Inv X pins σ H3 { s3 with heap:=s3.heap.push { cls:=.type "slice",data:=.fields #[vl,vu,.none] } }:=I3.kept (t':=s3.toks) fun b ob q=>Bk _ q
 obtain ⟨T,id,hT,ht,hg⟩:=hr pins { s3 with heap:=s3.heap.push { cls:=.type "slice",data:=.fields #[vl,vu,.none] } } σ H3 x v vl vu l u s3.heap.objs.size Q I4 r1 (Heap.IsSliceOf.new ..) pl pu q3
 show Ar (A1 X.prog X.w) X.A (subscriptTail e (.Slice lo hi Ag p2) v (.ref s3.heap.objs.size)) (EP X pins σ Q) X.xe { s3 with heap:=s3.heap.push { cls:=.type "slice",data:=.fields #[vl,vu,.none] } }
 exact tail_any (ops:=[.ref s3.heap.objs.size,v]) ht hT hg (by with_unfolding_all rfl)
noncomputable def Fp (xs:Ab V) (lo hi:Ay Ac):Ab V:=(xs.drop (HT.sIx xs.length 0 lo)).take (HT.sIx xs.length xs.length hi - HT.sIx xs.length 0 lo)
theorem WJ (xs:Ab V) (lo hi:Ay Ac):(Fp xs lo hi).length<=xs.length:=by
 unfold Fp
 rw [DP,Hh]
 omega
end
end L2
namespace L2
open PySem PySem.Spec PyProof.Rows
noncomputable def ixN (n:Ae) (i:Ac):Ay Ae:=if 0<=i then (if i < n then Aa i.toNat else Ag) else if -(n:Ac)<=i then Aa (i+n).toNat else Ag
noncomputable def atI {α:Type} (xs:Ab α) (i:Ac):Ay α:=(ixN xs.length i).bind fun j=>xs[j]?
theorem Np {n:Ae} {i:Ac} {j:Ae} (h:ixN n i=Aa j):seqIndex? i n=Aa j/\j < n/\-(n:Ac)<=i/\i < n:=by
 unfold ixN at h
 by_cases h0:0<=i
 ·rw [At h0] at h
  by_cases h1:i < n
  ·rw [At h1] at h
   have e:i.toNat=j:=Bp h
   exact ⟨by rw [Po h0 h1,e],by omega,by omega,h1⟩
  ·rw [Ao h1] at h;cases h
 ·rw [Ao h0] at h
  by_cases h1:-(n:Ac)<=i
  ·rw [At h1] at h
   have e:(i+n).toNat=j:=Bp h
   exact ⟨by rw [Pn (by omega) h1,e],by omega,h1,by omega⟩
  ·rw [Ao h1] at h;cases h
theorem PF {α:Type} {xs:Ab α} {i:Ac} {v:α} (h:atI xs i=Aa v):∃j,seqIndex? i xs.length=Aa j/\xs[j]?=Aa v/\j < xs.length/\-(xs.length:Ac)<=i/\i < xs.length:=by
 unfold atI at h
 cases e:ixN xs.length i with
 | none=>rw [e] at h;cases h
 | some j =>
   rw [e] at h
   obtain ⟨h1,h2,h3,h4⟩:=Np e
   exact ⟨j,h1,h,h2,h3,h4⟩
theorem Dv {α:Type} {xs:Ab α} {j:Ae} {v:α} (h:xs[j]?=Aa v):atI xs (j:Ac)=Aa v:=by
 have hj:j < xs.length:=(List.getElem?_eq_some_iff.mp h).1
 have e:ixN xs.length (j:Ac)=Aa j:=by
  unfold ixN
  rw [At (by omega),At (by omega)];simp
 unfold atI;rw [e];exact h
noncomputable def Ws (b:A3):Prop:=∀o i,subscripted b As o i=operate [o,i] (getItem o i)
noncomputable def IxR (X:Cx) (r:R2):Prop :=
 ∀(value slice:A3) (pins:Ab (Ad × A4)) (s:Ai) (σ:St) (H:Hp) (x y:V) (v u:Ah) (Q:VK),Inv X pins σ H s->Ba x v->Ba y u->r x y H Q ->
  subscripted slice As v u=operate [v,u] (getItem v u)->Ar (A1 X.prog X.w) X.A (subscriptTail value slice v u) (EP X pins σ Q) X.xe s
noncomputable def MtR (X:Cx) (id:CN) (r:V->Ab V->Hp->VK->Prop):Prop :=
 ∀(pins:Ab (Ad × A4)) (s:Ai) (σ:St) (H:Hp) (x:V) (xs:Ab V) (v:Ah) (us:Ab Ah) (Q:VK),Inv X pins σ H s->Ba x v->AW xs us->r x xs H Q ->
  Ar (A1 X.prog X.w) X.A (call (.builtin id) (v :: us)) (EP X pins σ Q) X.xe s
section
variable {X:Cx} {a b:A3} {ta tb:TE} {pos:Pos}
theorem YO {r:R2} (hr:IxR X r) (ha:PE X a ta) (hb:PE X b tb) (hs:Ws b):PE X (.Subscript a b pos) (tOp r ta tb):=by
 intro pins s σ H Q I h
 exact Subscript_ (MU ha hb I h fun v u s2 x y H2 I2 rx ry q=>hr a b pins s2 σ H2 x y v u Q I2 rx ry q (hs _ _))
inductive NL (K:A6) (x y:V) (H:Hp) (Q:VK):Prop
 | mk (p:Ad) (xs:Ab V) (i:Ac) (v:V):x=.ref p->y=.int i->SqL K H p xs->atI xs i=Aa v->Q v H->NL K x y H Q
inductive NM (K:A6) (x y:V) (H:Hp) (Q:VK):Prop
 | mk (p:Ad) (xs:Ab V) (i:Ac) (v:V):x=.ref p->y=.int i->SqT K H p xs->atI xs i=Aa v->Q v H->NM K x y H Q
theorem B0:IxR X (NL X.K):=by
 intro value slice pins s σ H x y v u Q I rx ry h hs
 obtain ⟨p,xs,i,z,rfl,rfl,hq,he,q⟩:=h
 cases rx
 obtain ⟨t,rfl⟩:=ry
 obtain ⟨its,r,pl,hz⟩:=I.list hq
 obtain ⟨j,h1,h2,h3,h4,h5⟩:=PF he
 obtain ⟨w,ew,rw'⟩:=r.get h2
 have hl:=r.length
 have hn:=JY
 have fin:EP X pins σ Q w s:=⟨z,H,I,rw',q⟩
 by_cases h0:0<=i
 ·have hj:i.toNat=j:=by
   rw [Po h0 h5] at h1
   exact Bp h1
  exact item_listR pl.isList h0 (by omega) (by rw [hj];simpa using ew) fin hs
 ·have hj:(i+(its.toArray.size:Ac)).toNat=j:=by
   rw [Pn (by omega) h4] at h1
   rw [BB,<- hl]
   exact Bp h1
  exact subscriptTail_builtinR (x:=w) pl.isList.typeIs slot_list_getitem.lookup
   (wpAny_getItem_list_neg (Q:=fun r s'=>r=w/\EP X pins σ Q r s') pl.isList (by omega) (by rw [BB] <;> omega) (by omega) (by rw [hj];simpa using ew) ⟨rfl,fin⟩) hs
theorem C6:IxR X (NM X.K):=by
 intro value slice pins s σ H x y v u Q I rx ry h hs
 obtain ⟨p,xs,i,z,rfl,rfl,hq,he,q⟩:=h
 cases rx
 obtain ⟨t,rfl⟩:=ry
 obtain ⟨its,r,pl,hz⟩:=I.tuple hq
 obtain ⟨j,h1,h2,h3,h4,h5⟩:=PF he
 obtain ⟨w,ew,rw'⟩:=r.get h2
 have hl:=r.length
 have hn:=JY
 have fin:EP X pins σ Q w s:=⟨z,H,I,rw',q⟩
 exact subscriptTail_builtinR (x:=w) pl.typeIs slot_tuple_getitem.lookup
  (getItem_tuple (j:=j) (Q:=fun r s'=>r=w/\EP X pins σ Q r s') pl (by omega) (by omega) (by rw [BB,<- hl];exact h1) (by simpa using ew) ⟨rfl,fin⟩) hs
theorem Yh (its:Ab Ah) (n j:Ae) (u:Ah):CY (·.setIfInBounds j u) { cls:=.type "list",data:=.seq its.toArray n }={ cls:=.type "list",data:=.seq (its.set j u).toArray n }:=by
 simp [CY]
theorem Inv.lst {pins:Ab (Ad × A4)} {σ:St} {H:Hp} {s:Ai} {p:Ad} {xs:Ab V} (I:Inv X pins σ H s) (h:H p=Aa (.lst xs)) :
 ∃(its:Ab Ah) (n:Ae),AW xs its/\s.heap.get? p=Aa { cls:=.type "list",data:=.seq its.toArray n }/\xs.length<=A5:=by
 obtain ⟨z,its,n,r,e⟩:=I.hok p _ h
 exact ⟨its,n,r,e,z⟩
theorem Inv.lstUpd {pins:Ab (Ad × A4)} {σ:St} {H:Hp} {s:Ai} {p:Ad} {xs ys:Ab V} {its its':Ab Ah} {n n':Ae} {f:A4->A4} (I:Inv X pins σ H s) (h:H p=Aa (.lst xs))
 (ho:s.heap.get? p=Aa { cls:=.type "list",data:=.seq its.toArray n }) (hf:f { cls:=.type "list",data:=.seq its.toArray n }={ cls:=.type "list",data:=.seq its'.toArray n' }) (r:AW ys its') (hz:ys.length<=A5) (t:Ae) :
 Inv X pins σ (upd H p (.lst ys)) { s with heap:=s.heap.update p f,toks:=t }:=by
 have e:(s.heap.update p f).get? p=Aa { cls:=.type "list",data:=.seq its'.toArray n' }:=by
  rw [EC f ho (by rw [hf] <;> rfl),hf]
 refine I.write (x:=p) (e:=p) (by rw [h];trivial) (.inl rfl) (fun b u hb q=>(FJ _ _ (AM hb)).trans q) ⟨_,e⟩ ?_
 exact ⟨hz,its',n',r,e⟩
inductive RT (o i v:V) (H:Hp) (Q:Hp->Prop):Prop
 | mk (p:Ad) (xs:Ab V) (k:Ac) (j:Ae):o=.ref p->i=.int k->H p=Aa (.lst xs)->ixN xs.length k=Aa j->Q (upd H p (.lst (xs.set j v)))->RT o i v H Q
theorem FC:P7 X RT:=by
 intro pins s σ H o i v ov iv u Q I ro ri rv h
 obtain ⟨p,xs,k,j,rfl,rfl,hp,hj,q⟩:=h
 cases ro
 obtain ⟨t,rfl⟩:=ri
 obtain ⟨its,n,r,ho,hz⟩:=I.lst hp
 obtain ⟨h1,h2,h3,h4⟩:=Np hj
 have hl:=r.length
 have hn:=JY
 have I':Inv X pins σ (upd H p (.lst (xs.set j v))) { s with heap:=s.heap.update p (CY (·.setIfInBounds j u)) } :=
  I.lstUpd hp ho (Yh its n j u) (r.set rv j) (by rw [DO];exact hz) s.toks
 by_cases h0:0<=k
 ·have hk:k.toNat=j:=by
   rw [Po h0 h4] at h1
   exact Bp h1
  exact PySem.W.ki_setAt ho h0 (by omega) (by rw [BB,<- hl];exact h4) (by rw [hk];exact ⟨_,I',q⟩)
 ·have hk:(k+(its.toArray.size:Ac)).toNat=j:=by
   rw [Pn (by omega) h3] at h1
   rw [BB,<- hl]
   exact Bp h1
  exact PySem.W.ki_setBack ho (by omega) (by rw [BB,<- hl];exact h3) (by omega) (by rw [hk];exact ⟨_,I',q⟩)
theorem Aat (lo hi:Ay Ac) (n:Ae):(sliceBounds lo hi Ag n).1=((HT.sIx n 0 lo:Ae):Ac)/\(sliceBounds lo hi Ag n).2.1=((HT.sIx n n hi:Ae):Ac)/\(sliceBounds lo hi Ag n).2.2=1:=by
 refine ⟨?_,?_,rfl⟩
 ·cases lo with
  | none=>simp [sliceBounds,HT.sIx]
  | some i =>
    simp only [sliceBounds,HT.sIx,Vj,show (1:Ac) > 0 by decide,Fh]
    by_cases h:i < 0
    ·simp only [h,Fh] <;> omega
    ·simp only [h,Dj] <;> omega
 ·cases hi with
  | none=>simp [sliceBounds,HT.sIx]
  | some i =>
    simp only [sliceBounds,HT.sIx,Vj,show (1:Ac) > 0 by decide,Fh]
    by_cases h:i < 0
    ·simp only [h,Fh] <;> omega
    ·simp only [h,Dj] <;> omega
theorem Aas (its:Ab Ah) (lo hi:Ay Ac):slicePick its.toArray lo hi Ag=((its.drop (HT.sIx its.length 0 lo)).take (HT.sIx its.length its.length hi - HT.sIx its.length 0 lo)).toArray:=by
 obtain ⟨h1,h2,h3⟩:=Aat lo hi its.toArray.size
 unfold slicePick
 rw [h1,h2,h3]
 simp only [sliceRange_one,pick_run,BB] <;> rfl
noncomputable def ZC (K:A6):V->Ay Ac->Ay Ac->Hp->VK->Prop:=fun x lo hi H Q=>∃a xs,x=.ref a/\SqL K H a xs/\∀p,H p=Ag->Q (.ref p) (upd H p (.lst (Fp xs lo hi)))
theorem IX:SlR X (ZC X.K):=by
 intro pins s σ H x v vl vu lo hi sl Q I rx hs pl pu h
 obtain ⟨a,xs,rfl,hx,q⟩:=h
 cases rx
 obtain ⟨its,r,ht,hz⟩:=I.list hx
 have hlen:=r.length
 refine ⟨"list",_,slot_list_getitem.lookup,ht.isList.typeIs,?_⟩
 refine wpAny_getItem_list_slice ht.isList hs pl pu .none (by simp) ?_ (by rw [BB] <;> omega)
 rw [Aas,<- hlen]
 refine ⟨.ref s.heap.objs.size,_,I.laid (t':=s.toks) (o:=.lst (Fp xs lo hi)) (fun b ob q=>Bk _ q) (AB _) ?_,rfl,q _ (I.hok.fresh (AB _))⟩
 exact ⟨CK (WJ xs lo hi) hz,_,0,(r.drop (HT.sIx xs.length 0 lo)).take (HT.sIx xs.length xs.length hi - HT.sIx xs.length 0 lo),BE _ rfl⟩
theorem Dm:Dk X (.builtin "len") (fun xs H Q=>∃p ys,xs=[.ref p]/\(SqL X.K H p ys\/SqT X.K H p ys)/\Q (.int ys.length) H):=by
 intro pins s σ H xs us Q I r h
 obtain ⟨p,ys,rfl,hq,q⟩:=h
 obtain ⟨u,rfl,rx⟩:=EY r
 cases rx
 have hn:=JY
 rcases hq with hq | hq
 ·obtain ⟨its,r',pl,hz⟩:=I.list hq
  have hlen:=r'.length
  exact Uz pl.isList (by simp only [BB] <;> omega) ⟨.int ys.length,H,I.tok _,⟨s.toks+1,by rw [BB,hlen]⟩,q⟩
 ·obtain ⟨its,r',pl,hz⟩:=I.tuple hq
  have hlen:=r'.length
  exact len_tuple pl (by simp only [BB] <;> omega) ⟨.int ys.length,H,I.tok _,⟨s.toks+1,by rw [BB,hlen]⟩,q⟩
theorem Fo:Dk X (.type "list") (fun xs H Q=>∃p ys,xs=[.ref p]/\(SqL X.K H p ys\/SqT X.K H p ys)/\∀l,H l=Ag->Q (.ref l) (upd H l (.lst ys))):=by
 intro pins s σ H xs us Q I r h
 obtain ⟨p,ys,rfl,hq,q⟩:=h
 obtain ⟨u,rfl,rx⟩:=EY r
 cases rx
 have fin:∀(its:Ab Ah),AW ys its->ys.length<=A5->∀(h':AC) (c':Ae),(∀b o',s.heap.get? b=Aa o'->h'.get? b=Aa o') ->
  h'.get? s.heap.objs.size=Aa { cls:=.type "list",dict:=Ag,data:=.seq its.toArray c',slots:=#[] }->EP X pins σ Q (.ref s.heap.objs.size) { s with heap:=h' }:=fun its r' hz h' c' kp e =>
  ⟨.ref s.heap.objs.size,_,I.laid (t':=s.toks) kp (AB _) (show BD X.prog X.w _ h' _ (.lst ys) from ⟨hz,its,c',r',e⟩),rfl,q _ (I.hok.fresh (AB _))⟩
 rcases hq with hq | hq
 ·obtain ⟨its,r',pl,hz⟩:=I.list hq
  have hlen:=r'.length
  obtain ⟨o,ho,hc,n,hd⟩:=pl.isList
  exact call_list_seq p (.inl rfl) ho hc hd (fun h' c' kp e=>fin its r' hz h' c' kp e) (by simp only [BB] <;> omega)
 ·obtain ⟨its,r',pl,hz⟩:=I.tuple hq
  have hlen:=r'.length
  obtain ⟨o,ho,hc,n,hd⟩:=pl
  exact call_list_seq p (.inr rfl) ho hc hd (fun h' c' kp e=>fin its r' hz h' c' kp e) (by simp only [BB] <;> omega)
theorem WD:Dk X (.type "tuple") (fun xs H Q=>∃p ys,xs=[.ref p]/\((SqL X.K H p ys/\∀l,H l=Ag->Q (.ref l) (upd H l (.tup ys)))\/(SqT X.K H p ys/\Q (.ref p) H))):=by
 intro pins s σ H xs us Q I r h
 obtain ⟨p,ys,rfl,h⟩:=h
 obtain ⟨u,rfl,rx⟩:=EY r
 cases rx
 rcases h with ⟨hq,q⟩ | ⟨hq,q⟩
 ·obtain ⟨its,r',pl,hz⟩:=I.list hq
  have hlen:=r'.length
  refine call_tuple_list pl.isList (fun h' kp=>?_) (by simp only [BB] <;> omega)
  have I1:Inv X pins σ H { s with heap:=h' }:=I.kept (t':=s.toks) kp
  have I2:Inv X pins σ (upd H h'.objs.size (.tup ys)) { s with heap:=h'.push { cls:=.type "tuple",data:=.seq its.toArray } } :=
   I1.laid (t':=s.toks) (fun b o e=>Bk _ e) (AB _) (show BD X.prog X.w _ _ _ (.tup ys) from ⟨hz,its,r',IsTup.new _ _⟩)
  exact ⟨.ref h'.objs.size,_,I2,rfl,q _ (I1.hok.fresh (AB _))⟩
 ·obtain ⟨its,r',pl,hz⟩:=I.tuple hq
  exact call_tuple_same pl ⟨.ref p,H,I,rfl,q⟩
noncomputable def tyV (K:A6) (T:CN) (x:V) (H:Hp):Prop:=match x with
 | .str _=>T="str"
 | .int _=>T="int"
 | .ref p=>(T="list"/\∃xs,SqL K H p xs)\/(T="tuple"/\∃o,K.lookup p=Aa o/\o.cls=.type "tuple"/\o.dict=Ag) \/
  (T="dict"/\((∃kvs,H p=Aa (.dK kvs))\/∃kvs,H p=Aa (.dT kvs)))\/(T="set"/\∃S n,H p=Aa (.set S n))
 | _=>B5
theorem TX {pins:Ab (Ad × A4)} {σ:St} {H:Hp} {s:Ai} {T:CN} {x:V} {v:Ah} (I:Inv X pins σ H s) (r:Ba x v) (ty:tyV X.K T x H) :
 s.TypeIs v T/\∀a,v=.ref a->∃ob,s.heap.get? a=Aa ob/\ob.dict=Ag:=by
 cases x with
 | str z =>
   obtain ⟨t,rfl⟩:=r
   cases (show T="str" from ty)
   exact ⟨typeIs_str s z t,fun _ e=>nomatch e⟩
 | int i =>
   obtain ⟨t,rfl⟩:=r
   cases (show T="int" from ty)
   exact ⟨typeIs_int s i t,fun _ e=>nomatch e⟩
 | ref p =>
   cases r
   rcases ty with ⟨rfl,xs,hq⟩ | ⟨rfl,o,hk,hc,hd⟩ | ⟨rfl,hk⟩ | ⟨rfl,S,n,hk⟩
   ·obtain ⟨its,_,pl,_⟩:=I.list hq
    refine ⟨pl.isList.typeIs,fun a e=>?_⟩
    cases e
    obtain ⟨o,n,e,c,hd,_⟩:=pl
    exact ⟨o,e,hd⟩
   ·refine ⟨⟨o,I.kIn p o hk,hc⟩,fun a e=>?_⟩
    cases e
    exact ⟨o,I.kIn _ o hk,hd⟩
   ·have z:∃o,s.heap.get? p=Aa o/\o.ExactDict:=by
     rcases hk with ⟨kvs,hk⟩ | ⟨kvs,hk⟩
     ·obtain ⟨_,_,_,_,o,_,_,e,ex,_⟩:=I.hok p _ hk
      exact ⟨o,e,ex⟩
     ·obtain ⟨_,_,_,_,o,_,_,e,ex,_⟩:=I.hok p _ hk
      exact ⟨o,e,ex⟩
    obtain ⟨o,e,ex⟩:=z
    refine ⟨⟨o,e,ex.1⟩,fun a e2=>?_⟩
    cases e2
    exact ⟨o,e,ex.2.1⟩
   ·obtain ⟨o,_,_,_,e,ex,_⟩:=I.hok p _ hk
    refine ⟨⟨o,e,ex.1⟩,fun a e2=>?_⟩
    cases e2
    exact ⟨o,e,ex.2.1⟩
 | _=>exact DZ ty
noncomputable def AaE (K:A6) (T:CN) (r:V->Ab V->Hp->VK->Prop) (to:TE):TE:=fun σ H Q=>to σ H fun x H1=>tyV K T x H1/\r x [] H1 Q
noncomputable def tBM (K:A6) (T:CN) (r:V->Ab V->Hp->VK->Prop) (to:TE) (t:TA):TE:=fun σ H Q=>to σ H fun x H1=>tyV K T x H1/\t σ H1 fun xs H2=>r x xs H2 Q
variable {o e:A3} {es:Ab A3} {to:TE} {t:TA} {name:Ak} {apos cpos:Pos} {T id:CN} {r:V->Ab V->Hp->VK->Prop}
theorem YI (pa:OJ T) (slot:Slot T name id) (hty:typeOf (.builtin id)=pure (.type "method_descriptor")) (hm:MtR X id r) (ho:PE X o to)
 (hbase:attributeBase o name X.env (eval o X.env)=eval o X.env:=by rfl) (hline:(apos.endLine == cpos.line)=Af:=by rfl):PE X (.Call (.Attribute o name apos) [] [] cpos) (AaE X.K T r to):=by
 intro pins s σ H Q I h
 refine wpAny_Call_method0_late hbase hline (thn (ho pins s σ H _ I h) fun v s1 hq_=>?_)
 obtain ⟨x,H1,I1,r1,ty,q1⟩:=hq_
 obtain ⟨h1,h2⟩:=TX I1 r1 ty
 exact ⟨T,id,pa,slot,hty,h1,h2,Of rfl (PySem.evalArgs_none (hm pins s1 σ H1 x [] v [] Q I1 r1 .nil q1))⟩
theorem DY (pa:OJ T) (slot:Slot T name id) (hty:typeOf (.builtin id)=pure (.type "method_descriptor")) (hm:MtR X id r) (ho:PE X o to) (ha:PA X (e :: es) t)
 (hbase:attributeBase o name X.env (eval o X.env)=eval o X.env:=by rfl)
 (hfew:((backTo cpos (Bh (e :: es) X.env)).all (fun x=>!x.1) && (backToKw cpos (keywordEach [] X.env)).all (fun x=>x.1.isSome)
  && decide ((e :: es).length+([]:Ab Gz).length+(if ([]:Ab Gz).isEmpty then 0 else 1) < 30))=Af:=by rfl)
 (hline:(apos.endLine == cpos.line)=Af:=by rfl) (hs:Bh (e :: es) X.env=(As,eval e X.env) :: Bh es X.env:=by rfl) (hplain:(backTo cpos (Bh es X.env)).any (·.1)=As:=by rfl) :
 PE X (.Call (.Attribute o name apos) (e :: es) [] cpos) (tBM X.K T r to t):=by
 intro pins s σ H Q I h
 refine wpAny_Call_method_late hbase hfew hline rfl (thn (ho pins s σ H _ I h) fun v s1 hq_=>?_)
 obtain ⟨x,H1,I1,r1,ty,q1⟩:=hq_
 obtain ⟨h1,h2⟩:=TX I1 r1 ty
 refine ⟨T,id,pa,slot,hty,h1,h2,?_⟩
 have hA:=ha cpos pins s1 σ H1 _ I1 q1
 rw [hs] at hA ⊢
 refine Of (by show (As || (backTo cpos (Bh es X.env)).any (·.1))=As;rw [hplain] <;> rfl) (U0 ?_)
 refine thn hA fun us s2 hq_=>?_
 obtain ⟨vs,H2,I2,r2,q2⟩:=hq_
 exact hm pins s2 σ H2 x vs v us Q I2 r1 r2 q2
end
end L2
namespace L2
open PySem PySem.Spec PyProof.Rows
noncomputable def MtM (X:Cx) (id:CN) (r:V->Ab V->Hp->VK->Prop):Prop :=
 ∀(pins:Ab (Ad × A4)) (s:Ai) (σ:St) (H:Hp) (x:V) (xs:Ab V) (v:Ah) (us:Ab Ah) (Q:VK),Inv X pins σ H s->Ba x v->AW xs us->r x xs H Q ->
  Ar (A1 X.prog X.w) X.A (call (.builtin id) (v :: us)) (EP X pins σ Q) X.xe s
theorem AW.one:∀{x:V} {us:Ab Ah},AW [x] us->∃u,us=[u]/\Ba x u
 | _,_,.cons r .nil=>⟨_,rfl,r⟩
theorem AW.eraseIdx:∀{xs:Ab V} {us:Ab Ah} (i:Ae),AW xs us->AW (xs.eraseIdx i) (us.eraseIdx i)
 | _,_,_,.nil=>.nil
 | _,_,0,.cons _ t=>t
 | _,_,i+1,.cons r t=>.cons r (AW.eraseIdx i t)
theorem AW.reverse {xs:Ab V} {us:Ab Ah} (h:AW xs us):AW xs.reverse us.reverse:=by
 induction h with
 | nil=>exact .nil
 | cons r t ih=>rw [OA,OA];exact AW.append ih (.cons r .nil)
theorem QK {α:Type}:∀(l:Ab α) (i:Ae),(l.eraseIdx i).length<=l.length
 | [],_=>AB _
 | _ :: _,0=>Ec _
 | _ :: r,i+1=>Mr (QK r i)
section
variable {X:Cx} {pins:Ab (Ad × A4)} {σ:St} {H:Hp} {s:Ai} {l b:Ad} {xs ys zs:Ab V}
theorem Inv.lset {its its':Ab Ah} {n:Ae} {f:A7 Ah->A7 Ah} {t':Ae} (I:Inv X pins σ H s) (hH:H l=Aa (.lst xs))
 (e:s.heap.get? l=Aa { cls:=.type "list",data:=.seq its.toArray n }) (hf:f its.toArray=its'.toArray) (hv:AW ys its') (hz:ys.length<=A5) :
 Inv X pins σ (upd H l (.lst ys)) { s with heap:=s.heap.update l (CY f),toks:=t' }:=by
 have q:=PySem.IsL.update e f
 rw [hf] at q
 refine I.write (x:=l) (e:=l) (by rw [hH];exact trivial) (.inl rfl) (fun b' u hb hu=>(FJ s.heap (CY f) (AM hb)).trans hu) ⟨_,q⟩ ?_
 exact ⟨hz,its',_,hv,q⟩
theorem Inv.lnew {its:Ab Ah} {t':Ae} (I:Inv X pins σ H s) (hv:AW ys its) (hz:ys.length<=A5) :
 Inv X pins σ (upd H s.heap.objs.size (.lst ys)) { s with heap:=s.heap.push { cls:=.type "list",data:=.seq its.toArray },toks:=t' } :=
 I.laid (fun _ _ q=>Bk _ q) (AB _) ⟨hz,its,0,hv,BE _ rfl⟩
theorem Inv.fresh (I:Inv X pins σ H s):H s.heap.objs.size=Ag:=I.hok.fresh (AB _)
theorem Inv.lstM (I:Inv X pins σ H s) (hH:H l=Aa (.lst xs)):xs.length<=A5/\∃(its:Ab Ah) (n:Ae),AW xs its/\xs.length=its.length/\s.heap.get? l=Aa { cls:=.type "list",data:=.seq its.toArray n }:=by
 obtain ⟨z,its,n,r,e⟩:=I.hok l _ hH
 exact ⟨z,its,n,r,r.length,e⟩
theorem Yw {n:Ae} (h:n<=A5):Oe n=As:=by
 unfold Oe
 exact Bo (by omega)
end
section
variable {X:Cx}
inductive RI (x:V) (vs:Ab V) (H:Hp) (Q:VK):Prop
 | mk (l:Ad) (xs:Ab V) (y:V):x=.ref l->vs=[y]->H l=Aa (.lst xs)->xs.length < A5->Q .non (upd H l (.lst (xs++[y])))->RI x vs H Q
theorem EN:MtM X "list.append" RI:=by
 intro pins s σ H x vs v us Q I rx rv h
 obtain ⟨l,xs,y,rfl,rfl,hH,hz,q⟩:=h
 cases rx
 obtain ⟨u,rfl,ru⟩:=rv.one
 obtain ⟨z,its,n,r,hl,e⟩:=I.lstM hH
 refine M8 F.slot_list_append ⟨_,e,rfl⟩ F.entry_list_append (F.args_list_append_2 _ _) (PySem.list_append l its.toArray n u (by rw [BB];omega)) ⟨e,?_⟩
 refine ⟨.non,_,I.lset (its':=its++[u]) hH e (by simp) (r.append (.cons ru .nil)) ?_,rfl,q⟩
 rw [B9,UX]
 omega
inductive RM (x:V) (vs:Ab V) (H:Hp) (Q:VK):Prop
 | mk (l b:Ad) (xs zs:Ab V):x=.ref l->vs=[.ref b]->H l=Aa (.lst xs)->H b=Aa (.lst zs)->xs.length+zs.length<=A5->Q .non (upd H l (.lst (xs++zs)))->RM x vs H Q
theorem Yq:MtM X "list.extend" RM:=by
 intro pins s σ H x vs v us Q I rx rv h
 obtain ⟨l,b,xs,zs,rfl,rfl,hH,hB,hz,q⟩:=h
 cases rx
 obtain ⟨u,rfl,ru⟩:=rv.one
 cases ru
 obtain ⟨z,its,n,r,hl,e⟩:=I.lstM hH
 obtain ⟨z2,its2,n2,r2,hl2,e2⟩:=I.lstM hB
 have hsz:its.toArray.size+its2.toArray.size<=A5:=by rw [BB,BB];omega
 have hlong:¬ (!its.toArray.isEmpty && Oe (its.toArray.size+its2.toArray.size))=Af:=by
  rw [Yw hsz,Od]
  exact B8
 refine M8 F.slot_list_extend ⟨_,e,rfl⟩ F.entry_list_extend (F.args_list_extend_2 _ _)
  (AutoSeq1.list_extend_list_list_0 l its.toArray n b its2.toArray n2 hlong (by rw [BB];omega) (by omega)) ⟨e,e2,?_⟩
 refine ⟨.non,_,I.lset (its':=its++its2) hH e (by simp) (r.append r2) ?_,rfl,q⟩
 rw [B9]
 omega
noncomputable def ZB:V->Ab V->Hp->VK->Prop:=fun x vs H Q=>∃l xs i k y,x=.ref l/\vs=[.int i]/\H l=Aa (.lst xs)/\-(2 ^ 63)<=i/\i < 2 ^ 63/\seqIndex? i xs.length=Aa k/\xs[k]?=Aa y/\Q y (upd H l (.lst (xs.eraseIdx k)))
theorem Q_:MtM X "list.pop" ZB:=by
 intro pins s σ H x vs v us Q I rx rv h
 obtain ⟨l,xs,i,k,y,rfl,rfl,hH,h1,h2,hk,hy,q⟩:=h
 cases rx
 obtain ⟨u,rfl,ru⟩:=rv.one
 obtain ⟨t,rfl⟩:=ru
 obtain ⟨z,its,n,r,hl,e⟩:=I.lstM hH
 obtain ⟨w,hw,rw'⟩:=r.get hy
 refine M8 F.slot_list_pop ⟨_,e,rfl⟩ F.entry_list_pop (F.args_list_pop_2 _ _)
  (MeetsSeq.list_pop_at l its.toArray n i t k w (fitsIndex_both h1 h2) (by rw [BB,<- hl];exact hk) (by rw [<- Ob];exact hw) (by rw [BB];omega)) ⟨e,?_⟩
 refine ⟨y,_,I.lset (its':=its.eraseIdx k) hH e ?_ (r.eraseIdx k) ?_,rw',q⟩
 ·show its.toArray.eraseIdxIfInBounds k=(its.eraseIdx k).toArray
  rw [List.eraseIdxIfInBounds_toArray]
 ·have:=QK xs k
  omega
noncomputable def Z8:R2:=fun x y H Q=>∃l b xs zs,x=.ref l/\y=.ref b/\H l=Aa (.lst xs)/\H b=Aa (.lst zs)/\xs.length+zs.length<=A5/\∀p,H p=Ag->Q (.ref p) (upd H p (.lst (xs++zs)))
theorem N5:OpR X (Ef .Add) Z8:=by
 intro pins s σ H x y v u Q I rx ry h
 obtain ⟨l,b,xs,zs,rfl,rfl,hH,hB,hz,q⟩:=h
 cases rx
 cases ry
 obtain ⟨z,its,n,r,hl,e⟩:=I.lstM hH
 obtain ⟨z2,its2,n2,r2,hl2,e2⟩:=I.lstM hB
 refine PySem.P.add_list e e2 ?_ (by rw [BB,BB];omega)
 have ea:its.toArray++its2.toArray=(its++its2).toArray:=by simp
 rw [ea]
 exact ⟨.ref _,_,I.lnew (t':=s.toks) (r.append r2) (by rw [B9];omega),rfl,q _ I.fresh⟩
end
section
variable {prog:AN} {w:AA} {A:AV} {E:Ah->Ai->Prop} {s:Ai}
set_option maxRecDepth 100000 in
end
section
variable {X:Cx}
end
end L2
namespace Att
open PySem PySem.W PySem.Calls PyProof.Rows
theorem X8 {P:KC} {h:AC}:∀(ns:Ab Ac) (vs:Ab Ah),WellAll P h vs (ns.map WData.int)->Cf vs ns:=by
 intro ns
 induction ns with
 | nil =>
   intro vs w
   rw [Mh] at w
   cases w
   exact .nil
 | cons n ns ih =>
   intro vs w
   rw [BL] at w
   cases w with
   | cons a b =>
     cases a
     exact .cons _ _ (ih _ b)
theorem ZZ {l:OpenLaw} {n:Ae} (hn:l.most=Aa n) {P:KC} {h:AC} {args:Ab WData} {vals:Ab Ah}
 (hpre:l.row.toRowW.claim.pre args=Af) (hwl:WellAll P h vals args) :
 ∃a vs ns,vals=[A_ a]/\args=[WData.list (ns.map WData.int)]/\h.get? a=Aa { cls:=.type "list",data:=.seq vs.toArray }/\Cf vs ns/\ns.length<=n:=by
 have hsh:WShape.hasAll [] args [.list .int]=Af:=(pre_splitW hpre).1
 have hc:l.pre.holds [] { args:=args }=Af:=(pre_splitW hpre).2
 obtain ⟨d,r,rfl,h1,h2⟩:=hasAllW_cons hsh
 obtain rfl:=hasAllW_nil h2
 obtain ⟨xs,rfl,h3⟩:=hasW_list h1
 obtain ⟨ns,rfl⟩:=items_int h3
 have hlen:ns.length<=n:=by
  unfold OpenLaw.pre at hc
  have h4:(WTm.not (.lt (.lit (.int (n:Ac))) (.len (.arg 0)))).holds [] { args:=[.list (ns.map .int)] }=Af:=by
   have h4:=(holds_andW hc).1
   rw [hn] at h4
   exact h4
  have h5:=condW_of h4 (w_not (w_lt w_lit (w_len_list (w_arg rfl))))
  rw [Aw] at h5
  refine Vg fun q=>?_
  have q':(n:Ac) < ((ns.length:Ae):Ac):=by omega
  first
   | (rw [Be q'] at h5;exact A8 h5 (by decide))
   | (simp at h5;omega)
 cases hwl with
 | cons w1 w2 =>
   cases w2
   cases w1 with
   | list ho hall=>exact ⟨_,_,ns,rfl,rfl,ho,X8 ns _ hall,hlen⟩
theorem Zj (l:OpenLaw) (args:Ab WData):l.row.toRowW.claim.post args (.bool Af) args=Af :=
 postW_of (r:=l.row.toRowW) (X:=(Af == Af))
  (show WShape.has [] (.bool Af) .bool=Af by first | rfl | decide | simp [WShape.has,WShape.arms,WShape.armsAll])
  (show (WTm.eq .res (.lit (.bool Af))).value [] { args:=args,res:=Aa (.bool Af),after:=args }=Aa (.bool (Af == Af)) from w_eq_bool (w_res rfl) w_lit) rfl
theorem attach_call {l:OpenLaw} {n:Ae} {q:AN} {loose:Ab Ak} {XP:(Ak->Ay Ah)->AC->Prop} {YP:AA->AC->Prop} {d:DefRec}
 (hn:l.most=Aa n) (hdf:d.params.defaults=[])
 (call:∀(w:AA) (s₀ s₁:Ai) (mg mb:Ak->Ay Ah) (fa:Ad) (o:A4) (pm cd doc:Ah) (a:Ad) (vs:Ab Ah) (ns:Ab Ac),
  Ground q loose [] XP w s₀ mg mb s₁.heap->YP w s₁.heap ->
  s₁.heap.get? fa=Aa o->o.data=.func (docDef d.name d.params d.body d.scope pm cd doc)->s₁.heap.CodeRec cd d.name->mg d.name=Aa (.ref fa) ->
  s₁.heap.get? a=Aa { cls:=.type "list",data:=.seq vs.toArray }->Cf vs ns->ns.length<=n->s₁.gens=#[] ->
  codeAny (A1 l.prog w) callerA (.call (.ref fa) ⟨[.ref a],[]⟩) (fun r s'=>r=.ok (.ret (.bool Af))/\OldK s₁.heap s'.heap/\s'.os=s₁.os/\FG s'.gens) s₁) :
 WalkO q loose XP YP l.row.toRowW d [] (fun f vs=>OX f vs):=by
 intro w s₀ s₁ mg mb G Y fa o pm cd doc dV kV ho hd hcd hD hmg hg args vals as hpre hlay hrd hwl hlo
 obtain rfl:dV=.none:=Dflts.none hD hdf
 obtain rfl:kV=.none:=Dflts.noKw hD
 obtain ⟨a,vs,ns,rfl,rfl,hobj,hints,hlen⟩:=ZZ hn hpre hwl
 refine enter_call (Eg (call w s₀ s₁ mg mb fa o pm cd doc a vs ns G Y ho (fd_plain hd) hcd hmg hobj hints hlen hg) fun r s' hq=>?_)
 obtain ⟨rfl,h2,h3,h4⟩:=hq
 exact ⟨.inl ⟨.bool Af,.bool Af,[],rfl,fun _=>rfl,.bool Af,Zj l _,fun _=>⟨List.Pairwise.nil,fun _ hm=>(nomatch hm)⟩⟩,h2,h3,h4⟩
section
variable {prog:AN} {w:AA} {A:AV} {E:Ah->Ai->Prop} {s:Ai} {K:Frag}
end
end Att
namespace L2
open PySem PySem.Spec PyProof.Rows
theorem N_:∀{vs:Ab Ah} {ns:Ab Ac},Cf vs ns->AW (ns.map V.int) vs
 | _,_,.nil=>.nil
 | _,_,.cons n t h=>.cons ⟨t,rfl⟩ (N_ h)
noncomputable def MK (H:Hp):Prop:=∀b,H b=Ag\/∃o xs,H b=Aa (.frz o (.lst xs))
theorem XR {P:AN} {w:AA} {K:A6} {mg mb:Ak->Ay Ah} {CX:CXT} {k:Ae} {fa a:Ad} {fd:AE} {x:Ak} {sp:Sp} {s₁:Ai} {vs:Ab Ah} {ns:Ab Ac}
 (KX:K.In s₁.heap) (hns:s₁.heap.Ns AH mg) (hb:s₁.heap.Ns builtinsNs mb) (hbb:∀x:Ak,x≠"__name__"->mb x=bootBuiltins x) (hlim:s₁.heap.NoLimit) (hg:s₁.gens=#[])
 (ha:s₁.heap.get? a=Aa { cls:=.type "list",data:=.seq vs.toArray }) (hi:Cf vs ns) (hl:ns.length<=A5) (hr:Cc k callerA)
 (F:∀base:AC,K.In base->base.Ns AH mg->AG P w K mg base CX k fa fd [x] sp) (hbind:∀(s:Ai) (u:Ah),Jc s fd ⟨[u],[]⟩ [(x,u)])
 (hsp:∀H:Hp,MK H->SqL K H a (ns.map V.int)->sp [.ref a] H (fun v _=>v=.bl Af) fun _ _ _=>B5)
 (hCX:∀H e s',CX [] H s₁ (fun _ _ _=>B5) e s'->B5) :
 codeAny (A1 P w) callerA (.call (.ref fa) ⟨[.ref a],[]⟩) (fun r s'=>r=.ok (.ret (.bool Af))/\OldK s₁.heap s'.heap/\s'.os=s₁.os/\FG s'.gens) s₁:=by
 have rv:=N_ hi
 have lenV:=hi.length
 have core:∀H:Hp,MK H->SqL K H a (ns.map V.int)->HOk P w H s₁.heap->(∀b,H b≠Ag->b=a)->(H a≠Ag->K.lookup a=Ag) ->
  codeAny (A1 P w) callerA (.call (.ref fa) ⟨[.ref a],[]⟩) (fun r s'=>r=.ok (.ret (.bool Af))/\OldK s₁.heap s'.heap/\s'.os=s₁.os/\FG s'.gens) s₁:=by
  intro H hO hS hok hA hK
  have base_of:∀{b:Ad} {o:A4},s₁.heap.get? b=Aa o->H b=Ag->(Fs s₁.heap H).get? b=Aa o:=fun e n=>Xu e n
  have noA:∀{b:Ad} {o:A4} {es:A7 Gu} {ep:Ae},s₁.heap.get? b=Aa o->o.data=.dict es ep->H b=Ag:=fun {b o es ep} e d=>by
   cases q:H b with
   | none=>rfl
   | some u =>
     have e':b=a:=hA b (by rw [q];simp)
     subst e'
     rw [ha] at e;cases e
     have d':Data.seq vs.toArray _=Data.dict es ep:=d
     cases d'
  have nsK:∀{b:Ad} {m:Ak->Ay Ah},s₁.heap.Ns b m->(Fs s₁.heap H).Ns b m:=fun {b m} ⟨o,es,ep,e,d,r⟩=>⟨o,es,ep,base_of e (noA e d),d,r⟩
  have hKb:K.In (Fs s₁.heap H):=fun b o e=>base_of (KX b o e) (by
   cases q:H b with
   | none=>rfl
   | some u =>
     have e':b=a:=hA b (by rw [q];simp)
     subst e'
     rw [hK (by rw [q];simp)] at e;cases e)
  have hM:Mod K mg (Fs s₁.heap H):=⟨hKb,nsK hns,⟨mb,nsK hb,hbb⟩,let ⟨mc,h1,h2⟩:=hlim;⟨mc,nsK h1,h2⟩⟩
  have e0:G8 P w K mg (Fs s₁.heap H) callerA [] s₁ H:=⟨rfl,hM,fun b o e=>Y1 e,Mq (Xv _ _),trivial,fun b hb=>A8 (show b∈([]:Ab Ad) from hb) (by simp),hok,.of_eq hg⟩
  refine Eg ((F _ hKb (nsK hns)).run callerA [] s₁ H ⟨[.ref a],[]⟩ [.ref a] [.ref a] _ _ hr e0 (hbind s₁ (.ref a)) (.cons rfl .nil) (hsp H hO hS)) fun r s' h=>?_
  cases r with
  | error e=>exact (hCX H e s' h).elim
  | ok fl =>
    cases fl with
    | next=>exact DZ h
    | brk=>exact DZ h
    | cont=>exact DZ h
    | ret u =>
      obtain ⟨v,H',os,bare,un,hok',r',q⟩:=h
      have q':v=.bl Af:=q
      subst q'
      obtain rfl:u=EK Af:=r'
      refine ⟨rfl,OldK.of_keep fun b o e=>?_,os,bare⟩
      cases q:H b with
      | none=>exact un.keep b o e q (by intro z;exact A8 (show b∈([]:Ab Ad) from z) (by simp)) (by simp)
      | some u =>
        rcases hO b with z | ⟨ob,xs,z⟩
        ·rw [q] at z;cases z
        ·have z2:=un.frzs b ob _ z
         obtain ⟨e1,_⟩:=hok b _ z
         obtain ⟨e2,_⟩:=hok' b _ z2
         rw [e] at e1;cases e1
         exact e2
 cases hk:K.lookup a with
 | some o =>
   have e:=KX a o hk
   rw [ha] at e
   cases e
   refine core (fun _=>Ag) (fun _=>.inl rfl) (.inr ⟨_,vs.toArray,_,hk,rfl,rfl,rfl,by rw [BB,lenV];exact hl,by simpa using rv⟩) (fun b u z=>by have z':(Ag:Ay HO)=Aa u:=z;cases z') (fun b z=>A8 rfl z) fun z=>A8 rfl z
 | none =>
   refine core (fun b=>if b=a then Aa (.frz { cls:=.type "list",data:=.seq vs.toArray } (.lst (ns.map V.int))) else Ag) (fun b=>?_) (.inl (.inr ⟨{ cls:=.type "list",data:=.seq vs.toArray },At rfl⟩)) (fun b u z=>?_) (fun b z=>?_) fun _=>hk
   ·by_cases hb:b=a
    ·exact .inr ⟨_,_,At hb⟩
    ·exact .inl (Ao hb)
   ·by_cases hb:b=a
    ·have z':=(At hb).symm.trans z
     cases z'
     subst hb
     exact ⟨ha,by rw [Aw];exact hl,vs,_,rv,ha⟩
    ·have z':=(Ao hb).symm.trans z
     cases z'
   ·by_cases hb:b=a
    ·exact hb
    ·exact A8 (Ao hb) z
end L2
namespace L2
open PySem PySem.Spec PyProof.Rows
theorem walk_of {l:OO} {n k:Ae} {q:AN} {loose:Ab Ak} {XP:(Ak->Ay Ah)->AC->Prop} {YP:AA->AC->Prop} {d:DefRec} {K:KC->A6} {CX:AA->CXT} {sp:AA->Sp} {x:Ak}
 (hn:l.most=Aa n) (hn2:n<=A5) (hdf:d.params.defaults=[]) (hr:Cc k callerA)
 (hY:∀(w:AA) (h:AC),YP w h->(K w.params).In h)
 (F:∀(w:AA) (mg:Ak->Ay Ah) (fa:Ad) (h:AC),(K w.params).In h->h.Ns AH mg->mg d.name=Aa (.ref fa) ->
  ∃fd:AE,(∀(s:Ai) (u:Ah),Jc s fd ⟨[u],[]⟩ [(x,u)]) /\
   ∀base:AC,(K w.params).In base->base.Ns AH mg->AG l.prog w (K w.params) mg base (CX w) k fa fd [x] (sp w))
 (hsp:∀(w:AA) (H:Hp) (a:Ad) (ns:Ab Ac),ns.length<=n->MK H->SqL (K w.params) H a (ns.map V.int)->sp w [.ref a] H (fun v _=>v=.bl Af) fun _ _ _=>B5)
 (hCX:∀(w:AA) (H:Hp) (s:Ai) (e:Ah) (s':Ai),CX w [] H s (fun _ _ _=>B5) e s'->B5) :
 V1 q loose XP YP l.row.toRowW d [] (fun f vs=>OX f vs):=by
 refine Att.attach_call hn hdf fun w s₀ s₁ mg mb fa o pm cd doc a vs ns G Y ho hd hcd hmg hobj hints hlen hg=>?_
 have KX:=hY w _ Y
 obtain ⟨fd,hb,hF⟩:=F w mg fa _ KX G.T.g hmg
 exact XR KX G.T.g G.T.b G.T.builtins G.T.nolimit hg hobj hints (CK hlen hn2) hr hF hb (fun H hO hS=>hsp w H a ns hlen hO hS) fun H e s'=>hCX w H s₁ e s'
end L2
namespace L2
open PySem PySem.Spec PyProof.Rows
def BS (s:AD) (j:Ae):AD:=match s with
 | .ClassDef _ _ _ body _ _ _ _ _ _ _=>body.getD j (.Pass ⟨0,0,0,0⟩)
 | _=>.Pass ⟨0,0,0,0⟩
noncomputable def AQ (s:AD):Km:=match s with
 | .FunctionDef _ a _ _ _ _ _ _ _ _=>a
 | _=>{ posonlyargs:=[],args:=[],vararg:=Ag,kwonlyargs:=[],kw_defaults:=[],kwarg:=Ag,defaults:=[] }
noncomputable def AJ (s:AD):Ab AD:=match s with
 | .FunctionDef _ _ b _ _ _ _ _ _ _=>b
 | _=>[]
noncomputable def Aq (s:AD):B1:=match s with
 | .FunctionDef _ _ _ _ _ _ sc _ _ _=>sc
 | _=>{ kind:=.function,names:=[],isGenerator:=As,isCoroutine:=As }
abbrev CX0:CXT:=fun _ _ _ _ _ _=>B5
abbrev E0:XK:=fun _ _ _=>B5
theorem Cd {X:Cx}:Gc CX0 X E0:=fun _ _ _ _ _ _ _ h=>h.elim
structure Fun (K:A6) (x qual:Ak) (st:AD) (f:Ad) (fd:AE):Prop where
 ex:∃(oc:Ah) (od:Ay Ad) (kV doc pm:Ah) (an:Ay Ad) (cdv ct:Ah) (osl:A7 (Ay Ah)),
  fd=AK x qual (AQ st) (AJ st) (Aq st) .none kV doc pm an cdv ct/\K.lookup f=Aa ⟨oc,od,.func fd,osl⟩/\AS K cdv qual=Af
 kp:AL K (.ref f)=Af
section
variable {P:AN} {w:AA} {K:A6} {mg:Ak->Ay Ah} {base:AC}
theorem Fun.ok {x qual:Ak} {st:AD} {f:Ad} {fd:AE} {N ps:Ab Ak} {k:Ae} {sp:Sp} (F:Fun K x qual st f fd) (S:AT N ps (Aq st)) (len:∀vs H Q E,sp vs H Q E->vs.length=ps.length)
 (hbody:∀(cdv:Ah) (A:AV) (outer:Ab BK) (s:Ai) (H:Hp) (vs:Ab V) (Q:VK) (E:XK),Cc k (A.deeper (envOfC qual (Aq st) s.heap.objs.size f cdv))->sp vs H Q E ->
  ∃t,PSs (GC CX0 P w K mg base N qual (Aq st) f cdv A outer s H E).nox (AJ st) t/\t { nx:=fun _ H'=>Q .non H',rt:=Q } (FD N vs) H):AG P w K mg base CX0 (k+1) f fd ps sp:=by
 obtain ⟨oc,od,kV,doc,pm,an,cdv,ct,osl,rfl,lk,hcd⟩:=F.ex
 refine Qx lk hcd S len fun A outer s H vs Q E hr hsp=>?_
 obtain ⟨t,h,q⟩:=hbody cdv A outer s H vs Q E hr hsp
 exact ⟨t,h.nox,q⟩
theorem Fun.binds {x qual:Ak} {st:AD} {f:Ad} {fd:AE} {ps:Ab Ak} (F:Fun K x qual st f fd)
 (h:∀(kV doc pm:Ah) (an:Ay Ad) (cdv ct:Ah) (us:Ab Ah),us.length=ps.length->bindArgs (AK x qual (AQ st) (AJ st) (Aq st) .none kV doc pm an cdv ct) ⟨us,[]⟩=pure (ps.zip us)):AI K fd ps []:=by
 obtain ⟨oc,od,kV,doc,pm,an,cdv,ct,osl,rfl,lk,hcd⟩:=F.ex
 exact .all (h kV doc pm an cdv ct)
theorem AY {x qual:Ak} {st:AD} {f:Ad} {oc:Ah} {od an:Ay Ad} {osl:A7 (Ay Ah)} {kV doc pm cdv ct:Ah} (l:K.lookup f=Aa ⟨oc,od,.func (AK x qual (AQ st) (AJ st) (Aq st) .none kV doc pm an cdv ct),osl⟩)
 (c:AS K cdv qual=Af) (k:AL K (.ref f)=Af):Fun K x qual st f (AK x qual (AQ st) (AJ st) (Aq st) .none kV doc pm an cdv ct):=⟨⟨oc,od,kV,doc,pm,an,cdv,ct,osl,rfl,l,c⟩,k⟩
end
theorem DJ {n:Ae} (h:n<=1000):n < A5:=Hl h (by decide)
section
variable {X:Cx}
theorem pv (i:Ae) {x:Ak} {pos:Pos} (hN:X.N[i]?=Aa x:=by rfl) (hv:Vis X.env.scope x:=by first | exact BW rfl | exact KB (BW rfl) | exact KB (KB rfl)) (hd:(x == ("__debug__":Ak))=As:=by decide)
 (hcd:(x == ("__classdict__":Ak))=As:=by decide):PE X (.Name x pos) (Kk i):=YS hN hv hd hcd
end
theorem Nn {A B:Prop} (h:B):if As=Af then A else B:=by
 rw [Ao B8]
 exact h
theorem No {A B:Prop} (h:A):if Af=Af then A else B:=by
 rw [At rfl]
 exact h
theorem Em {c A B:Prop} [Decidable c] (h1:c->A) (h2:¬ c->B):if c then A else B:=by
 by_cases h:c
 ·rw [At h]
  exact h1 h
 ·rw [Ao h]
  exact h2 h
noncomputable def Ax (H H':Hp):Prop:=∀b o,H b=Aa o->H' b=Aa o
theorem Ax.trans {H H1 H2:Hp} (a:Ax H H1) (b:Ax H1 H2):Ax H H2:=fun c o h=>b c o (a c o h)
theorem Ax.seq {K:A6} {H H':Hp} {a:Ad} {xs:Ab V} (e:Ax H H') (h:SqL K H a xs):SqL K H' a xs:=by
 rcases h with (h | ⟨o,h⟩) | h
 ·exact .inl (.inl (e _ _ h))
 ·exact .inl (.inr ⟨o,e _ _ h⟩)
 ·exact .inr h
end L2
namespace L2
open PySem PySem.Spec PyProof.Rows
section
variable {κ:Type} [Je κ]
noncomputable def B7 (kvs:Ab (κ × V)) (k:κ):Ay V:=(kvs.find? fun kv=>decide (kv.1=k)).map (·.2)
noncomputable def C7 (kvs:Ab (κ × V)) (k:κ) (v:V):Ab (κ × V) :=
 if (kvs.any fun kv=>decide (kv.1=k))=Af then kvs.map (fun kv=>if kv.1=k then (kv.1,v) else kv) else kvs++[(k,v)]
theorem EB {p:κ × V} {r:Ab (κ × V)} {k:κ} (e:p.1=k):B7 (p :: r) k=Aa p.2:=by simp [B7,Ji,e]
theorem EA {p:κ × V} {r:Ab (κ × V)} {k:κ} (e:¬ p.1=k):B7 (p :: r) k=B7 r k:=by simp [B7,Ji,e]
theorem Gs (k:κ):∀kvs:Ab (κ × V),(kvs.any fun kv=>decide (kv.1=k))=(B7 kvs k).isSome
 | []=>rfl
 | p :: r=>by
   rw [Ou]
   by_cases e:p.1=k
   ·simp only [EB e,Be e,Bool.true_or,Vl]
   ·rw [EA e,Bo e,Bool.false_or];exact Gs k r
theorem Ua (k j:κ) (y:V):∀kvs:Ab (κ × V),B7 (kvs.map fun kv=>if kv.1=k then (kv.1,y) else kv) j=(B7 kvs j).map fun x=>if j=k then y else x
 | []=>rfl
 | p :: r=>by
   have ih:=Ua k j y r
   rw [BL]
   by_cases h:p.1=k
   ·rw [At h]
    by_cases e:p.1=j
    ·rw [EB (p:=(p.1,y)) e,EB e,FS,At (e.symm.trans h)]
    ·rw [EA (p:=(p.1,y)) e,EA e,ih]
   ·rw [Ao h]
    by_cases e:p.1=j
    ·rw [EB (p:=p) e,EB e,FS,Ao (fun z=>h (e.trans z))]
    ·rw [EA (p:=p) e,EA e,ih]
theorem Uc (k j:κ) (y:V):∀kvs:Ab (κ × V),B7 kvs k=Ag->B7 (kvs++[(k,y)]) j=if j=k then Aa y else B7 kvs j
 | [],_=>by
   by_cases e:k=j
   ·rw [At e.symm];exact EB (p:=(k,y)) e
   ·rw [Ao (fun z=>e z.symm)];exact EA (p:=(k,y)) e
 | p :: r,hn=>by
   rw [UM]
   have hk:¬ p.1=k:=fun z=>by rw [EB z] at hn;cases hn
   rw [EA hk] at hn
   have ih:=Uc k j y r hn
   by_cases e:p.1=j
   ·rw [EB e,EB e,Ao (fun z=>hk (e.trans z))]
   ·rw [EA e,EA e,ih]
theorem Abz (kvs:Ab (κ × V)) (k j:κ) (y:V):B7 (C7 kvs k y) j=if j=k then Aa y else B7 kvs j:=by
 unfold C7
 by_cases a:(kvs.any fun kv=>decide (kv.1=k))=Af
 ·rw [At a,Ua]
  rw [Gs] at a
  by_cases e:j=k
  ·obtain ⟨x,hx⟩:=Option.isSome_iff_exists.mp a
   rw [At e,e,hx,FS,At rfl]
  ·rw [Ao e]
   cases B7 kvs j with
   | none=>rfl
   | some x=>rw [FS,Ao e]
 ·rw [Ao a]
  refine Uc k j y kvs ?_
  rw [Gs] at a
  cases q:B7 kvs k with
  | none=>rfl
  | some x=>rw [q] at a;exact (a rfl).elim
theorem QM (kvs:Ab (κ × V)) (k:κ) (v:V):(C7 kvs k v).length<=kvs.length+1:=by
 unfold C7
 split
 ·rw [Aw];omega
 ·rw [B9,BA,Cs];omega
theorem Z6 {kvs:Ab (κ × V)} {k:κ} (v:V) (h:B7 kvs k=Ag):C7 kvs k v=kvs++[(k,v)]:=by
 unfold C7
 rw [Gs,h]
 exact Ao (by decide)
theorem CG.isSome_eq {o:Ay V} {u:Ay Ah} (r:CG o u):o.isSome=u.isSome:=by
 cases o with
 | none=>cases u with
   | none=>rfl
   | some _=>exact (show B5 from r).elim
 | some _=>cases u with
   | none=>exact (show B5 from r).elim
   | some _=>rfl
theorem CG.getD {o:Ay V} {u:Ay Ah} {d:V} {d':Ah} (r:CG o u) (rd:Ba d d'):Ba (o.getD d) (u.getD d'):=by
 cases o with
 | none=>cases u with
   | none=>exact rd
   | some _=>exact (show B5 from r).elim
 | some _=>cases u with
   | none=>exact (show B5 from r).elim
   | some _=>exact r
theorem KV.val {kvs:Ab (κ × V)} {vs:Ab (κ × Ah)} (r:KV kvs vs) (k:κ):CG (B7 kvs k) (valueAt vs k):=by
 unfold KV at r
 induction r with
 | nil=>exact EJ
 | @cons p q ps qs h t ih =>
   obtain ⟨h1,h2⟩:=h
   by_cases e:p.1=k
   ·have e':q.1=k:=h1.symm.trans e
    have b:valueAt (q :: qs) k=Aa q.2:=by simp [valueAt,Ji,e']
    rw [EB e,b];exact h2
   ·have e':¬ q.1=k:=fun z=>e (h1.trans z)
    have b:valueAt (q :: qs) k=valueAt qs k:=by simp [valueAt,Ji,e']
    rw [EA e,b];exact ih
theorem KV.any {kvs:Ab (κ × V)} {vs:Ab (κ × Ah)} (r:KV kvs vs) (k:κ):(kvs.any fun kv=>decide (kv.1=k))=vs.any fun kv=>decide (kv.1=k):=by
 unfold KV at r
 induction r with
 | nil=>rfl
 | cons h t ih=>rw [Ou,Ou,ih,h.1]
theorem KV.repl {kvs:Ab (κ × V)} {vs:Ab (κ × Ah)} (r:KV kvs vs) (k:κ) {y:V} {u:Ah} (ry:Ba y u) :
 KV (kvs.map fun kv=>if kv.1=k then (kv.1,y) else kv) (vs.map fun kv=>if kv.1=k then (kv.1,u) else kv):=by
 unfold KV at r ⊢
 induction r with
 | nil=>exact .nil
 | @cons p q ps qs h t ih =>
   rw [BL,BL]
   refine .cons ?_ ih
   obtain ⟨h1,h2⟩:=h
   by_cases e:p.1=k
   ·rw [At e,At (h1.symm.trans e)];exact ⟨h1,ry⟩
   ·rw [Ao e,Ao (fun z=>e (h1.trans z))];exact ⟨h1,h2⟩
theorem KV.put {kvs:Ab (κ × V)} {vs:Ab (κ × Ah)} (r:KV kvs vs) (k:κ) {y:V} {u:Ah} (ry:Ba y u):KV (C7 kvs k y) (stored vs k u):=by
 unfold C7 stored
 rw [r.any k]
 by_cases e:(vs.any fun kv=>decide (kv.1=k))=Af
 ·rw [At e,At e];exact r.repl k ry
 ·rw [Ao e,Ao e];exact Paired.snoc r ⟨rfl,ry⟩
theorem KV.length {kvs:Ab (κ × V)} {vs:Ab (κ × Ah)} (r:KV kvs vs):kvs.length=vs.length:=OI r
end
theorem Lh {P:AN} {w:AA} {k:Key} {u:Ah} (r:Ba (kV k) u):(Dz P w).is k u=Af:=by
 cases k with
 | inl i=>obtain ⟨t,e⟩:=(show ∃t,u=Di i t from r);subst e;exact Yj P w i t
 | inr x=>obtain ⟨t,e⟩:=(show ∃t,u=Jx x t from r);subst e;exact Yk P w x t
theorem QA {P:AN} {w:AA}:∀{ks:Ab Key} {us:Ab Ah},AW (ks.map kV) us->ItemsAre (Dz P w) ks us
 | [],_,r=>by rw [Mh] at r;cases r;exact .nil
 | k :: ks,_,r=>by
   rw [BL] at r
   cases r with
   | cons h t=>exact .cons (Lh h) (QA t)
abbrev KT (H:Hp):Ab (Ab Key × V)->Ab (Ab Key × Ad × Ah)->Prop:=Ed fun p q=>p.1=q.1/\H q.2.1=Aa (.tup (p.1.map kV))/\Ba p.2 q.2.2
theorem KT.val {H:Hp} {kvs:Ab (Ab Key × V)} {xs:Ab (Ab Key × Ad × Ah)} (r:KT H kvs xs) (k:Ab Key):CG (B7 kvs k) ((atKey xs k).map (·.2)):=by
 induction r with
 | nil=>exact EJ
 | @cons p q ps qs h t ih =>
   obtain ⟨h1,_,h2⟩:=h
   by_cases e:p.1=k
   ·have e':q.1=k:=h1.symm.trans e
    have b:atKey (q :: qs) k=Aa q.2:=by simp [atKey,Ji,e']
    rw [EB e,b];exact h2
   ·have e':¬ q.1=k:=fun z=>e (h1.trans z)
    have b:atKey (q :: qs) k=atKey qs k:=by simp [atKey,Ji,e']
    rw [EA e,b];exact ih
theorem KT.repl {H:Hp} {kvs:Ab (Ab Key × V)} {xs:Ab (Ab Key × Ad × Ah)} (r:KT H kvs xs) (k:Ab Key) {y:V} {u:Ah} (ry:Ba y u) :
 KT H (kvs.map fun kv=>if kv.1=k then (kv.1,y) else kv) (xs.map (putAt k u)):=by
 induction r with
 | nil=>exact .nil
 | @cons p q ps qs h t ih =>
   rw [BL,BL]
   refine .cons ?_ ih
   obtain ⟨h1,h2,h3⟩:=h
   unfold putAt
   by_cases e:p.1=k
   ·rw [At e,At (h1.symm.trans e)];exact ⟨h1,h2,ry⟩
   ·rw [Ao e,Ao (fun z=>e (h1.trans z))];exact ⟨h1,h2,h3⟩
theorem KT.put {H:Hp} {kvs:Ab (Ab Key × V)} {xs:Ab (Ab Key × Ad × Ah)} (r:KT H kvs xs) (k:Ab Key) {b:Ad} {y:V} {u:Ah} (hb:H b=Aa (.tup (k.map kV))) (ry:Ba y u) :
 KT H (C7 kvs k y) (storedH xs k b u):=by
 have e:(kvs.any fun kv=>decide (kv.1=k))=(atKey xs k).isSome:=by
  rw [Gs,(r.val k).isSome_eq,Option.isSome_map]
 unfold C7 storedH
 rw [e]
 by_cases q:(atKey xs k).isSome=Af
 ·rw [At q,At q];exact r.repl k ry
 ·rw [Ao q,Ao q];exact Paired.snoc r ⟨rfl,hb,ry⟩
theorem KT.keeps {H H':Hp} {kvs:Ab (Ab Key × V)} {xs:Ab (Ab Key × Ad × Ah)} (r:KT H kvs xs) (ht:∀b ys,H b=Aa (.tup ys)->H' b=Aa (.tup ys)):KT H' kvs xs :=
 Paired.mapP r fun _ _ z=>⟨z.1,ht _ _ z.2.1,z.2.2⟩
section
variable {P:AN} {w:AA} {H:Hp} {h:AC} {a:Ad}
theorem RW {u:HO} (ok:HOk P w H h) (e:Rd H a u):BD P w H h a u:=e.ok ok
theorem JR {kvs:Ab (Key × V)} (ok:HOk P w H h) (e:Rd H a (.dK kvs)):kvs.length<=A5/\(a == DU)=As/\∃vs,KV kvs vs/\h.DictOf (Dz P w) a vs :=
 show BD P w H h a (.dK kvs) from RW ok e
theorem WQ {kvs:Ab (Key × V)} (ok:HOk P w H h) (e:H a=Aa (.dK kvs)):kvs.length<=A5/\(a == DU)=As/\∃vs,KV kvs vs/\h.DictOf (Dz P w) a vs:=JR ok (.inl e)
theorem Li {ks:Ab Key} (ok:HOk P w H h) (e:H a=Aa (.tup (ks.map kV))):(tupleKind (Dz P w)).is h ks a:=by
 obtain ⟨_,its,r,o,h1,h2,n,h3⟩:=(show BD P w H h a (.tup (ks.map kV)) from ok a _ e)
 exact ⟨o,its.toArray,n,h1,h2,h3,by simpa using QA r⟩
theorem HH {kvs:Ab (Ab Key × V)} (ok:HOk P w H h) (e:Rd H a (.dT kvs)):kvs.length<=A5/\(a == DU)=As /\
 ∃xs,KT H kvs xs/\h.DictOfH (tupleKind (Dz P w)) a xs:=by
 obtain ⟨z,y,xs,r,o,es,ep,h1,h2,h3,h4,h5⟩:=(show BD P w H h a (.dT kvs) from RW ok e)
 refine ⟨z,y,xs,r,o,es,ep,h1,h2,h3,h4,fun x hx=>?_,h5⟩
 have all:∀{l:Ab (Ab Key × V)} {m:Ab (Ab Key × Ad × Ah)},KT H l m->∀x∈m,(tupleKind (Dz P w)).is h x.1 x.2.1:=by
  intro l m q
  induction q with
  | nil=>intro x hx;exact nomatch hx
  | @cons p q ps qs hq t ih =>
    intro x hx
    rcases List.mem_cons.mp hx with e | hx
    ·subst e
     exact Li ok (by rw [<- hq.1];exact hq.2.1)
    ·exact ih x hx
 exact all r x hx
theorem WT {kvs:Ab (Ab Key × V)} (ok:HOk P w H h) (e:H a=Aa (.dT kvs)):kvs.length<=A5/\(a == DU)=As /\
 ∃xs,KT H kvs xs/\h.DictOfH (tupleKind (Dz P w)) a xs:=HH ok (.inl e)
end
noncomputable def Ei (H:Hp) (a:Ad) (y:V) (r:Ay V):Prop :=
 (∃kvs k,Rd H a (.dK kvs)/\y=kV k/\r=B7 kvs k)\/∃kvs k b,Rd H a (.dT kvs)/\y=.ref b/\H b=Aa (.tup (k.map kV))/\r=B7 kvs k
noncomputable def HC (H:Hp) (a:Ad) (y v:V) (H':Hp):Prop :=
 (∃kvs k,H a=Aa (.dK kvs)/\y=kV k/\kvs.length < A5/\H'=upd H a (.dK (C7 kvs k v))) \/
 ∃kvs k b,H a=Aa (.dT kvs)/\y=.ref b/\H b=Aa (.tup (k.map kV))/\kvs.length < A5/\H'=upd H a (.dT (C7 kvs k v))
theorem Ei.t {H:Hp} {a b:Ad} {kvs:Ab (Ab Key × V)} {k:Ab Key} (e:H a=Aa (.dT kvs)) (eb:H b=Aa (.tup (k.map kV))):Ei H a (.ref b) (B7 kvs k):=.inr ⟨kvs,k,b,.inl e,rfl,eb,rfl⟩
theorem HC.t {H:Hp} {a b:Ad} {kvs:Ab (Ab Key × V)} {k:Ab Key} {v:V} (e:H a=Aa (.dT kvs)) (eb:H b=Aa (.tup (k.map kV))) (hl:kvs.length < A5) :
 HC H a (.ref b) v (upd H a (.dT (C7 kvs k v))):=.inr ⟨kvs,k,b,e,rfl,eb,hl,rfl⟩
section
variable {X:Cx} {pins:Ab (Ad × A4)} {σ:St} {H:Hp} {s:Ai} {a:Ad} {y v:V} {u r:Ah} {o:Ay V} {A:AV} {E:Ah->Ai->Prop}
theorem Inv.big (I:Inv X pins σ H s):DU < s.heap.objs.size:=by
 have h:AH < s.heap.objs.size:=(I.mod.glob.keeps I.bk).lt
 exact OE (by decide) h
theorem WL {Q:Ah->Ai->Prop} (hu:A.units+1 < cLine) (I:Inv X pins σ H s) (g:Ei H a y (Aa v)) (ry:Ba y u) (h:∀w' s',Inv X pins σ H s'->Ba v w'->Q w' s') :
 Ar (A1 X.prog X.w) A (getItem (.ref a) u) Q E s:=by
 rcases g with ⟨kvs,k,e,ey,l⟩ | ⟨kvs,k,b,e,ey,eb,l⟩
 ·subst ey
  obtain ⟨z,hd,vs,rel,dd⟩:=JR I.hok e
  obtain ⟨w',hw,rw'⟩:=CG.some_of (v:=v) (o:=valueAt vs k) (by rw [l];exact rel.val k)
  exact wpAny_getItem_of (Lh ry) dd.mapOf hw (h w' _ (I.tok _) rw')
 ·subst ey
  cases (show u=A_ b from ry)
  obtain ⟨z,hd,xs,rel,dd⟩:=HH I.hok e
  obtain ⟨w',hw,rw'⟩:=CG.some_of (v:=v) (o:=(atKey xs k).map (·.2)) (by rw [l];exact rel.val k)
  obtain ⟨p,hp,hp2⟩:=Option.map_eq_some_iff.mp hw
  refine wpAny_getItem_heap (Pp hu) (Li I.hok eb) dd hp ?_
  rw [hp2]
  exact h w' _ (I.tok _) rw'
theorem Qi {h':AC} {t':Ae} {ob:HO} (I:Inv X pins σ H s) (mu:Mut (H a)) (hs:Ep a s.heap h') (he:∃q,h'.get? a=Aa q) (new:BD X.prog X.w (upd H a ob) h' a ob) :
 Inv X pins σ (upd H a ob) { s with heap:=h',toks:=t' } :=
 I.write (x:=a) (e:=a) mu (.inl rfl) (fun b q hb z=>(hs.2 b hb).trans z) he new
theorem WP {P:AN} {w:AA} {H':Hp} {h':AC} {kvs:Ab (Key × V)} {vs:Ab (Key × Ah)} (z:kvs.length<=A5) (hd:(a == DU)=As) (rel:KV kvs vs) (dd:h'.DictOf (Dz P w) a vs) :
 BD P w H' h' a (.dK kvs):=⟨z,hd,vs,rel,dd⟩
theorem WM {H':Hp} {Q:CZ->Ai->Prop} (hu:A.units+1 < cLine) (I:Inv X pins σ H s) (g:HC H a y v H') (ry:Ba y u) (rv:Ba v r) (h:∀s',Inv X pins σ H' s'->Q () s') :
 Ar (A1 X.prog X.w) A (setItem (.ref a) u r) Q E s:=by
 rcases g with ⟨kvs,k,e,ey,l,eH⟩ | ⟨kvs,k,b,e,ey,eb,l,eH⟩
 ·subst ey eH
  obtain ⟨z,hd,vs,rel,dd⟩:=WQ I.hok e
  have hz:vs.length<=A5:=by rw [<- rel.length];exact z
  have hl:(C7 kvs k v).length<=A5:=by have:=QM kvs k v;omega
  refine wpAny_setItem_pairs (hsz:=hz) (Lh ry) dd fun h' dd' hs=>h _ ?_
  have he:∃q,h'.get? a=Aa q:=let ⟨q,_,_,hq,_⟩:=dd';⟨q,hq⟩
  exact Qi I (by rw [e];exact EJ) hs he (WP hl hd (rel.put k rv) dd')
 ·subst ey eH
  cases (show u=A_ b from ry)
  obtain ⟨z,hd,xs,rel,dd⟩:=WT I.hok e
  have hz:xs.length<=A5:=by rw [<- OI rel];exact z
  have hl:(C7 kvs k v).length<=A5:=by have:=QM kvs k v;omega
  refine wpAny_setItem_heap (hsz:=hz) (Pp hu) (Li I.hok eb) dd fun h' dd' hs=>h _ ?_
  obtain ⟨q,es,ep,hq,h2,h3,h4,_,h5⟩:=dd'
  refine Qi I (by rw [e];exact EJ) hs ⟨q,hq⟩ ⟨hl,hd,_,(rel.put k eb rv).keeps fun c ys ec=>?_,q,es,ep,hq,h2,h3,h4,h5⟩
  rw [AF (Bq ec e (fun z=>by cases z))]
  exact ec
end
section
variable {X:Cx} {pins:Ab (Ad × A4)} {σ:St} {H:Hp} {s:Ai} {a:Ad} {kvs:Ab (Key × V)} {k:Key} {u:Ah} {A:AV} {E:Ah->Ai->Prop}
end
noncomputable def P6 (i:A3):Prop:=∀ov iv,subscripted i As ov iv=operate [ov,iv] (getItem ov iv)
theorem Aa6 {prog:AN} {w:AA} {A:AV} {E:Ah->Ai->Prop} {s:Ai} {env:BK} {value slice:A3} {pos:Pos} {T id:CN} {Q:Ah->Ai->Prop}
 (hl:typeLookup (.type T) "__getitem__"=pure (Aa (.builtin id))) (hs:P6 slice)
 (h:Ar (A1 prog w) A (eval value env) (fun o s₁=>Ar (A1 prog w) A (eval slice env) (fun i s₂=>s₂.TypeIs o T/\Ar (A1 prog w) A (getItem o i) Q E s₂) E s₁) E s) :
 Ar (A1 prog w) A (eval (.Subscript value slice pos) env) Q E s:=by
 refine Subscript_ (DE h (fun o s₁ h₁=>DE h₁ (fun i s₂ h₂=>?_) fun _ _ x=>x) fun _ _ x=>x)
 obtain ⟨hT,h₂⟩:=h₂
 unfold subscriptTail
 refine Al ?_
 rw [getitemInPython_of_ne hT.not_modules]
 refine Al (MF hT hl ?_)
 have fin:Ar (A1 prog w) A (subscripted slice As o i) (fun r s₃=>Ar (A1 prog w) A (letTemporaryGo value o r >>= fun _=>pure r) Q E s₃) E s₂:=by
  rw [hs o i]
  exact wpAny_operating (DE h₂ (fun r s₃ h₃=>Al (wpAny_letTemporaryGo (A0 h₃))) fun _ _ x=>x)
 first
  | exact A0 (Al fin)
  | exact Al (A0 (Al fin))
  | exact Al fin
theorem WO {X:Cx} {pins:Ab (Ad × A4)} {σ:St} {H:Hp} {s:Ai} {a:Ad} {y:V} {o:Ay V} (I:Inv X pins σ H s) (g:Ei H a y o):s.TypeIs (.ref a) "dict":=by
 rcases g with ⟨kvs,k,e,_,_⟩ | ⟨kvs,k,b,e,_,_,_⟩
 ·obtain ⟨_,_,vs,_,dd⟩:=JR I.hok e
  exact dd.typeIs
 ·obtain ⟨_,_,xs,_,dd⟩:=HH I.hok e
  exact dd.typeIs
inductive RJ (x y:V) (H:Hp) (Q:VK):Prop
 | mk (a:Ad) (v:V):x=.ref a->Ei H a y (Aa v)->Q v H->RJ x y H Q
noncomputable def AaH (td ty:TE):TE:=fun σ H Q=>td σ H fun x H1=>ty σ H1 fun y H2=>RJ x y H2 Q
inductive RK (x y v:V) (H:Hp) (Q:Hp->Prop):Prop
 | mk (a:Ad) (H4:Hp):x=.ref a->HC H a y v H4->Q H4->RK x y v H Q
noncomputable def ZW (td ty tv:TE):TS:=fun D σ H=>tv σ H fun v H1=>td σ H1 fun x H2=>ty σ H2 fun y H3=>RK x y v H3 (D.nx σ)
section
variable {X:Cx} {o i e value:A3} {pos pos' tpos:Pos} {td ty tv:TE}
theorem NB (hu:X.A.units+1 < cLine) (ho:PE X o td) (hi:PE X i ty) (hs:P6 i):PE X (.Subscript o i pos) (AaH td ty):=by
 intro pins s σ H Q I h
 refine Aa6 PySem.F.slot_dict_getitem.lookup hs (thn (ho pins s σ H _ I h) fun u s1 hq_=>?_)
 obtain ⟨x,H1,I1,rx,q1⟩:=hq_
 refine thn (hi pins s1 σ H1 _ I1 q1) fun iv s2 hq_=>?_
 obtain ⟨y,H2,I2,ry,a,v,ex,g,q2⟩:=hq_
 subst ex
 obtain rfl:u=A_ a:=rx
 exact ⟨WO I2 g,WL hu I2 g ry fun w' s3 I3 rw'=>⟨v,H2,I3,rw',q2⟩⟩
theorem RB (hu:X.A.units+1 < cLine) (ho:PE X o td) (hi:PE X i ty) (hv:PE X value tv) (hs:swapsWith value (Aa (.Subscript o i pos')) pos.line X.env=pure As) :
 PS X (.Assign [.Subscript o i pos'] value pos) (ZW td ty tv):=by
 intro pins s σ H D I h
 refine wpAny_Assign_Subscript (thn (hv pins s σ H _ I h) fun r s1 ⟨v,H1,I1,rv,q1⟩=>thn (ho pins s1 σ H1 _ I1 q1) fun u s2 ⟨x,H2,I2,rx,q2⟩=>thn (hi pins s2 σ H2 _ I2 q2) fun iv s3 ⟨y,H3,I3,ry,a,H4,ex,g,q3⟩=>?_) hs
 subst ex
 obtain rfl:u=A_ a:=rx
 exact WM hu I3 g ry rv fun s4 I4=>⟨σ,H4,I4,q3⟩
end
theorem WS {P:AN} {w:AA} {H:Hp} (h:AC) (hb:DU < h.objs.size):BD P w H (h.push { cls:=.type "dict",data:=.dict #[] }) h.objs.size (.dT []) :=
 ⟨BQ _,beq_eq_false_iff_ne.mpr (AM (Bx hb)),[],.nil,_,#[],0,BE _ rfl,⟨rfl,rfl,rfl⟩,rfl,rfl,Hi⟩
noncomputable def AaJ:TE:=fun _ H Q=>∀p,H p=Ag->Q (.ref p) (upd H p (.dT []))
section
variable {X:Cx} {pos:Pos}
theorem Rt:PE X (.Dict [] [] pos) AaJ:=fun pins s σ H Q I h =>
 wpAny_Dict_empty ⟨.ref s.heap.objs.size,_,I.laid (a:=s.heap.objs.size) (o:=.dT []) (t':=s.toks) (fun _ _ q=>Bk _ q) (AB _) (WS s.heap I.big),rfl,h _ (I.hok.fresh (AB _))⟩
end
structure M2 (X:Cx) (o:A3) (m:Ak) (apos:Pos) (e f:A3) (cpos:Pos):Prop where
 base:attributeBase o m X.env (eval o X.env)=eval o X.env
 few:((backTo cpos (Bh [e,f] X.env)).all (fun x=>!x.1) && (backToKw cpos (keywordEach [] X.env)).all (fun x=>x.1.isSome)
  && decide (([e,f]:Ab A3).length+([]:Ab Gz).length+(if ([]:Ab Gz).isEmpty then 0 else 1) < 30))=Af
 line:(apos.endLine == cpos.line)=Af
 trees:backTo cpos (Bh [e,f] X.env)=[(As,eval e X.env),(As,eval f X.env)]
noncomputable def IsD (H:Hp) (a:Ad):Prop:=(∃kvs,Rd H a (.dK kvs))\/∃kvs,Rd H a (.dT kvs)
theorem XA {X:Cx} {pins:Ab (Ad × A4)} {σ:St} {H:Hp} {s:Ai} {a:Ad} (I:Inv X pins σ H s) (d:IsD H a) :
 s.TypeIs (.ref a) "dict"/\(∀b,A_ a=.ref b->∃ob,s.heap.get? b=Aa ob/\ob.dict=Ag)/\(a == DU)=As:=by
 rcases d with ⟨kvs,e⟩ | ⟨kvs,e⟩
 ·obtain ⟨_,hd,vs,_,dd⟩:=JR I.hok e
  refine ⟨dd.typeIs,fun b q=>?_,hd⟩
  cases q
  obtain ⟨ob,_,_,h1,h2,_⟩:=dd
  exact ⟨ob,h1,h2.2.1⟩
 ·obtain ⟨_,hd,xs,_,dd⟩:=HH I.hok e
  refine ⟨dd.typeIs,fun b q=>?_,hd⟩
  cases q
  obtain ⟨ob,_,_,h1,h2,_⟩:=dd
  exact ⟨ob,h1,h2.2.1⟩
section
variable {X:Cx} {pins:Ab (Ad × A4)} {σ:St} {H:Hp} {s:Ai} {a:Ad} {y d:V} {u r:Ah} {o:Ay V} {A:AV} {E:Ah->Ai->Prop}
theorem WK {Q:Ah->Ai->Prop} (hu:A.units+1 < cLine) (I:Inv X pins σ H s) (g:Ei H a y o) (ry:Ba y u) (rd:Ba d r) (h:∀w' s',Inv X pins σ H s'->Ba (o.getD d) w'->Q w' s') :
 Ar (A1 X.prog X.w) A (call (.builtin "dict.get") [.ref a,u,r]) Q E s:=by
 rcases g with ⟨kvs,k,e,ey,l⟩ | ⟨kvs,k,b,e,ey,eb,l⟩
 ·subst ey
  obtain ⟨z,hd,vs,rel,dd⟩:=JR I.hok e
  refine call_meetsIn OM dd.typeIs Vt (Vr _ _ _) (meets_dict_get_default (Dz X.prog X.w) a (Lh ry) hd r) ⟨_,dd.mapOf,h _ _ (I.tok _) ?_⟩
  rw [l]
  exact (rel.val k).getD rd
 ·subst ey
  cases (show u=A_ b from ry)
  obtain ⟨z,hd,xs,rel,dd⟩:=HH I.hok e
  refine call_meetsIn OM dd.typeIs Vt (Vr _ _ _) (meetsH_dict_get_default (tupleKind (Dz X.prog X.w)) a b hd r) ⟨Pp hu,k,xs,Li I.hok eb,dd,h _ _ (I.tok _) ?_⟩
  rw [l]
  exact (rel.val k).getD rd
end
noncomputable def AaI (td ty tx:TE):TE:=fun σ H Q=>td σ H fun x H1=>∃a,x=.ref a/\IsD H1 a/\ty σ H1 fun y H2=>tx σ H2 fun z H3=>∃o,Ei H3 a y o/\Q (o.getD z) H3
section
variable {X:Cx} {o e f:A3} {apos cpos:Pos} {td ty tx:TE}
theorem NC (hu:X.A.units+1 < cLine) (ho:PE X o td) (he:PE X e ty) (hf:PE X f tx) (m:M2 X o "get" apos e f cpos):PE X (.Call (.Attribute o "get" apos) [e,f] [] cpos) (AaI td ty tx):=by
 intro pins s σ H Q I h
 refine wpAny_Call_method m.base m.few m.line PySem.F.plainAttrs_dict OM PySem.F.type_dict_get (thn (ho pins s σ H _ I h) fun u s1 hq_=>?_)
 obtain ⟨x,H1,I1,rx,a,ex,d,q1⟩:=hq_
 subst ex
 obtain rfl:u=A_ a:=rx
 obtain ⟨t1,t2,_⟩:=XA I1 d
 refine ⟨t1,t2,?_⟩
 rw [m.trees]
 refine Of rfl (U0 (E_ (thn (he pins s1 σ H1 _ I1 q1) fun iv s2 ⟨y,H2,I2,ry,q2⟩ =>
  E_ (thn (hf pins s2 σ H2 _ I2 q2) fun fv s3 ⟨z,H3,I3,rz,ov,g,q3⟩=>FI ?_))))
 exact WK hu I3 g ry rz fun w' s4 I4 rw'=>⟨_,H3,I4,rw',q3⟩
end
section
variable {X:Cx} {pins:Ab (Ad × A4)} {σ:St} {H:Hp} {s:Ai} {a:Ad} {kvs:Ab (Key × V)} {A:AV} {E:Ah->Ai->Prop}
end
section
variable {X:Cx} {pins:Ab (Ad × A4)} {σ:St} {H:Hp} {s:Ai} {a:Ad} {y:V} {u:Ah} {A:AV} {E:Ah->Ai->Prop}
end
end L2
namespace L2
open PySem PySem.Spec PyProof.Rows
section
variable {κ:Type} [Je κ]
theorem Ub {kvs:Ab (κ × V)} {k:κ} (h:B7 kvs k=Ag):¬ k∈kvs.map (·.1):=by
 intro m
 obtain ⟨p,hp,e⟩:=List.mem_map.mp m
 have q:(kvs.any fun kv=>decide (kv.1=k))=Af:=List.any_eq_true.mpr ⟨p,hp,Be e⟩
 rw [Gs,h] at q
 exact A8 q (by simp)
theorem Aby {kvs:Ab (κ × V)} {k:κ} {v:V} (h:B7 kvs k=Aa v):k∈kvs.map (·.1):=by
 have q:(kvs.any fun kv=>decide (kv.1=k))=Af:=by
  rw [Gs,h]
  all_goals rfl
 obtain ⟨p,hp,e⟩:=List.any_eq_true.mp q
 exact List.mem_map.mpr ⟨p,hp,DD e⟩
theorem Re:∀{l:Ab κ} {k:κ},l.Nodup->¬ k∈l->(l++[k]).Nodup
 | [],k,_,_=>by simp
 | a :: r,k,h,hk=>by
   obtain ⟨h1,h2⟩:=List.nodup_cons.mp h
   show (a :: (r++[k])).Nodup
   refine List.nodup_cons.mpr ⟨fun m=>?_,Re h2 fun m=>hk (List.mem_cons.mpr (KB m))⟩
   rcases List.mem_append.mp m with q | q
   ·exact h1 q
   ·exact hk (List.mem_cons.mpr (BW (List.mem_singleton.mp q).symm))
theorem Yr {kvs:Ab (κ × V)} {k:κ} (v:V) (hn:(kvs.map (·.1)).Nodup) (h:B7 kvs k=Ag):((C7 kvs k v).map (·.1)).Nodup:=by
 rw [Z6 v h,Bc]
 exact Re hn (Ub h)
end
end L2
namespace L2
open PySem PySem.Spec PyProof.Rows
noncomputable def Sz (n:Ae) (x:Ac):Prop:=x.natAbs < 2 ^ n
section
variable {m n:Ae} {x y:Ac}
theorem Sz.bits (h:Sz n x):DN x<=n:=intBits_le_iff.mpr h
theorem Sz.of_bits (h:DN x<=n):Sz n x:=intBits_le_iff.mp h
theorem Sz.mono (h:Sz m x) (l:m<=n):Sz n x:=.of_bits (CK h.bits l)
theorem Sz.mul (h:Sz m x) (k:Sz n y):Sz (m+n) (x*y):=.of_bits (intBits_mul_le h.bits k.bits)
theorem Sz.add (h:Sz m x) (k:Sz n y):Sz (max m n+1) (x+y):=.of_bits (intBits_add_le h.bits k.bits)
theorem Sz.sub (h:Sz m x) (k:Sz n y):Sz (max m n+1) (x - y):=.of_bits (intBits_sub_le h.bits k.bits)
theorem Sz.neg (h:Sz m x):Sz m (-x):=.of_bits (intBits_neg_le h.bits)
theorem Sz.fdiv (h:Sz m x):Sz m (x.fdiv y):=.of_bits (intBits_fdiv_le h.bits)
theorem szd (n:Ae) {x:Ac} (h:decide (x.natAbs < 2 ^ n)=Af:=by decide +kernel):Sz n x:=(show x.natAbs < 2 ^ n from DD h)
theorem C1 (h:-(2 ^ n:Ae) < x) (k:x < (2 ^ n:Ae)):Sz n x:=by
 unfold Sz
 generalize 2 ^ n=p at h k ⊢
 omega
end
noncomputable def KR (i j:Ac):Prop:=∃m n,Sz m i/\Sz n j/\m+n<=134217728
theorem Ra {i j:Ac} {m n:Ae} (h:Sz m i) (k:Sz n j) (l:decide (m+n<=134217728)=Af:=by decide +kernel):KR i j:=⟨m,n,h,k,DD l⟩
noncomputable def Wr (_ j:Ac):Prop:=j≠0/\Sz 9000 j
section
variable {X:Cx}
theorem Do:OpR X (Ef .Mult) (rI KR fun i j=>.int (i*j)):=opI fun _ _ _ _ _ _ _ hc q =>
 mul_int q (let ⟨_,_,a,b,c⟩:=hc;IntMulOk.of_le a.bits b.bits c)
theorem CO:OpR X (Ef .FloorDiv) (rI Wr fun i j=>.int (i.fdiv j)):=opI fun _ j _ _ _ _ _ hc q =>
 floordiv_int hc.1 q (.inl (PyProof.noPylong_of_log2 ((Nat.log2_lt (by have:=hc.1;omega)).mpr hc.2)))
theorem Yu {x y:Ac} (h:Sz 13500 x):Builtin.divisionGoesByPylong x y=As:=by
 have key:(if x == 0 then 0 else x.natAbs.log2 / 30+1)<=450:=by
  by_cases hy:(x == 0)=Af
  ·rw [At hy];exact BQ _
  ·rw [Ao hy]
   have nz:x.natAbs≠0:=by
    have:¬ x=0:=fun e=>hy (by rw [e];rfl)
    omega
   have:=(Nat.log2_lt nz).mpr h
   omega
 show (decide ((if y == 0 then 0 else y.natAbs.log2 / 30+1) > 300) && decide ((if x == 0 then 0 else x.natAbs.log2 / 30+1) > (if y == 0 then 0 else y.natAbs.log2 / 30+1)+150))=As
 generalize (if y == 0 then 0 else y.natAbs.log2 / 30+1)=dy
 generalize (if x == 0 then 0 else x.natAbs.log2 / 30+1)=dx at key
 by_cases c:dy > 300
 ·rw [Bo (show ¬ dx > dy+150 by omega),Od]
 ·rw [Bo c,Ur]
theorem Rp:OpR X (Ef .FloorDiv) (rI (fun i j=>j≠0/\Sz 13500 i) fun i j=>.int (i.fdiv j)):=opI fun _ _ _ _ _ _ _ hc q=>floordiv_int hc.1 q (.inl (Yu hc.2))
theorem Ww (ns ms:Ab Ac):((Bz (min ns.length ms.length)).all (fun j=>ns.getD j 0 == ms.getD j 0) && ns.length == ms.length)=decide (ns=ms):=by
 rw [Jd]
 simp only [Oc,Ot,List.mem_range,beq_iff_eq,G6]
 constructor
 ·rintro ⟨h,l⟩
  refine G0 l fun i h1 h2=>?_
  have:=h i (by omega)
  simpa [BP,h1,h2] using this
 ·rintro rfl
  exact ⟨fun _ _=>rfl,rfl⟩
theorem Ro (hu:X.A.units < cLine):OpR X (CS .Eq) (fun x y H Q=>∃(a b:Ad) (ns ms:Ab Ac),x=.ref a/\y=.ref b/\SqT X.K H a (ns.map V.int)/\SqT X.K H b (ms.map V.int)/\Q (.bl (decide (ns=ms))) H):=by
 intro pins s σ H x y v u Q I rx ry h
 obtain ⟨a,b,ns,ms,rfl,rfl,ha,hb,q⟩:=h
 cases rx
 cases ry
 obtain ⟨its,rv,ht,_⟩:=I.tuple ha
 obtain ⟨its2,rv2,ht2,_⟩:=I.tuple hb
 have l1:ns.length=its.length:=by rw [<- rv.length,Aw]
 have l2:ms.length=its2.length:=by rw [<- rv2.length,Aw]
 refine SeqAt.eq_tupleAt (e:=fun j=>ns.getD j 0 == ms.getD j 0) (show s.heap.IsTuple a its.toArray from ht) (show s.heap.IsTuple b its2.toArray from ht2) hu (fun j h1 h2=>?_) ?_
 ·have h1':j < ns.length:=by rw [l1];simpa using h1
  have h2':j < ms.length:=by rw [l2];simpa using h2
  obtain ⟨u1,e1,r1⟩:=rv.get (i:=j) (x:=.int ns[j]) (by rw [Bm,BF h1'] <;> rfl)
  obtain ⟨u2,e2,r2⟩:=rv2.get (i:=j) (x:=.int ms[j]) (by rw [Bm,BF h2'] <;> rfl)
  obtain ⟨t1,rfl⟩:=r1
  obtain ⟨t2,rfl⟩:=r2
  have f1:its.toArray[j]=.int ns[j] t1:=by
   have:=(List.getElem?_eq_some_iff.mp e1).2
   simpa using this
  have f2:its2.toArray[j]=.int ms[j] t2:=by
   have:=(List.getElem?_eq_some_iff.mp e2).2
   simpa using this
  rw [f1,f2]
  have g1:ns.getD j 0=ns[j]:=by simp [BP,h1']
  have g2:ms.getD j 0=ms[j]:=by simp [BP,h2']
  show SeqAt.EqAt X.A.in1 s (.int ns[j] t1) (.int ms[j] t2) (ns.getD j 0 == ms.getD j 0)
  rw [g1,g2]
  exact VC _ _ _ _
 ·have e:((Bz (min its.toArray.size its2.toArray.size)).all (fun j=>ns.getD j 0 == ms.getD j 0) && its.toArray.size == its2.toArray.size)=decide (ns=ms):=by
   rw [BB,BB,<- l1,<- l2]
   exact Ww ns ms
  rw [e]
  exact ⟨.bl _,H,I,rfl,q⟩
theorem Ge:Dk X (.builtin "isinstance") (fun xs H Q=>∃x t c b,xs=[x,.ty c]/\C3 X.K H x t/\Jt X.K t (.type c)=Aa b/\Q (.bl b) H):=by
 intro pins s σ H xs us Q I rv h
 obtain ⟨x,t,c,b,rfl,ty,e,q⟩:=h
 obtain ⟨u,u',rfl,r1,r2⟩:=NZ rv
 cases (show u'=Ck c from r2)
 exact XB I r1 ty e fun tk=>⟨.bl b,H,I.tok tk,rfl,q⟩
end
section
variable {K:A6}
theorem QD:Jt K (.type "int") (.type "int")=Aa Af:=by
 show (if ((Ck "int") == (Ck "int"))=Af then Aa Af else (if My "int"=Af then (M3 "int").map (·.contains (Ck "int")) else Ag))=Aa Af
 decide +kernel
theorem QC:Jt K (.type "int") (.type "bool")=Aa As:=by
 show (if ((Ck "int") == (Ck "bool"))=Af then Aa Af else (if My "bool"=Af then (M3 "int").map (·.contains (Ck "bool")) else Ag))=Aa As
 decide +kernel
theorem QF:Jt K (.type "tuple") (.type "tuple")=Aa Af:=by
 show (if ((Ck "tuple") == (Ck "tuple"))=Af then Aa Af else (if My "tuple"=Af then (M3 "tuple").map (·.contains (Ck "tuple")) else Ag))=Aa Af
 decide +kernel
theorem QE:Jt K (.type "list") (.type "list")=Aa Af:=by
 show (if ((Ck "list") == (Ck "list"))=Af then Aa Af else (if My "list"=Af then (M3 "list").map (·.contains (Ck "list")) else Ag))=Aa Af
 decide +kernel
end
noncomputable def AaM (c:TT) (t u:TS):TS:=fun D σ H=>∃M:St->Hp->Prop,(c σ H fun b H1=>if b=Af then t { D with nx:=M } σ H1 else u { D with nx:=M } σ H1)/\∀σ' H',M σ' H'->D.nx σ' H'
theorem NI {X:Cx} {c:A3} {a b:Ab AD} {tc:TT} {t u:TS} {pos:Pos} (hc:PT X c tc) (ha:PSs X a t) (hb:PSs X b u):PS X (.If c a b pos) (AaM tc t u):=by
 intro pins s σ H D I h
 obtain ⟨M,h,hM⟩:=h
 have up:∀(f:Flow) (s':Ai),SP X pins { D with nx:=M } f s'->SP X pins D f s':=fun f s' q=>by
  cases f with
  | next =>
    obtain ⟨σ',H',I',q⟩:=q
    exact ⟨σ',H',I',hM σ' H' q⟩
  | ret v=>exact q
  | brk=>exact q
  | cont=>exact q
 refine wpAny_If (thn (hc pins s σ H _ I h) fun d s1 hq_=>?_)
 obtain ⟨H1,I1,q1⟩:=hq_
 cases d with
 | true=>exact thn (ha pins s1 σ H1 _ I1 q1) up
 | false=>exact thn (hb pins s1 σ H1 _ I1 q1) up
theorem WI:F' 10 40:=⟨by decide,by decide,by decide⟩
theorem D7 {n:Ae} (h:n<=1000):n<=A5:=EG (DJ h)
theorem XC {ns:Ab Ac} {k:Ac} (h0:0<=k) (h:k < (ns.length:Ac)):∃v:Ac,atI (ns.map V.int) k=Aa (.int v):=by
 have hk:k.toNat < ns.length:=by omega
 have ek:k=((k.toNat:Ae):Ac):=by omega
 have q:atI (ns.map V.int) ((k.toNat:Ae):Ac)=Aa (.int ns[k.toNat]):=Dv (by rw [Bm,BF hk] <;> rfl)
 rw [<- ek] at q
 exact ⟨_,q⟩
end L2
namespace L2
open PySem PySem.Spec PyProof.Rows
noncomputable def Cx.inComp (X:Cx) (Nc:Ab Ak) (sc:B1) (cl:Ab (Ak × Ad)) (s:Ai) (H:Hp) (ex:Ab Ad):Cx :=
 { X with N:=Nc,s₀:=s,H₀:=H,env:=compEnvC sc cl s.heap.objs.size X.env,outer:=X.stack,stack:=X.stack,ex:=ex,fn:=fun _=>As,pn:=[],xe:=fun _ _=>B5 }
theorem WF {env:BK} {f:Ak × FQ->Ab (Ak × Ad)->C2 (ForInStep (Ab (Ak × Ad)))}
 (hf:∀n k r,f (n,k) r=if (k == FR)=Af then (cellOf env n >>= fun c=>pure (Fa ((n,c) :: r))) else pure (Fa r)) :
 ∀(l:Ab (Ak × FQ)) (cs:Ab (Ak × Ad)),(∀x∈l,x.2=.free->∃c,env.cells.lookup x.1=Aa c) ->
  ∃cl,(forIn l cs f:C2 (Ab (Ak × Ad)))=pure cl/\(∀p∈cl,p∈cs\/env.cells.lookup p.1=Aa p.2)/\(∀p∈cs,p∈cl)/\∀x∈l,x.2=.free->∃c,(x.1,c)∈cl:=by
 intro l
 induction l with
 | nil =>
   intro cs _
   exact ⟨cs,by rw [K5],fun p hp=>.inl hp,fun p hp=>hp,fun x hx=>A8 hx (by simp)⟩
 | cons y r ih =>
   intro cs h
   obtain ⟨n,k⟩:=y
   by_cases hk:k=.free
   ·subst hk
    obtain ⟨c,hc⟩:=h (n,.free) (by simp) rfl
    have e:cellOf env n=pure c:=by
     unfold cellOf
     rw [show env.cells.lookup n=Aa c from hc]
    obtain ⟨cl,h1,h2,h3,h4⟩:=ih ((n,c) :: cs) fun x hx=>h x (Bv _ hx)
    refine ⟨cl,?_,fun p hp=>?_,fun p hp=>h3 p (Bv _ hp),fun x hx hf'=>?_⟩
    ·rw [L_,hf,At (by decide),e]
     simp only [MC]
     exact h1
    ·rcases h2 p hp with z | z
     ·rcases List.mem_cons.mp z with z | z
      ·subst z;exact .inr hc
      ·exact .inl z
     ·exact .inr z
    ·rcases List.mem_cons.mp hx with z | z
     ·subst z;exact ⟨c,h3 _ (by simp)⟩
     ·exact h4 x z hf'
   ·have hb:(k == FR)=As:=by simpa using hk
    obtain ⟨cl,h1,h2,h3,h4⟩:=ih cs fun x hx=>h x (Bv _ hx)
    refine ⟨cl,?_,h2,h3,fun x hx hf'=>?_⟩
    ·rw [L_,hf,hb,Ao (by decide)]
     simp only [MC]
     exact h1
    ·rcases List.mem_cons.mp hx with z | z
     ·subst z;exact A8 hf' hk
     ·exact h4 x z hf'
theorem QO {α:Type}:∀{l:Ab (Ak × α)} {n:Ak} {c:α},(n,c)∈l->∃d,l.lookup n=Aa d
 | (k,v) :: r,n,c,h=>by
   rw [FN]
   cases hx:(n == k) with
   | true=>exact ⟨v,rfl⟩
   | false =>
     rcases List.mem_cons.mp h with z | z
     ·cases z
      simp at hx
     ·exact QO z
theorem Qb {env:BK} {sc:B1} (h:∀x∈sc.names,x.2=.free->∃c,env.cells.lookup x.1=Aa c) :
 ∃cl,closureFor sc env=pure cl/\(∀y c,cl.lookup y=Aa c->env.cells.lookup y=Aa c)/\∀x∈sc.names,x.2=.free->∃c,cl.lookup x.1=Aa c:=by
 obtain ⟨cl,h1,h2,_,h4⟩:=WF (env:=env) (f:=fun x r=>if (x.2 == FR)=Af then (cellOf env x.1 >>= fun c=>pure (Fa ((x.1,c) :: r))) else pure (Fa r)) (fun _ _ _=>rfl) sc.names [] h
 refine ⟨cl,?_,fun y c e=>?_,fun x hx hf=>?_⟩
 ·unfold closureFor
  have:(forIn sc.names ([]:Ab (Ak × Ad)) fun x r=>(match x with | (name,kind)=>if (kind == FR)=Af then (do let __do_lift <- cellOf env name;pure (Fa ((name,__do_lift) :: r))) else pure (Fa r)):C2 (Ab (Ak × Ad)))=pure cl:=h1
  first
   | (simp only [this,MC];done)
   | (simp only [h1,MC];done)
   | (rw [show (forIn sc.names ([]:Ab (Ak × Ad)) _:C2 (Ab (Ak × Ad)))=pure cl from h1];rfl)
 ·rcases h2 (y,c) (Ff e) with z | z
  ·exact A8 z (by simp)
  ·exact z
 ·obtain ⟨c,hc⟩:=h4 x hx hf
  exact QO hc
theorem Nv (env:BK):∀(names:Ab (Ak × FQ)) (y:Ak),
 (names.map fun (n,k)=>if (k == FR && env.scope.kind == .function && env.kindOf n == Aa .cell) then (n,Hk) else (n,k)).lookup y
  = (names.lookup y).map fun k=>if (k == FR && env.scope.kind == .function && env.kindOf y == Aa .cell) then Hk else k
 | [],y=>rfl
 | (n,k) :: r,y=>by
   have ih:=Nv env r y
   rw [BL]
   dsimp only
   cases hx:(y == n) with
   | true =>
     have e:y=n:=by simpa using hx
     subst e
     by_cases c:(k == FR && env.scope.kind == .function && env.kindOf y == Aa .cell)=Af
     ·rw [At c];simp only [FN,hx,FS];rw [At c]
     ·rw [Ao c];simp only [FN,hx,FS];rw [Ao c]
   | false =>
     by_cases c:(k == FR && env.scope.kind == .function && env.kindOf n == Aa .cell)=Af
     ·rw [At c];simp only [FN,hx];exact ih
     ·rw [Ao c];simp only [FN,hx];exact ih
noncomputable def Ek (X:Cx) (ifs:Ab A3) (t:TT):Prop :=
 ∀(pins:Ab (Ad × A4)) (s:Ai) (σ:St) (H:Hp) (Q:AR->Hp->Prop),Inv X pins σ H s->t σ H Q ->
  Ar (A1 X.prog X.w) X.A (forIn ifs Af fun c r=>if r=Af then do let ok <- isTrue c X.env (eval c X.env);pure (Fa ok) else pure (Fa r)) (TP X pins σ Q) X.xe s
noncomputable def TJ:TT:=fun _ H Q=>Q Af H
theorem yes {σ:St} {H:Hp} {Q:AR->Hp->Prop} (h:Q Af H):TJ σ H Q:=h
theorem Cv {X:Cx}:Ek X [] TJ:=by
 intro pins s σ H Q I h
 rw [K5]
 exact A0 ⟨H,I,h⟩
theorem Ka {X:Cx} {c:A3} {t:TT} (hc:PT X c t):Ek X [c] t:=by
 intro pins s σ H Q I h
 rw [L_,At rfl]
 refine Al (Al (thn (hc pins s σ H Q I h) fun b s1 q=>A0 ?_))
 dsimp only
 rw [K5]
 exact A0 q
theorem E9 {α:Type} {t:C2 α} {Q Q':α->Ai->Prop} {M:DR} {A:AV} {E:Ah->Ai->Prop} {s:Ai} (h:Ar M A t Q (fun _ _=>B5) s) (hQ:∀a s,Q a s->Q' a s):Ar M A t Q' E s:=DE h hQ fun _ _ z=>z.elim
noncomputable def T8 (wi:TI) (tt:TT) (te:TE):TE:=fun σ H Q=>wi σ H fun J H1=>∀D,H1 D=Ag->∃W:Ae->Ae->Ab V->Hp->Prop,(∃m,W 0 m [] (upd H1 D (.lst [])))/\∀i m ys H2,W i m ys H2 ->
 H2 D=Aa (.lst ys)/\((J.stop i H2/\Q (.ref D) H2)\/(J.go i H2/\ys.length < A5/\∀x H3,J.yld i H2 x H3->tt (σ++[Aa x]) H3 fun b H4=>if b=Af then te (σ++[Aa x]) H4 fun y H5=>H5 D=Aa (.lst ys)/\∃m',m' < m/\W (i+1) m' (ys++[y]) (upd H5 D (.lst (ys++[y])))
  else ∃m',m' < m/\W (i+1) m' ys H4))
structure HB (N Nc:Ab Ak) (x:Ak) (sc fsc:B1):Prop where
 kind:sc.kind=.function
 cell:∀y∈sc.names,y.2≠.cell
 nm:∀y∈sc.names,y.2=.local->sc.names.lookup y.1=Aa .local
 own:sc.names.lookup x=Aa .local
 fr:∀y∈sc.names,y.2=.free->fsc.names.lookup y.1=Aa .cell\/fsc.names.lookup y.1=Aa .free
 len:Nc.length=N.length+1
 nd:Nc.Nodup
 last:Nc[N.length]?=Aa x
 slot:((Bz N.length).all fun i=>match Nc[i]? with
  | some y=>(match sc.names.lookup y with | some .free=>N[i]? == Aa y | some .local=>As | some .cell=>As | _=>Af)
  | none=>Af)=Af
theorem HB.at {N Nc:Ab Ak} {x:Ak} {sc fsc:B1} (C:HB N Nc x sc fsc) {i:Ae} {y:Ak} (hi:i < N.length) (h:Nc[i]?=Aa y):sc.names.lookup y≠Aa .local/\sc.names.lookup y≠Aa .cell/\(sc.names.lookup y=Aa .free->N[i]?=Aa y):=by
 have q:=List.all_eq_true.mp C.slot i (List.mem_range.mpr hi)
 rw [h] at q
 dsimp only at q
 cases e:sc.names.lookup y with
 | none=>exact ⟨fun z=>(nomatch z),fun z=>(nomatch z),fun z=>(nomatch z)⟩
 | some k =>
   rw [e] at q
   cases k with
   | «local»=>exact A8 (show As=Af from q) B8
   | cell=>exact A8 (show As=Af from q) B8
   | free=>exact ⟨fun z=>(nomatch z),fun z=>(nomatch z),fun _=>by simpa using q⟩
   | _=>exact ⟨fun z=>(nomatch z),fun z=>(nomatch z),fun z=>(nomatch z)⟩
section
variable {X:Cx} {elt iter:A3} {x:Ak} {px pos:Pos} {ifs:Ab A3} {sc fsc:B1} {N Nc:Ab Ak} {wi:TI} {tt:TT} {te:TE}
structure MJ (X:Cx) (pins:Ab (Ad × A4)) (H:Hp) (C:Ad):Prop where
 free:H C=Ag
 ne:C≠X.env.locals
 new:X.s₀.heap.objs.size<=C
 cells:∀x c,X.env.cells.lookup x=Aa c->c≠C
 pins:∀p∈X.pn++pins,p.1≠C
theorem Inv.sameBut {pins:Ab (Ad × A4)} {σ:St} {H:Hp} {s:Ai} {C:Ad} {h':AC} (I:Inv X pins σ H s) (c:MJ X pins H C) (k:Ep C s.heap h'):Inv X pins σ H { s with heap:=h' } :=
 I.turned (t':=s.toks) (it:=C) (fun b o hb e=>(k.2 b hb).trans e) c.free c.ne (.inr c.new) c.cells c.pins
theorem Aae {σ:St} {o v:Ay V}:(σ++[o]).set σ.length v=σ++[v]:=by
 rw [OB _ _ (AB _),Ho]
 rfl
end
theorem Gf {lo:Ac} {n:Ae} {tt:TT} {te:TE} {σ:St} {H1:Hp} {Q:Ad->Hp->Prop} (hn:n<=A5) (Pv:Ad->Ae->Ab V->Hp->Prop)
 (h0:∀D,H1 D=Ag->Pv D 0 [] (upd H1 D (.lst []))) (hD:∀D i ys H,Pv D i ys H->H D=Aa (.lst ys)/\ys.length<=i)
 (hs:∀D i ys H (K1:VK) (K2:Hp->Prop),H1 D=Ag->i < n->Pv D i ys H->(∀y H5,H5 D=Aa (.lst ys)->Pv D (i+1) (ys++[y]) (upd H5 D (.lst (ys++[y])))->K1 y H5)->(∀H4,Pv D (i+1) ys H4->K2 H4) ->
  tt (σ++[Aa (.int (lo+i))]) H fun b H4=>if b=Af then te (σ++[Aa (.int (lo+i))]) H4 K1 else K2 H4)
 (hd:∀D ys H,H1 D=Ag->Pv D n ys H->Q D H) :
 ∀D,H1 D=Ag->∃W:Ae->Ae->Ab V->Hp->Prop,(∃m,W 0 m [] (upd H1 D (.lst [])))/\∀i m ys H2,W i m ys H2 ->
  H2 D=Aa (.lst ys)/\(((Itr lo n).stop i H2/\Q D H2)\/((Itr lo n).go i H2/\ys.length < A5/\∀x H3,(Itr lo n).yld i H2 x H3->tt (σ++[Aa x]) H3 fun b H4=>if b=Af then te (σ++[Aa x]) H4 fun y H5=>H5 D=Aa (.lst ys)/\∃m',m' < m/\W (i+1) m' (ys++[y]) (upd H5 D (.lst (ys++[y])))
   else ∃m',m' < m/\W (i+1) m' ys H4)):=by
 intro D hDn
 refine ⟨fun i m ys H=>m=n - i/\i<=n/\Pv D i ys H,⟨n,rfl,BQ _,h0 D hDn⟩,?_⟩
 rintro i m ys H2 ⟨rfl,hi,p⟩
 obtain ⟨e,l⟩:=hD D i ys H2 p
 refine ⟨e,?_⟩
 by_cases hlt:i < n
 ·refine .inr ⟨hlt,Hl l (Cg hlt hn),fun x H3 y=>?_⟩
  obtain ⟨e1,e2⟩:=y
  subst e1 e2
  exact hs D i ys _ _ _ hDn hlt p (fun y H5 h5 p5=>⟨h5,n - (i+1),by omega,rfl,hlt,p5⟩) fun H4 p4=>⟨n - (i+1),by omega,rfl,hlt,p4⟩
 ·have ei:i=n:=by omega
  subst ei
  exact .inl ⟨AB _,hd D ys H2 hDn p⟩
theorem DW {K:A6} {a:Ad} {xs:Ab V} {tt:TT} {te:TE} {σ:St} {H1:Hp} {Q:Ad->Hp->Prop} (hn:xs.length<=A5) (Pv:Ad->Ae->Ab V->Hp->Prop)
 (h0:∀D,H1 D=Ag->Pv D 0 [] (upd H1 D (.lst []))) (hD:∀D i ys H,Pv D i ys H->H D=Aa (.lst ys)/\ys.length<=i) (hl:∀D i ys H,H1 D=Ag->Pv D i ys H->SqL K H a xs)
 (hs:∀D i x ys H (K1:VK) (K2:Hp->Prop),H1 D=Ag->xs[i]?=Aa x->Pv D i ys H->(∀y H5,H5 D=Aa (.lst ys)->Pv D (i+1) (ys++[y]) (upd H5 D (.lst (ys++[y])))->K1 y H5)->(∀H4,Pv D (i+1) ys H4->K2 H4) ->
  tt (σ++[Aa x]) H fun b H4=>if b=Af then te (σ++[Aa x]) H4 K1 else K2 H4)
 (hd:∀D ys H,H1 D=Ag->Pv D xs.length ys H->Q D H) :
 ∀D,H1 D=Ag->∃W:Ae->Ae->Ab V->Hp->Prop,(∃m,W 0 m [] (upd H1 D (.lst [])))/\∀i m ys H2,W i m ys H2 ->
  H2 D=Aa (.lst ys)/\(((Itl K a).stop i H2/\Q D H2)\/((Itl K a).go i H2/\ys.length < A5/\∀x H3,(Itl K a).yld i H2 x H3->tt (σ++[Aa x]) H3 fun b H4=>if b=Af then te (σ++[Aa x]) H4 fun y H5=>H5 D=Aa (.lst ys)/\∃m',m' < m/\W (i+1) m' (ys++[y]) (upd H5 D (.lst (ys++[y])))
   else ∃m',m' < m/\W (i+1) m' ys H4)):=by
 intro D hDn
 refine ⟨fun i m ys H=>m=xs.length - i/\i<=xs.length/\Pv D i ys H,⟨xs.length,rfl,BQ _,h0 D hDn⟩,?_⟩
 rintro i m ys H2 ⟨rfl,hi,p⟩
 obtain ⟨e,l⟩:=hD D i ys H2 p
 have q:=hl D i ys H2 hDn p
 refine ⟨e,?_⟩
 by_cases hlt:i < xs.length
 ·refine .inr ⟨⟨xs,xs[i],q,by simp [hlt]⟩,Hl l (Cg hlt hn),fun x H3 y=>?_⟩
  obtain ⟨e1,y⟩:=y
  subst e1
  exact hs D i x ys _ _ _ hDn (y xs q) p (fun y H5 h5 p5=>⟨h5,xs.length - (i+1),by omega,rfl,hlt,p5⟩) fun H4 p4=>⟨xs.length - (i+1),by omega,rfl,hlt,p4⟩
 ·have ei:i=xs.length:=by omega
  subst ei
  exact .inl ⟨⟨xs,q,AB _⟩,hd D ys H2 hDn p⟩
section
variable {X:Cx}
theorem HL (K:A6) (h:X.K=K:=by rfl):IxR X (NL K):=by subst h;exact B0
theorem Nq (K:A6) (h:X.K=K:=by rfl):IxR X (NM K):=by subst h;exact C6
theorem W7 (K:A6) (h:X.K=K:=by rfl):Dk X (.builtin "len") (fun xs H Q=>∃x n,xs=[x]/\P4 K x H n/\Q (.int n) H):=by subst h;exact W6
end
end L2
namespace L2
open PySem PySem.Spec PyProof.Rows
section
variable {X:Cx}
inductive RL (K:A6) (x y:V) (H:Hp) (Q:VK):Prop
 | mk (a b:Ad) (ns ms:Ab Ac):x=.ref a->y=.ref b->SqL K H a (ns.map V.int)->SqL K H b (ms.map V.int)->Q (.bl (decide (ns=ms))) H->RL K x y H Q
inductive RR (K:A6) (x y:V) (H:Hp) (Q:VK):Prop
 | mk (a b:Ad) (ns ms:Ab Ac):x=.ref a->y=.ref b->SqL K H a (ns.map V.int)->SqL K H b (ms.map V.int)->Q (.bl (!decide (ns=ms))) H->RR K x y H Q
theorem Y8 (hu:X.A.units+64 < cLine):OpR X (CS .Eq) (RL X.K):=by
 intro pins s σ H x y v u Q I rx ry h
 obtain ⟨a,b,ns,ms,rfl,rfl,ha,hb,q⟩:=h
 cases rx
 cases ry
 obtain ⟨its,rv,ht,_⟩:=I.list ha
 obtain ⟨its2,rv2,ht2,_⟩:=I.list hb
 exact PySem.W.eq_intsK ht.isList (Ft rv) ht2.isList (Ft rv2) hu ⟨.bl _,H,I,rfl,q⟩
theorem Rr (hu:X.A.units+64 < cLine):OpR X (CS .NotEq) (RR X.K):=by
 intro pins s σ H x y v u Q I rx ry h
 obtain ⟨a,b,ns,ms,rfl,rfl,ha,hb,q⟩:=h
 cases rx
 cases ry
 obtain ⟨its,rv,ht,_⟩:=I.list ha
 obtain ⟨its2,rv2,ht2,_⟩:=I.list hb
 exact PySem.W.ne_intsK ht.isList (Ft rv) ht2.isList (Ft rv2) hu ⟨.bl _,H,I,rfl,q⟩
theorem JN (hc:X.calm=Af):Dk X (.builtin "sum") (fun xs H Q=>∃(p:Ad) (ns:Ab Ac),xs=[.ref p]/\SqL X.K H p (ns.map V.int)/\Q (.int ns.sum) H):=by
 intro pins s σ H xs us Q I rv h
 obtain ⟨p,ns,rfl,hS,q⟩:=h
 obtain ⟨u,rfl,r⟩:=EY rv
 cases r
 obtain ⟨its,rv,pl,hz⟩:=I.list hS
 have hi:=Ft rv
 obtain ⟨xs,e⟩:=hi.allInts.items
 have en:xs.toList.map (·.1)=ns:=by
  have:=nums_intItems xs
  rw [<- e,show its.toArray.toList=its from rfl,hi.numsOf] at this
  exact this.symm
 refine sum_intListG (I.ok.hd hc) (by rw [<- e];exact pl.isList) fun h' tk t' hk=>?_
 rw [preSum_eq,CJ (by simp),en]
 exact ⟨.int ns.sum,H,I.kept hk,⟨_,rfl⟩,q⟩
theorem Yo:MtR X "int.bit_length" (fun x xs H Q=>∃i:Ac,x=.int i/\xs=[]/\Q (.int (DN i:Ae)) H):=by
 intro pins s σ H x xs v us Q I rx rv h
 obtain ⟨i,rfl,rfl,q⟩:=h
 obtain ⟨t,rfl⟩:=rx
 cases rv
 exact call_int_bit_length ⟨.int _,H,I.tok _,⟨_,rfl⟩,q⟩
end
theorem Na {xs:Ab V} {j:Ae}:Fp xs Ag (Aa (j:Ac))=xs.take j:=by
 unfold Fp
 rw [HT.sIx_none,HT.sIx_nat,UP,OG]
 by_cases h:j<=xs.length
 ·rw [OF h]
 ·rw [Vh (by omega),CJ (AB _),CJ (by omega)]
end L2
namespace L2
open PySem PySem.Spec PyProof.Rows
noncomputable def Rec (h:AC) (e:Ad) (cls:Ah) (od T:Ay Ad) (fl:Ah):Prop :=
 ∃oe vs,h.get? e=Aa oe/\oe.cls=cls/\oe.dict=od/\oe.data=.fields vs/\vs[2]?=Aa .none /\
  match T with
  | none=>vs[1]?=Aa .none
  | some t=>vs[1]?=Aa (.ref t)/\t≠e/\∃oT ts,h.get? t=Aa oT/\oT.data=.fields ts/\ts[3]?=Aa fl
structure Fl (fs xs:Ab Ad) (h h':AC):Prop where
 keep:∀b o,h.get? b=Aa o->b ∉ fs->b ∉ xs->h'.get? b=Aa o
 slot:∀b o,h.get? b=Aa o->b∈fs->b ∉ xs->∃sl,h'.get? b=Aa { o with slots:=sl }
 there:∀b o,h.get? b=Aa o->∃o',h'.get? b=Aa o'
theorem Fl.any {fs xs:Ab Ad} {h h':AC} (k:Fl fs xs h h') {b:Ad} {o:A4} (e:h.get? b=Aa o) (n:b ∉ xs):∃sl,h'.get? b=Aa { o with slots:=sl }:=by
 by_cases hb:b∈fs
 ·exact k.slot b o e hb n
 ·exact ⟨o.slots,k.keep b o e hb n⟩
theorem Fl.mono {fs fs' xs xs':Ab Ad} {h h':AC} (k:Fl fs xs h h') (hf:∀b∈fs,b∈fs') (hx:∀b∈xs,b∈xs'):Fl fs' xs' h h' :=
 ⟨fun b o e n m=>k.keep b o e (fun z=>n (hf b z)) fun z=>m (hx b z),fun b o e _ m=>k.any e fun z=>m (hx b z),k.there⟩
theorem Qp (f:A7 Ah->A7 Ah) (o:A4):(Ew f o).dict=o.dict:=by
 obtain ⟨c,d,dt,sl⟩:=o
 cases dt <;> rfl
section
variable {M:DR} {A:AV} {E:Ah->Ai->Prop} {s:Ai} {env:BK} {outer:Ab BK} {L e:Ad} {base:AC}
theorem Qu {oe:A4} {vs:A7 Ah} {head:Ah} {nx:AR} {Q:CZ->Ai->Prop} (fr:A.frames=Aa (env :: outer)) (hl:s.heap.FunFrames base (env :: outer)) (hf:env.frame=Aa L)
 (he:s.heap.get? e=Aa oe) (hd:oe.data=.fields vs) (sz:1 < vs.size)
 (k:∀h' oT ts,Fl (frs (env :: outer)) [e] s.heap h'->h'.get? e=Aa (oe.mapFields (·.setIfInBounds 1 (.ref s.heap.objs.size)))->h'.get? s.heap.objs.size=Aa oT->oT.data=.fields ts->ts[3]?=Aa (rawInt L)->Q () { s with heap:=h' }) :
 Ar M A (do let a <- frameOf env;let pl <- entryPlaceOf L nx;let b <- U2 head a .none (rawInt L) .none pl;setField (.ref e) 1 b) Q E s:=by
 have ne:e ∉ frs (env :: outer):=fun hm=>by
  obtain ⟨_,o,ho,hn⟩:=hl.mem hm
  rw [he] at ho
  cases ho
  exact hn vs hd
 refine Al (wpAny_frameOf_fun fr hl hf fun h₁ q=>?_)
 obtain ⟨q1,q2,q3⟩:=q
 refine Al (wpAny_entryPlaceOf fun pl hp=>?_)
 simp only [U2,newFields]
 refine Al (Ez ?_ (hp.sizeOk5 _ _ _ _ _))
 rw [q1]
 generalize hT:({ cls:=.type "traceback",dict:=Ag,data:=.fields ([head,A_ L,.none,rawInt L,.none]++(if pl.isEmpty then Ct 6 B6 else pl)).toArray }:A4)=oT
 have e1:h₁.get? e=Aa oe:=(q2 e ne).trans he
 have e2:(h₁.push oT).get? e=Aa oe:=Bk _ e1
 have lt:s.heap.objs.size≠e:=DC (A' he)
 have hT0:(h₁.push oT).get? s.heap.objs.size=Aa oT:=by
  have:=BE h₁ (o:=oT) (by rw [<- hT];rfl)
  rw [q1] at this
  exact this
 refine G7 e2 hd sz ?_
 have d3:=Ev hd (·.setIfInBounds 1 (A_ s.heap.objs.size))
 have oth:∀b o,b≠e->h₁.get? b=Aa o->((h₁.push oT).update e (Ew (·.setIfInBounds 1 (A_ s.heap.objs.size)))).get? b=Aa o:=fun b o hb z=>by
  rw [FJ _ _ (AM hb)]
  exact Bk _ z
 have es:=EC (Ew (·.setIfInBounds 1 (A_ s.heap.objs.size))) e2 (Jn d3)
 refine k _ oT _ ⟨fun b o z hb hx=>?_,fun b o z hb hx=>?_,fun b o z=>?_⟩ es ?_ (by rw [<- hT]) ?_
 ·exact oth b o (fun y=>hx (by rw [y];exact List.mem_singleton.mpr rfl)) ((q2 b hb).trans z)
 ·obtain ⟨sl,z1⟩:=q3 b o z
  exact ⟨sl,oth b _ (fun y=>hx (by rw [y];exact List.mem_singleton.mpr rfl)) z1⟩
 ·by_cases hb:b=e
  ·rw [hb];exact ⟨_,es⟩
  ·obtain ⟨sl,z1⟩:=q3 b o z
   exact ⟨_,oth b _ hb z1⟩
 ·rw [FJ _ _ (AM lt)];exact hT0
 ·rcases hp with rfl | ⟨_,_,_,_,_,_,_,rfl⟩ <;> simp
theorem Yx {cls:Ah} {od T:Ay Ad} {fl:Ah} {Q:CZ->Ai->Prop} (fr:A.frames=Aa (env :: outer)) (hl:s.heap.FunFrames base (env :: outer)) (hf:env.frame=Aa L) (R:Rec s.heap e cls od T fl)
 (k:∀h' t,Rec h' e cls od (Aa t) (rawInt L)->(T=Aa t\/t=s.heap.objs.size)->Fl (frs (env :: outer)) (e :: T.toList) s.heap h'->Q () { s with heap:=h' }):Ar M A (noteFrame (.ref e) env) Q E s:=by
 obtain ⟨oe,vs,he,hc,ho,hd,h2,hT⟩:=R
 have lt:s.heap.objs.size≠e:=DC (A' he)
 unfold noteFrame
 simp only [hf]
 cases T with
 | none =>
   have h1:vs[1]?=Aa B6:=hT
   have sz:=(Array.getElem?_eq_some_iff.mp h1).1
   refine Al (FY he hd h1 ?_)
   rw [Ao (by decide)]
   refine Qu fr hl hf he hd sz fun h' oT ts kp e' t1 t2 t3=>k h' _ ?_ (.inr rfl) kp
   exact ⟨_,_,e',by rw [K9];exact hc,by rw [Qp];exact ho,Ev hd _,by rw [Uo (by decide)];exact h2,by simp [sz],lt,oT,ts,t1,t2,t3⟩
 | some t =>
   obtain ⟨h1,ne,oT,ts,ht,hdt,h3⟩:=hT
   have sz:=(Array.getElem?_eq_some_iff.mp h1).1
   have sz3:=(Array.getElem?_eq_some_iff.mp h3).1
   refine Al (FY he hd h1 ?_)
   rw [At (show (A_ t != B6)=Af from by simp)]
   refine Al (FY ht hdt h3 ?_)
   by_cases hh:fl=rawInt L
   ·subst hh
    rw [At (show (rawInt L == rawInt L)=Af from by simp)]
    exact A0 (k s.heap t ⟨oe,vs,he,hc,ho,hd,h2,h1,ne,oT,ts,ht,hdt,h3⟩ (.inl rfl) ⟨fun _ _ z _ _=>z,fun _ o z _ _=>⟨o.slots,z⟩,fun _ o z=>⟨o,z⟩⟩)
   ·rw [Ao (show ¬ ((fl == rawInt L)=Af) from by simpa using hh)]
    refine Al (G7 ht hdt sz3 ?_)
    have oth:∀b,b≠t->(s.heap.update t (Ew (·.setIfInBounds 3 B6))).get? b=s.heap.get? b:=fun b hb=>FJ _ _ (AM hb)
    have nf:∀b o,s.heap.get? b=Aa o->(∀vs,o.data≠.fields vs)->b≠t:=fun b o hb hnf q=>by
     rw [q,ht] at hb
     cases hb
     exact hnf ts hdt
    have ts':=EC (Ew (·.setIfInBounds 3 B6)) ht (Jn (Ev hdt _))
    have zs:(s.heap.update t (Ew (·.setIfInBounds 3 B6))).objs.size=s.heap.objs.size:=by first | exact Oi _ _ _ | simp [Heap.update]
    refine Qu (s:={ s with heap:=s.heap.update t (Ew (·.setIfInBounds 3 B6)) }) fr (hl.of_keeps fun b o hb hnf=>⟨o,(oth b (nf b o hb hnf)).trans hb,rfl⟩) hf ((oth e (AM ne)).trans he) hd sz
     fun h' oT' ts'' kp e' t1 t2 t3=>k h' _ ?_ (.inr zs) ?_
    ·rw [show ({ s with heap:=s.heap.update t (Ew (·.setIfInBounds 3 B6)) }:Ai).heap.objs.size=s.heap.objs.size from zs] at *
     exact ⟨_,_,e',by rw [K9];exact hc,by rw [Qp];exact ho,Ev hd _,by rw [Uo (by decide)];exact h2,by simp [sz],lt,oT',ts'',t1,t2,t3⟩
    ·refine ⟨fun b o z hb hx=>?_,fun b o z hb hx=>?_,fun b o z=>?_⟩
     ·have hbe:b≠e:=fun y=>hx (by rw [y];simp)
      have hbt:b≠t:=fun y=>hx (by rw [y];simp)
      exact kp.keep b o ((oth b hbt).trans z) hb (by simpa using hbe)
     ·have hbe:b≠e:=fun y=>hx (by rw [y];simp)
      have hbt:b≠t:=fun y=>hx (by rw [y];simp)
      exact kp.slot b o ((oth b hbt).trans z) hb (by simpa using hbe)
     ·by_cases hbt:b=t
      ·rw [hbt];exact kp.there t _ ts'
      ·exact kp.there b o ((oth b hbt).trans z)
theorem WW {cls:Ah} {od:Ay Ad} {t:Ad} {fl:Ah} {f:Ay Ad} {Q:CZ->Ai->Prop} (R:Rec s.heap e cls od (Aa t) fl)
 (k:∀h',Rec h' e cls od (Aa t) (f.elim .none fun a=>rawInt a)->Fl [] [t] s.heap h'->Q () { s with heap:=h' }):Ar M A (setFlight (.ref e) f) Q E s:=by
 obtain ⟨oe,vs,he,hc,ho,hd,h2,h1,ne,oT,ts,ht,hdt,h3⟩:=R
 have sz3:=(Array.getElem?_eq_some_iff.mp h3).1
 unfold setFlight
 refine Al (FY he hd h1 ?_)
 rw [At (show (A_ t != B6)=Af from by simp)]
 have oth:∀b,b≠t->(s.heap.update t (Ew (·.setIfInBounds 3 (f.elim .none fun a=>rawInt a)))).get? b=s.heap.get? b:=fun b hb=>FJ _ _ (AM hb)
 have ts':=EC (Ew (·.setIfInBounds 3 (f.elim .none fun a=>rawInt a))) ht (Jn (Ev hdt _))
 refine G7 ht hdt sz3 (k _ ?_ ⟨fun b o z _ hx=>(oth b fun y=>hx (by rw [y];simp)).trans z,fun b o z _ hx=>⟨o.slots,(oth b fun y=>hx (by rw [y];simp)).trans z⟩,fun b o z=>?_⟩)
 ·exact ⟨oe,vs,(oth e (AM ne)).trans he,hc,ho,hd,h2,h1,ne,_,_,ts',Ev hdt _,by simp [sz3]⟩
 ·by_cases hbt:b=t
  ·rw [hbt];exact ⟨_,ts'⟩
  ·exact ⟨o,(oth b hbt).trans z⟩
end
end L2
namespace L2
open PySem PySem.Spec PyProof.Rows
structure JJ (X:Cx) (pins:Ab (Ad × A4)) (H:Hp) (b:Ad):Prop where
 un:H b=Ag
 new:X.s₀.heap.get? b=Ag
 loc:b≠X.env.locals
 cel:∀x c,X.env.cells.lookup x=Aa c->c≠b
 pin:∀p∈X.pn++pins,p.1≠b
noncomputable def Fly (X:Cx) (pins:Ab (Ad × A4)) (H:Hp) (e:Ad) (cls:Ah) (od:Ay Ad) (s:Ai):Prop :=
 ∃T fl,Rec s.heap e cls od T fl/\∀b∈e :: T.toList,JJ X pins H b
noncomputable def KW (X:Cx) (pins:Ab (Ad × A4)) (H:Hp) (e:Ad) (cls:Ah) (od:Ay Ad) (fl:Ah) (s:Ai):Prop :=
 ∃t,Rec s.heap e cls od (Aa t) fl/\∀b∈[e,t],JJ X pins H b
structure KQ (X:Cx):Prop where
 stk:X.stack=X.env :: X.outer
 fr:X.env.frame=Aa X.env.locals
 ex:X.ex=[]
theorem HOk.there {P:AN} {w:AA} {H:Hp} {h:AC} {a:Ad} {o:HO} (k:HOk P w H h) (z:H a=Aa o):∃ob,h.get? a=Aa ob:=by
 have x:=k a o z
 cases o with
 | lst xs=>obtain ⟨_,_,_,_,e⟩:=x;exact ⟨_,e⟩
 | tup xs=>obtain ⟨_,_,_,ob,e,_⟩:=x;exact ⟨ob,e⟩
 | dK kvs=>obtain ⟨_,_,_,_,ob,_,_,e,_⟩:=x;exact ⟨ob,e⟩
 | dT kvs=>obtain ⟨_,_,_,_,ob,_,_,e,_⟩:=x;exact ⟨ob,e⟩
 | set S n=>obtain ⟨ob,_,_,_,e,_⟩:=x;exact ⟨ob,e⟩
 | ins C dx fs=>obtain ⟨_,_,_,e,_⟩:=x;exact ⟨_,e⟩
 | own y=>exact x
 | xd fs=>obtain ⟨_,⟨ob,_,_,e,_⟩,_⟩:=x;exact ⟨ob,e⟩
 | rng lo hi=>obtain ⟨_,_,_,e⟩:=x;exact ⟨_,e⟩
 | frz ob u=>obtain ⟨e,_⟩:=x;exact ⟨ob,e⟩
 | tbl ps=>exact ⟨_,(show h.get? a=Aa _ from x)⟩
 | met f y=>exact ⟨_,(show h.get? a=Aa _ from x)⟩
 | ext φ=>obtain ⟨_,e,_⟩:=x;exact e
section
variable {X:Cx} {pins:Ab (Ad × A4)} {σ:St} {H:Hp} {s:Ai} {e:Ad} {cls:Ah} {od:Ay Ad}
theorem Inv.mine {b:Ad} (B:KQ X) (I:Inv X pins σ H s) (hb:s.heap.get? b=Ag):JJ X pins H b where
 un:=by
  cases z:H b with
  | none=>rfl
  | some o =>
    obtain ⟨ob,y⟩:=I.hok.there z
    rw [hb] at y;cases y
 new:=by
  cases z:X.s₀.heap.get? b with
  | none=>rfl
  | some o =>
    obtain ⟨ob,y⟩:=I.base.there b o z (by rw [B.ex];simp)
    rw [hb] at y;cases y
 loc:=fun z=>by
  obtain ⟨m,⟨o,_,_,y,_⟩,_⟩:=I.loc
  rw [<- z,hb] at y;cases y
 cel:=fun x c y z=>by
  obtain ⟨v,o,ho,_⟩:=I.cell x c y
  rw [z,hb] at ho;cases ho
 pin:=fun p hp z=>by
  have y:=(I.pin p hp).1
  rw [z,hb] at y;cases y
theorem Inv.kept2 {xs:Ab Ad} {h':AC} (I:Inv X pins σ H s) (k:Fl (frs X.stack) xs s.heap h') (hx:∀b∈xs,JJ X pins H b):Inv X pins σ H { s with heap:=h' }:=by
 have tr:∀c w,H c=Aa w->c ∉ frs X.stack/\c ∉ xs:=fun c w z=>⟨fun y=>(by rw [I.stkFree c y] at z;cases z),fun y=>(by rw [(hx c y).un] at z;cases z)⟩
 have sub:∀b∈X.fs,b∈frs X.stack:=fun b hb=>by
  rcases I.ok.stk with z | ⟨z,_⟩
  ·rw [z];exact hb
  ·rw [z]
   unfold frs
   rw [LY]
   split
   ·exact hb
   ·exact Bv _ hb
 have nf:∀b,b∈frs X.stack->b ∉ X.fs->b=X.env.locals:=fun b hb hn=>by
  rcases List.mem_cons.mp (I.stkSub b hb) with z | z
  ·exact z
  ·exact A8 z hn
 refine ⟨I.ok,I.os,I.bare,⟨fun b o z n hb he=>?_,fun b o z n hb he=>?_,I.base.free,fun b o z he=>?_,I.base.tups,I.base.frzs,I.base.tbls⟩,?_,fun x c z=>?_,I.free,I.freeC,fun p hp=>?_,fun b u z=>?_,I.len⟩
 ·have y:=I.base.keep b o z n hb he
  have nx:b ∉ xs:=fun q=>by rw [(hx b q).new] at z;cases z
  refine k.keep b o y (fun q=>?_) nx
  have:=nf b q hb
  exact A8 (Cg (A' z) I.ok.above) (by rw [this];exact CQ _)
 ·obtain ⟨sl,y⟩:=I.base.slot b o z n hb he
  have nx:b ∉ xs:=fun q=>by rw [(hx b q).new] at z;cases z
  obtain ⟨sl',y'⟩:=k.any y nx
  exact ⟨sl',y'⟩
 ·obtain ⟨o',y⟩:=I.base.there b o z he
  exact k.there b o' y
 ·obtain ⟨m,⟨o,es,ep,ho,r⟩,hl⟩:=I.loc
  obtain ⟨sl,y⟩:=k.any ho fun q=>(hx _ q).loc rfl
  refine ⟨m,⟨_,es,ep,y,r⟩,fun i x v e1 e2 e3=>?_⟩
  obtain ⟨u,ru,l⟩:=hl i x v e1 e2 e3
  refine ⟨u,ru,?_⟩
  rcases l with l | ⟨kd,c,e,oc,hoc,hd⟩
  ·exact .inl l
  ·obtain ⟨sl,y⟩:=k.any hoc fun q=>(hx _ q).cel x c e rfl
   exact .inr ⟨kd,c,e,_,y,hd⟩
 ·obtain ⟨v,o,ho,hd⟩:=I.cell x c z
  obtain ⟨sl,y⟩:=k.any ho fun q=>(hx _ q).cel x c z rfl
  exact ⟨v,_,y,hd⟩
 ·obtain ⟨e,n,ne,nfs,d⟩:=I.pin p hp
  exact ⟨k.keep p.1 p.2 e (fun q=>ne (nf _ q nfs)) fun q=>(hx _ q).pin p hp rfl,n,ne,nfs,d⟩
 ·refine (I.hok b u z).stay (fun c v hc q=>?_) (fun _ q=>q) fun _ _ q=>q
  have t:∃w,H c=Aa w:=by
   rcases hc with y | y
   ·exact ⟨u,by rw [y];exact z⟩
   ·exact ⟨_,y⟩
  obtain ⟨w,t⟩:=t
  exact k.keep c v q (tr c w t).1 (tr c w t).2
theorem Inv.note {A:AV} {E:Ah->Ai->Prop} {Q:CZ->Ai->Prop} (B:KQ X) (fr:A.frames=Aa X.stack) (I:Inv X pins σ H s) (F:Fly X pins H e cls od s)
 (k:∀s',Inv X pins σ H s'->KW X pins H e cls od (rawInt X.env.locals) s'->Q () s'):Ar (A1 X.prog X.w) A (noteFrame (.ref e) X.env) Q E s:=by
 obtain ⟨T,fl,R,hm⟩:=F
 have st:=I.stack
 rw [B.stk] at st fr
 refine Yx fr st B.fr R fun h' t R' ht kp=>k _ (I.kept2 (by rw [B.stk];exact kp) hm) ⟨t,R',fun b hb=>?_⟩
 rcases List.mem_cons.mp hb with z | z
 ·rw [z];exact hm e (by simp)
 ·have z':b=t:=by simpa using z
  rcases ht with y | y
  ·rw [z'];exact hm t (by rw [y];simp)
  ·exact I.mine B (by rw [z',y];exact UC (AB _))
theorem Inv.flight {A:AV} {E:Ah->Ai->Prop} {Q:CZ->Ai->Prop} {fl:Ah} {f:Ay Ad} (I:Inv X pins σ H s) (F:KW X pins H e cls od fl s)
 (k:∀s',Inv X pins σ H s'->KW X pins H e cls od (f.elim .none fun a=>rawInt a) s'->Q () s'):Ar (A1 X.prog X.w) A (setFlight (.ref e) f) Q E s:=by
 obtain ⟨t,R,hm⟩:=F
 refine WW R fun h' R' kp=>k _ (I.kept2 (kp.mono (fun _ z=>A8 z (by simp)) fun b z=>z) fun b hb=>?_) ⟨t,R',hm⟩
 have z:b=t:=by simpa using hb
 rw [z];exact hm t (by simp)
end
noncomputable def Wu (X:Cx) (W:St->XK) (ev:Ah) (s:Ai):Prop:=∃σ H e cls od,ev=.ref e/\Inv X [] σ H s/\Fly X [] H e cls od s/\W σ cls od H
abbrev Cx.wants (X:Cx) (W:St->XK):Cx:=X.wish (Wu X W)
section
variable {X:Cx} {pins:Ab (Ad × A4)} {σ:St} {H:Hp} {s s':Ai} {E:XK} {ev:Ah}
end
section
variable {X:Cx} {W:St->XK} {k:Ae} {f:Ad} {fd:AE} {ps:Ab Ak} {sp:Sp} {dvs:Ab V} {ds:Ab Ah} {x:Ak} {p pos:Pos} {e:A3} {es:Ab A3} {t:TA}
end
end L2
namespace L2
open PySem PySem.Spec PyProof.Rows
section
variable {X:Cx} {W:St->XK} {C:Ad} {x:Ak} {p cpos pos:Pos} {e:A3} {es:Ab A3} {t:TA}
end
noncomputable def HD (e:Ad) (cls:Ah) (od:Ay Ad):AC->Prop:=fun h=>∃oe vs,h.get? e=Aa oe/\oe.cls=cls/\oe.dict=od/\oe.data=.fields vs/\vs[2]?=Aa .none
abbrev hoX (e:Ad) (cls:Ah) (od:Ay Ad):HO:=.ext (HD e cls od)
theorem HD.ok {P:AN} {w:AA} {H:Hp} {h:AC} {e:Ad} {cls:Ah} {od:Ay Ad} (x:HD e cls od h):BD P w H h e (hoX e cls od):=by
 refine ⟨x,?_,fun h1 h2 y k=>?_⟩
 ·obtain ⟨oe,_,z,_⟩:=x;exact ⟨oe,z⟩
 ·obtain ⟨oe,vs,z,r⟩:=y;exact ⟨oe,vs,k _ z,r⟩
section
variable {X:Cx} {pins:Ab (Ad × A4)} {σ:St} {H:Hp} {s:Ai} {e:Ad} {cls:Ah} {od:Ay Ad}
theorem Inv.track {o:HO} (I:Inv X pins σ H s) (m:JJ X pins H e) (ok:BD X.prog X.w (upd H e o) s.heap e o):Inv X pins σ (upd H e o) s:=by
 have nt:∀b u,H b=Aa u->b≠e:=fun b u z=>DX z m.un
 refine ⟨I.ok,I.os,I.bare,⟨I.base.keep,I.base.slot,fun b ob z n hx=>?_,I.base.there,fun b xs z=>?_,fun b ob u z=>?_,fun b ps z=>?_⟩,I.loc,I.cell,?_,fun x c z=>?_,fun p hp=>?_,fun b u z=>?_,I.len⟩
 ·rw [AF fun y=>by rw [y,m.new] at z;cases z]
  exact I.base.free b ob z n hx
 ·have y:=I.base.tups b xs z
  rw [AF (nt b _ y)];exact y
 ·have y:=I.base.frzs b ob u z
  rw [AF (nt b _ y)];exact y
 ·obtain ⟨more,y⟩:=I.base.tbls b ps z
  exact ⟨more,by rw [AF (nt b _ y)];exact y⟩
 ·rw [AF (AM m.loc)];exact I.free
 ·rw [AF (m.cel x c z)];exact I.freeC x c z
 ·obtain ⟨z,n,r⟩:=I.pin p hp
  exact ⟨z,by rw [AF (m.pin p hp)];exact n,r⟩
 ·by_cases hb:b=e
  ·subst hb;rw [Ap] at z;cases z;exact ok
  ·rw [AF hb] at z
   exact (I.hok b u z).stay (fun c v _ y=>y) (fun c y=>by rw [AF (nt c _ y)];exact y) fun c xs y=>by rw [AF (nt c _ y)];exact y
end
abbrev Cx.suite (X:Cx) (e:Ad):Cx:={ X with A:=X.A.mark (Aa (.ref e)),calm:=As,xe:=fun _ _=>B5 }
theorem Inv.suite {X:Cx} {pins:Ab (Ad × A4)} {σ:St} {H:Hp} {s:Ai} (I:Inv X pins σ H s) (e:Ad):Inv (X.suite e) pins σ H s :=
 ⟨⟨I.ok.mod,I.ok.kind,I.ok.glob,I.ok.blt,I.ok.above,I.ok.inj,I.ok.has,I.ok.cab,(fun z=>A8 (show As=Af from z) B8),I.ok.frames,I.ok.stk,I.ok.exf,I.ok.bs,I.ok.bsz,I.ok.noex,I.ok.exfs,I.ok.funs,I.ok.frf⟩,I.os,I.bare,I.base,I.loc,I.cell,I.free,I.freeC,I.pin,I.hok,I.len⟩
theorem Inv.unsuite {X:Cx} {pins:Ab (Ad × A4)} {σ:St} {H:Hp} {s:Ai} {e:Ad} (ok:X.Ok) (I:Inv (X.suite e) pins σ H s):Inv X pins σ H s :=
 ⟨ok,I.os,I.bare,I.base,I.loc,I.cell,I.free,I.freeC,I.pin,I.hok,I.len⟩
abbrev Cx.pin (X:Cx) (pins:Ab (Ad × A4)):Cx:={ X with pn:=X.pn++pins }
theorem Cx.Ok.pin {X:Cx} (ok:X.Ok) (pins:Ab (Ad × A4)):(X.pin pins).Ok :=
 ⟨ok.mod,ok.kind,ok.glob,ok.blt,ok.above,ok.inj,ok.has,ok.cab,ok.hd,ok.frames,ok.stk,ok.exf,ok.bs,ok.bsz,ok.noex,ok.exfs,ok.funs,ok.frf⟩
theorem Inv.pnd {X:Cx} {pins:Ab (Ad × A4)} {σ:St} {H:Hp} {s:Ai} (I:Inv X pins σ H s):Inv (X.pin pins) [] σ H s :=
 ⟨I.ok.pin pins,I.os,I.bare,I.base,I.loc,I.cell,I.free,I.freeC,fun p hp=>I.pin p (by rw [FK] at hp;exact hp),I.hok,I.len⟩
theorem Inv.unpnd {X:Cx} {pins:Ab (Ad × A4)} {σ:St} {H:Hp} {s:Ai} (ok:X.Ok) (I:Inv (X.pin pins) [] σ H s):Inv X pins σ H s :=
 ⟨ok,I.os,I.bare,I.base,I.loc,I.cell,I.free,I.freeC,fun p hp=>I.pin p (by rw [FK];exact hp),I.hok,I.len⟩
theorem Fly.unpinned {X:Cx} {pins:Ab (Ad × A4)} {H:Hp} {s:Ai} {e:Ad} {cls:Ah} {od:Ay Ad} (F:Fly (X.pin pins) [] H e cls od s):Fly X pins H e cls od s:=by
 obtain ⟨T,fl,R,hm⟩:=F
 exact ⟨T,fl,R,fun b hb=>let m:=hm b hb;⟨m.un,m.new,m.loc,m.cel,fun p hp=>m.pin p (by rw [FK];exact hp)⟩⟩
abbrev TH:=Ah->Ay Ad->TS
noncomputable def PH (X:Cx) (hs:Ab LQ) (th:TH):Prop:=∀(pins:Ab (Ad × A4)) (s:Ai) (σ:St) (H:Hp) (D:CF) (e:Ad) (cls:Ah) (od:Ay Ad),Inv X pins σ H s->KW X pins H e cls od .none s->th cls od D σ H ->
 Ar (A1 X.prog X.w) X.A (handleBy (.ref e) X.env hs) (SP X pins D) X.xe s
noncomputable def Aa_ (tb:(St->XK)->TS) (th:TH):TS:=fun D σ H=>tb (fun σ' cls od H'=>th cls od D σ' H') D σ H
theorem Zp {X:Cx} {body:Ab AD} {h₀:LQ} {hs:Ab LQ} {pos:Pos} {tb:(St->XK)->TS} {th:TH} (B:KQ X) (hb:∀pins W,PSs ((X.pin pins).wants W) body (tb W)) (hh:PH X (h₀ :: hs) th) :
 PS X (.Try body (h₀ :: hs) [] [] pos) (Aa_ tb th):=by
 intro pins s σ H D I h
 have un:∀f s',SP ((X.pin pins).wants fun σ' cls od H'=>th cls od D σ' H') [] D f s'->SP X pins D f s':=fun f s' z=>by
  have z:=z.unwish
  cases f with
  | next=>obtain ⟨σ',H',J,q⟩:=z;exact ⟨σ',H',J.unpnd I.ok,q⟩
  | brk=>obtain ⟨σ',H',J,q⟩:=z;exact ⟨σ',H',J.unpnd I.ok,q⟩
  | cont=>obtain ⟨σ',H',J,q⟩:=z;exact ⟨σ',H',J.unpnd I.ok,q⟩
  | ret u=>obtain ⟨v,σ',H',J,r,q⟩:=z;exact ⟨v,σ',H',J.unpnd I.ok,r,q⟩
 refine wpAny_Try_except (DE (hb pins (fun σ' cls od H'=>th cls od D σ' H') [] s σ H D (I.pnd.wish _) h) (fun f s1 z=>?_) fun ev s1 z=>?_)
 ·cases f with
  | next=>exact KM (un .next s1 z)
  | brk=>exact un _ s1 z
  | cont=>exact un _ s1 z
  | ret u=>exact un _ s1 z
 ·obtain ⟨σ1,H1,e,cls,od,rfl,J,F,q⟩:=z
  have J':=J.unpnd I.ok
  refine J'.note B J'.ok.frames F.unpinned fun s2 I2 F2=>I2.flight F2 fun s3 I3 F3=>?_
  exact hh pins s3 σ1 H1 D e cls od I3 F3 q
structure JG (K:A6) (C:Ad):Prop where
 ty:OW K (.ref C)=Aa (.type "type")
 ex:M0 K C (.type "BaseException")=Aa Af
theorem JG.isTy {K:A6} {C:Ad} (c:JG K C) {M:DR} {h:AC} (X:K.In h):Js M h (isType (.ref C)) Af:=by
 obtain ⟨cd,h1,_⟩:=Option.bind_eq_some_iff.mp c.ex
 unfold PySem.W.clsIn at h1
 split at h1
 ·rename_i look
  intro A Q E s k q
  unfold isType loadHead
  exact Al (wpAny_loadPart (k _ _ (X _ _ look)) (A0 q))
 ·cases h1
theorem WV {K:A6} {M:DR} {A:AV} {E:Ah->Ai->Prop} {s:Ai} {e C:Ad} {cls:Ah} {b:AR} {Q:AR->Ai->Prop} (X:K.In s.heap) (c:JG K C) (he:∃oe,s.heap.get? e=Aa oe/\oe.cls=cls)
 (hs:VB K cls (.ref C)=Aa b) (h:Q b s):Ar M A (excMatches (.ref e) (.ref C)) Q E s:=by
 obtain ⟨oe,e1,e2⟩:=he
 have L2:Js M s.heap (isExcClass (.ref C)) Af:=by
  unfold isExcClass
  refine (c.isTy X).andThen ?_
  simp only [Fh]
  exact V9 X c.ex
 have L3:Js M s.heap (typeOf (.ref e)) cls:=e2 ▸ (PySem.W.Looks.ld e1).andThen .now
 have L4:Js M s.heap (isSubtype cls (.ref C)) b:=PySem.W.looks_subIn X hs
 have LT:Js M s.heap (isInstance (.ref C) (.type "tuple")) As:=(PySem.W.looks_typeIn X c.ty).andThen (PySem.W.Looks.of_pure tc_notTuple)
 obtain ⟨hp,g,d,tk,os⟩:=s
 unfold excMatches
 refine Al (LT.at ?_)
 simp only [Eo,Dj]
 refine Al (A0 ?_)
 simp only [L_,K5]
 refine Al (Al (Al (L2.at ?_)))
 simp only [Bool.not_true,Eo,Dj]
 refine A0 (A0 (Al (L3.at (Al (Al (Al (L4.at ?_)))))))
 cases b with
 | true=>simp only [Fh];exact A0 (A0 (A0 h))
 | false=>simp only [Eo,Dj];exact A0 (A0 (A0 h))
noncomputable def Qt (D:CF) (i:Ae):CF:={ nx:=fun σ H=>D.nx (σ.set i Ag) H,rt:=D.rt,bk:=fun σ H=>D.bk (σ.set i Ag) H,ct:=fun σ H=>D.ct (σ.set i Ag) H }
noncomputable def Abf (K:A6) (C:Ad) (i:Ae) (ts:Ad->TS) (tr:TH):TH:=fun cls od D σ H=>∃b,VB K cls (.ref C)=Aa b /\
 if b=Af then ∀e,H e=Ag->ts e (Qt D i) (σ.set i (Aa (.ref e))) (upd H e (hoX e cls od)) else tr cls od D σ H
section
variable {X:Cx} {pins:Ab (Ad × A4)} {σ:St} {H:Hp} {s:Ai} {e C:Ad} {cls:Ah} {od:Ay Ad} {x n:Ak} {i:Ae} {np pos:Pos} {b₀:AD} {suite:Ab AD} {rest:Ab LQ} {ts:TS} {tr:TH}
theorem Inv.forget {h':AC} {v:Ay Ah} {m:Ak->Ay Ah} {tk:Ae} (I:Inv X pins σ H s) (hN:X.N.Nodup) (hi:X.N[i]?=Aa n) (hn:s.heap.Ns X.env.locals m) (hl:∀(j:Ae) (y:Ak) (v:V),X.N[j]?=Aa y->σ[j]?=Aa (Aa v)->Vis X.env.scope y->∃u,Ba v u/\P5 X.env s.heap m y u)
 (hn':h'.Ns X.env.locals (fun y=>if y=n then v else m y)) (hs:Ep X.env.locals s.heap h'):Inv X pins (σ.set i Ag) H { s with heap:=h',toks:=tk }:=by
 have iσ:i < σ.length:=by rw [I.len];exact (List.getElem?_eq_some_iff.mp hi).1
 have old:∀b o,X.s₀.heap.get? b=Aa o->b≠X.env.locals:=fun b o z=>Bx (Cg (A' z) I.ok.above)
 refine ⟨I.ok,I.os,I.bare,⟨fun b o z n hb hx=>?_,fun b o z n hb hx=>?_,I.base.free,fun b o z hx=>?_,I.base.tups,I.base.frzs,I.base.tbls⟩,⟨_,hn',fun j y v' e1 e2 e3=>?_⟩,fun y c z=>?_,I.free,I.freeC,fun p hp=>?_,fun b u z=>?_,by simpa using I.len⟩
 ·exact (hs.2 b (old b o z)).trans (I.base.keep b o z n hb hx)
 ·obtain ⟨sl,y⟩:=I.base.slot b o z n hb hx
  exact ⟨sl,(hs.2 b (old b o z)).trans y⟩
 ·obtain ⟨o',y⟩:=I.base.there b o z hx
  exact ⟨o',(hs.2 b (old b o z)).trans y⟩
 ·by_cases hj:j=i
  ·subst hj
   rw [FL iσ] at e2
   cases e2
  ·rw [Hg (AM hj)] at e2
   obtain ⟨u,r,q⟩:=hl j y v' e1 e2 e3
   refine ⟨u,r,?_⟩
   rcases q with ⟨k,q⟩ | ⟨k,c,q,z⟩
   ·refine .inl ⟨k,?_⟩
    have:y≠n:=fun z=>hj (Nz hN e1 (z ▸ hi))
    simp [this,q]
   ·exact .inr ⟨k,c,q,z.sameBut hs (I.cne y c q)⟩
 ·obtain ⟨w,q⟩:=I.cell y c z
  exact ⟨w,q.sameBut hs (I.cne y c z)⟩
 ·obtain ⟨z,n,ne,r⟩:=I.pin p hp
  exact ⟨(hs.2 p.1 ne).trans z,n,ne,r⟩
 ·refine (I.hok b u z).stay (fun c w hc q=>(hs.2 c ?_).trans q) (fun _ q=>q) fun _ _ q=>q
  rintro rfl
  rcases hc with y | y
  ·rw [<- y,I.free] at z;cases z
  ·rw [I.free] at y;cases y
theorem YU {ts:Ad->TS} (B:KQ X) (hc:JG X.K C) (hg:Gl X x) (hm:X.mg x=Aa (.ref C)) (nd:X.N.Nodup) (hi:X.N[i]?=Aa n) (hl:X.env.scope.names.lookup n=Aa .local) (hs:∀e,PSs (X.suite e) (b₀ :: suite) (ts e)) (hr:PH X rest tr)
 (hdb:(x == ("__debug__":Ak))=As:=by decide):PH X (.ExceptHandler (Aa (.Name x np)) (Aa n) (b₀ :: suite) pos :: rest) (Abf X.K C i ts tr):=by
 intro pins s σ H D e cls od I F h
 obtain ⟨b,sb,h⟩:=h
 have I0:Inv (X.suite e) pins σ H s:=I.suite e
 have rec0:∃oe,s.heap.get? e=Aa oe/\oe.cls=cls:=by
  obtain ⟨t,⟨oe,_,z,y,_⟩,_⟩:=F
  exact ⟨oe,z,y⟩
 refine wpAny_handleBy_cons (codeAny_handlers_test (JX (X:=X.suite e) I0 hg hm (WV I.kIn hc rec0 sb ?_) hdb)) (by intro z;cases z)
 cases b with
 | false=>exact hr pins s σ H D e cls od I F h
 | true =>
   have h:=h
   rw [At rfl] at h
   refine codeAny_handlers_suite_as ?_
   refine Inv.flight (X:=X.suite e) (f:=Ag) I0 (let ⟨t,R,hm⟩:=F;⟨t,R,fun b hb=>let m:=hm b hb;⟨m.un,m.new,m.loc,m.cel,m.pin⟩⟩) fun s1 I1 F1=>?_
   obtain ⟨t,R,hm1⟩:=F1
   have m:=hm1 e (by simp)
   have xo:HD e cls od s1.heap:=let ⟨oe,vs,r1,r2,r3,r4,r5,_⟩:=R;⟨oe,vs,r1,r2,r3,r4,r5⟩
   have I2:=I1.track (o:=hoX e cls od) m xo.ok
   refine NS (X:=X.suite e) (v:=.ref e) I2 nd hi (.inl hl) rfl (fun s2 I3=>?_) (.inr hl)
   refine DE (hs e pins s2 _ _ (Qt D i) I3 (h e m.un)) (fun f s3 z=>?_) fun _ _ z=>z.elim
   have fin:∀(σ3:St) (H3:Hp) (Q:CZ->Ai->Prop),Inv (X.suite e) pins σ3 H3 s3->(∀s4,Inv X pins (σ3.set i Ag) H3 s4->Q () s4)->Ar (A1 X.prog X.w) X.A (do bindName X.env n .none;unbindBehindTheSuite X.env n pos) Q X.xe s3:=fun σ3 H3 Q J k=>by
    have J':=J.unsuite I.ok
    obtain ⟨m0,hn,hlk⟩:=id J'.loc
    exact wpAny_nameGoes_keeps hl hn (by rw [I.ok.kind];rfl) fun h' v hn' hs'=>k _ (J'.forget nd hi hn hlk hn' hs')
   cases f with
   | next=>obtain ⟨σ3,H3,J,q⟩:=z;exact fin σ3 H3 _ J fun s4 J4=>⟨_,H3,J4,q⟩
   | brk=>obtain ⟨σ3,H3,J,q⟩:=z;exact fin σ3 H3 _ J fun s4 J4=>⟨_,H3,J4,q⟩
   | cont=>obtain ⟨σ3,H3,J,q⟩:=z;exact fin σ3 H3 _ J fun s4 J4=>⟨_,H3,J4,q⟩
   | ret u=>obtain ⟨v,σ3,H3,J,r,q⟩:=z;exact fin σ3 H3 _ J fun s4 J4=>⟨v,_,H3,J4,r,q⟩
theorem YV:PH X [] fun _ _ _ _ _=>B5:=fun _ _ _ _ _ _ _ _ _ _ z=>z.elim
end
end L2
namespace L2
open PySem PySem.Spec PyProof.Rows
structure KY (K:A6) (C:Ad):Prop where
 ga:Bf K (.ref C) "__getattribute__"=Aa (Aa (.builtin "BaseException.__getattribute__"))
 gh:Bf K (.ref C) "__getattr__"=Aa Ag
 be:M0 K C (.type "BaseException")=Aa Af
section
variable {prog:AN} {w:AA} {A:AV} {E:Ah->Ai->Prop} {s:Ai} {K:A6} {a C:Ad} {o:A4} {od:Ay A4} {name:Ak} {tk:BX}
theorem Ab7 {r:Builtin.ObjectAttr.Found} {Q:Fin->Ai->Prop} (X:K.In s.heap) (I:Jr s.heap a o C od) (hf:V5 K C od name=Aa r)
 (h:Ar (A1 prog w) A (match r with | .value v=>ret v | .bind g b=>Builtin.ObjectAttr.bindTo g b (.ref a) (.ref C) | .missing=>unsupported "no") Q E s) (hr:r≠.missing) :
 Ar (A1 prog w) A (C9.«object.__getattribute__» ⟨[.ref a,.str name tk],[]⟩) Q E s:=by
 obtain ⟨hh,g,d,t,os⟩:=s
 have L0:=I.type (M:=A1 prog w)
 have L1:=PySem.W.looks_find (M:=A1 prog w) X I hf
 unfold C9.«object.__getattribute__»
 refine Al (A0 ?_)
 refine Al (A0 ?_)
 refine Al (L0.at (Al (L1.at ?_)))
 cases r with
 | value v=>exact h
 | bind g b=>exact h
 | missing=>exact A8 rfl hr
theorem Ab6 {M:DR} {v:Ah} {Q:CZ->Ai->Prop} (c:KY K C) (X:K.In s.heap) (I:Jr s.heap a o C od) (h:Q () s):Ar M A (checkBuiltinCall "BaseException.__getattribute__" ⟨[.ref a,v],[]⟩) Q E s:=by
 obtain ⟨hh,g,d,t,os⟩:=s
 have kd:builtinKind "BaseException.__getattribute__"=Aa .slot:=by decide +kernel
 have sp:splitId "BaseException.__getattribute__"=Aa ("BaseException","__getattribute__"):=by decide +kernel
 have L0:=I.type (M:=M)
 have L1:=V9 (M:=M) X c.be
 have LI:Js M hh (isInstance (.ref a) (.type "BaseException")) Af:=L0.andThen L1
 have ha:=PySem.F.args_bexc_ga (.ref a) v
 simp only [checkBuiltinCall,kd,sp]
 refine Al (LI.at ?_)
 repeat (any_goals (first | assumption | wp_step))
theorem Ab5 {fill ex:AR} {Q:Ah->Ai->Prop} (c:KY K C) (X:K.In s.heap) (I:Jr s.heap a o C od)
 (h:Ar (A1 prog w) A.in1 (C9.«object.__getattribute__» ⟨[.ref a,.str name tk],[]⟩) (fun fin s'=>match fin with | .done (.ret v)=>Ar (A1 prog w) A (handedOut v) Q E s' | _=>B5) (fun _ _=>B5) s) :
 Ar (A1 prog w) A (getAttrBy (.ref a) (.str name tk) fill ex) Q E s:=by
 have L0:=I.type (M:=A1 prog w)
 have L1:=OQ (M:=A1 prog w) X c.ga
 have L2:=OQ (M:=A1 prog w) X c.gh
 have f3:=PySem.F.attr_ValueError.ga.bind (.ref a)
 have n0:(KJ "BaseException.__getattribute__" == KJ "object.__getattribute__")=As:=by decide +kernel
 have n1:(onTheHeap (A_ C) && KJ "BaseException.__getattribute__" == KJ "object.__getattribute__")=As:=by rw [n0,Od]
 have n2:(ex && onTheHeap (KJ "BaseException.__getattribute__"))=As:=by cases ex <;> rfl
 have ck:=fun (E':Ah->Ai->Prop) (Q':CZ->Ai->Prop) (z:Q' () s)=>Ab6 (M:=A1 prog w) (A:=A.in1) (E:=E') (v:=.str name tk) (Q:=Q') c X I z
 obtain ⟨hh,g,d,t,os⟩:=s
 unfold getAttrBy
 refine Du (Al (L0.at (Al (L1.at ?_))))
 simp only [n1,Eo,Dj]
 unfold getAttrByItsOwn hookBefore
 refine Al ?_
 rw [At (show onTheHeap (A_ C)=Af from rfl)]
 refine L2.at ?_
 refine Al (JC ?_)
 unfold callGetattribute
 simp only [n2,Eo,Dj]
 refine Du ?_
 unfold boundAndCalled
 refine Al (Eh f3 ?_)
 refine KL (M9 PySem.F.attr_ValueError.ga.plain PySem.F.entry_bexc_ga (ck _ _ ?_))
 refine DE h (fun fin s' z=>?_) fun _ _ z=>z.elim
 rcases fin with (_ | _ | _ | _) | _ <;> first | exact z | exact z.elim
theorem Ab8 {ex:AR} {v:Ah} {Q:Ah->Ai->Prop} (c:KY K C) (X:K.In s.heap) (I:Jr s.heap a o C od) (hf:V5 K C od name=Aa (.value v)) (hv:OP v=Af) (h:Q v { s with toks:=s.toks+1 }) :
 Ar (A1 prog w) A (getAttr (.ref a) name ex) Q E s:=by
 unfold getAttr
 refine Al (wpAny_mkText ?_)
 refine Ab5 (s:={ s with toks:=s.toks+1 }) c X I (Ab7 (s:={ s with toks:=s.toks+1 }) X I hf ?_ (by intro z;cases z))
 exact A0 (PySem.W.handed_on hv h)
end
theorem HD.instD {h:AC} {e C dx:Ad} {od:A4} (x:HD e (.ref C) (Aa dx) h) (hd:h.get? dx=Aa od):∃o,Jr h e o C (Aa od):=by
 obtain ⟨o,vs,h1,h2,h3,h4,_⟩:=x
 refine ⟨o,h1,h2,?_,?_⟩
 ·unfold PySem.W.notCls;rw [h4]
 ·rw [h3];exact hd
noncomputable def XdO (dx:Ad) (fs:Ab (Ak × V)):AC->Prop:=fun h=>∃mA,h.Ns1 dx mA/\(∀f,CG (fs.lookup f) (mA f))/\M1 mA (fs.map (·.1))
abbrev hoD (dx:Ad) (fs:Ab (Ak × V)):HO:=.ext (XdO dx fs)
section
variable {X:Cx}
noncomputable def Aba (K:A6) (ta:TE) (f:Ak):TE:=fun σ H Q=>ta σ H fun x H1=>∃e C dx fs v,x=.ref e/\H1 e=Aa (hoX e (.ref C) (Aa dx))/\H1 dx=Aa (hoD dx fs)/\KY K C/\FV K C=Af/\BG K C f/\fs.lookup f=Aa v/\Q v H1
theorem YT {K:A6} {e:A3} {f:Ak} {pos:Pos} {ta:TE} (he:PE X e ta) (hb:attributeBase e f X.env (eval e X.env)=eval e X.env) (hK:X.K=K:=by rfl):PE X (.Attribute e f pos) (Aba K ta f):=by
 subst hK
 intro pins s σ H Q I h
 refine PJ hb (thn (he pins s σ H _ I h) fun u s1 hq_=>?_)
 obtain ⟨x,H1,I1,rx,e,C,dx,fs,v,ex,ea,ed,c,hd,na,l,q⟩:=hq_
 subst ex
 obtain rfl:u=A_ e:=rx
 obtain ⟨xo,_,_⟩:=(show BD X.prog X.w H1 s1.heap e (hoX e (.ref C) (Aa dx)) from I1.hok e _ ea)
 obtain ⟨⟨mA,ns,r,_⟩,_,_⟩:=(show BD X.prog X.w H1 s1.heap dx (hoD dx fs) from I1.hok dx _ ed)
 obtain ⟨od,hod,hl⟩:=QN ns
 obtain ⟨o,J⟩:=xo.instD hod
 obtain ⟨v',hv,rv⟩:=CG.some_of (v:=v) (o:=mA f) (by rw [<- l];exact r f)
 exact Ab8 c I1.kIn J (V6 hd na rfl (by rw [hl,hv])) (Q3 rv) ⟨v,H1,I1.tok _,rv,q⟩
end
end L2
namespace L2
open PySem PySem.Spec PyProof.Rows
section
variable {X:Cx}
end
section
variable {K:A6} {H H':Hp} {x:V} {b:AR}
end
section
variable {K:A6} {A B:Ad}
end
end L2
namespace L2
open PySem PySem.Spec PyProof.Rows
end L2
namespace L2
open PySem PySem.Spec PyProof.Rows
section
variable {prog:AN} {w:AA} {A:AV} {E:Ah->Ai->Prop} {s:Ai} {K:A6} {C P f x:Ad} {ox:A4} {od:Ay A4} {name:Ak} {v:Ah}
end
end L2
namespace L2
open PySem PySem.Spec PyProof.Rows
section
variable {prog:AN} {w:AA} {A:AV} {E:Ah->Ai->Prop} {h:AC} {g:A7 Ks} {d:Hb} {t:Ae} {os:DT}
variable {nm q:Ak} {C N:Ad} {bs bm:Ab Ah} {hd:AR} {sn:Ab Ak} {sub:Ab Ah} {ab:AR} {col:Ay AR} {dd:Ay Ad} {k0 k1 k2 k3 k5:Ay Ah}
end
section
variable {X:Cx} {W:St->XK} {C P fi:Ad} {k:Ae} {fd:AE} {ps ns:Ab Ak} {x:Ak} {p cpos pos:Pos} {e:A3} {es:Ab A3} {t:TA}
end
end L2
namespace L2
open PySem PySem.Spec PyProof.Rows
mutual
inductive Rep (K:A6) (H:Hp):V->Ex->Prop
 | non:Rep K H .non .none
 | bl (b:AR):Rep K H (.bl b) (.bool b)
 | int (i:Ac):Rep K H (.int i) (.int i)
 | str (x:Ak):Rep K H (.str x) (.str x)
 | lst {a:Ad} {xs:Ab V} {ds:Ab Ex}:SqL K H a xs->Reps K H xs ds->Rep K H (.ref a) (.list ds)
 | tup {a:Ad} {xs:Ab V} {ds:Ab Ex}:SqT K H a xs->Reps K H xs ds->Rep K H (.ref a) (.tuple ds)
inductive Reps (K:A6) (H:Hp):Ab V->Ab Ex->Prop
 | nil:Reps K H [] []
 | cons {x:V} {xs:Ab V} {d:Ex} {ds:Ab Ex}:Rep K H x d->Reps K H xs ds->Reps K H (x :: xs) (d :: ds)
end
section
variable {K:A6} {H H':Hp}
mutual
theorem Rep.same (e:Ax H H'):∀{x:V} {d:Ex},Rep K H x d->Rep K H' x d
 | _,_,.non=>.non
 | _,_,.bl b=>.bl b
 | _,_,.int i=>.int i
 | _,_,.str x=>.str x
 | _,_,.lst h r=>.lst (e.seq h) (Reps.same e r)
 | _,_,.tup h r=>.tup (by
  rcases h with (h | ⟨o,h⟩) | h
  ·exact .inl (.inl (e _ _ h))
  ·exact .inl (.inr ⟨o,e _ _ h⟩)
  ·exact .inr h) (Reps.same e r)
theorem Reps.same (e:Ax H H'):∀{xs:Ab V} {ds:Ab Ex},Reps K H xs ds->Reps K H' xs ds
 | _,_,.nil=>.nil
 | _,_,.cons r t=>.cons (Rep.same e r) (Reps.same e t)
end
theorem Reps.ints:∀(ns:Ab Ac),Reps K H (ns.map V.int) (ns.map PyData.int)
 | []=>.nil
 | n :: ns=>.cons (.int n) (Reps.ints ns)
end
section
variable {X:Cx} {pins:Ab (Ad × A4)} {σ:St} {H:Hp} {s:Ai}
mutual
theorem Inv.reads (I:Inv X pins σ H s):∀{x:V} {d:Ex},Rep X.K H x d->∀{v:Ah},Ba x v->∃as,Reads s.heap v d as
 | _,_,.non,v,r=>by cases (show v=B6 from r);exact ⟨_,.none⟩
 | _,_,.bl b,v,r=>by cases (show v=EK b from r);exact ⟨_,.bool b⟩
 | _,_,.int i,v,r=>by obtain ⟨t,e⟩:=(show ∃t,v=Di i t from r);cases e;exact ⟨_,.int i t⟩
 | _,_,.str x,v,r=>by obtain ⟨t,e⟩:=(show ∃t,v=Jx x t from r);cases e;exact ⟨_,.str x t⟩
 | _,_,.lst (a:=a) h rs,v,r=>by
   cases (show v=A_ a from r)
   obtain ⟨its,rv,⟨o,n,e1,e2,_,e4⟩,_⟩:=I.list h
   obtain ⟨as,q⟩:=Inv.readsAll I rs rv
   exact ⟨_,.list e1 e2 e4 q⟩
 | _,_,.tup (a:=a) h rs,v,r=>by
   cases (show v=A_ a from r)
   obtain ⟨its,rv,⟨o,e1,e2,n,e4⟩,_⟩:=I.tuple h
   obtain ⟨as,q⟩:=Inv.readsAll I rs rv
   exact ⟨_,.tuple e1 e2 e4 q⟩
theorem Inv.readsAll (I:Inv X pins σ H s):∀{xs:Ab V} {ds:Ab Ex},Reps X.K H xs ds->∀{vs:Ab Ah},AW xs vs->∃as,ReadsAll s.heap vs ds as
 | _,_,.nil,_,.nil=>⟨_,.nil⟩
 | _,_,.cons r t,_,.cons q u=>by
   obtain ⟨a1,h1⟩:=Inv.reads I r q
   obtain ⟨a2,h2⟩:=Inv.readsAll I t u
   exact ⟨_,.cons h1 h2⟩
end
noncomputable def Z9 (K:A6):R2:=fun x y H Q=>∃d e,Rep K H x d/\Rep K H y e/\Mw d=Af/\Mw e=Af/\Q (.bl (Mt d e)) H
noncomputable def ZA (K:A6):R2:=fun x y H Q=>∃d e,Rep K H x d/\Rep K H y e/\Mw d=Af/\Mw e=Af/\Q (.bl (!PyData.eqv d e)) H
theorem Rn {K:A6} (hu:X.A.units+64 < cLine) (hK:X.K=K:=by rfl):OpR X (CS .Eq) (Z9 K):=by
 subst hK
 intro pins s σ H x y v u Q I rx ry h
 obtain ⟨d,e,hx,hy,s1,s2,q⟩:=h
 obtain ⟨as,r1⟩:=I.reads hx rx
 obtain ⟨bs,r2⟩:=I.reads hy ry
 exact eq_dataH r1 r2 s1 s2 hu ⟨.bl _,H,I,rfl,q⟩
theorem Y9 {K:A6} (hu:X.A.units+64 < cLine) (hK:X.K=K:=by rfl):OpR X (CS .NotEq) (ZA K):=by
 subst hK
 intro pins s σ H x y v u Q I rx ry h
 obtain ⟨d,e,hx,hy,s1,s2,q⟩:=h
 obtain ⟨as,r1⟩:=I.reads hx rx
 obtain ⟨bs,r2⟩:=I.reads hy ry
 exact ne_dataH r1 r2 s1 s2 hu ⟨.bl _,H,I,rfl,q⟩
end
end L2
namespace L2
open PySem PySem.Spec PyProof.Rows
theorem Yb:typeLookup (.type "list_reverseiterator") "__len__"=pure Ag:=by rw [MD,M7];kernel_rfl
theorem X':typeLookup (.type "list_reverseiterator") "__length_hint__"=pure (Aa (.builtin "list_reverseiterator.__length_hint__")):=by rw [MD,M7];kernel_rfl
section
variable {prog:AN} {w:AA} {A:AV} {E:Ah->Ai->Prop} {s:Ai}
theorem Yc {I:Ad} {Q:AR->Ai->Prop} (hT:s.TypeIs (.ref I) "list_reverseiterator") (h:Q As s):Ar (A1 prog w) A (LL (.ref I)) Q E s:=by
 unfold LL
 refine Al (MF hT Yb ?_)
 show Ar _ A (specialOf (A_ I) (Az "__length_hint__") >>= _) _ _ _
 refine Al (MF hT X' ?_)
 generalize hid:("list_reverseiterator.__length_hint__":CN)=id0
 wp_delta
 rw [show splitId id0=Aa ("list_reverseiterator","__length_hint__") from by subst hid;decide +kernel]
 subst hid
 refine Al (KN (b:=Af) hT (by rw [MA];kernel_rfl) ?_)
 exact A0 h
theorem ZN {items acc:A7 Ah} (h:ItemsOf (fun i v=>items[items.size - 1 - i]?=Aa v) acc items.size):acc=items.toList.reverse.toArray:=by
 obtain ⟨h1,h2⟩:=h
 apply Oa
 ·simpa using h1
 ·intro i hi hj
  have e:items[items.size - 1 - i]?=Aa acc[i]:=h2 i acc[i] (by simp [hi])
  have hi':i < items.size:=by omega
  rw [Kn (by omega)] at e
  simp only [List.getElem_toArray,List.getElem_reverse,Array.getElem_toList,DA]
  exact (Bp e).symm
theorem X_ {I l S:Ad} {items:A7 Ah} {R:Jv->Ai->Prop} {c₀:Ae} (hh:A.handled=Ag) (hne:l≠I) (hit:s.heap.IsRevIter I l ((items.size:Ac) - 1)) (hl:s.heap.IsList l items)
 (hSI:S≠I) (hSl:S≠l) (hz:items.size<=A5) (hS:s.heap.get? S=Aa { cls:=.type "list",data:=.seq #[] c₀ })
 (hR:∀s' c',Moved [S,I] (fun a b=>b=a) s s'->s'.heap.get? S=Aa { cls:=.type "list",dict:=Ag,data:=.seq items.toList.reverse.toArray c',slots:=#[] }->R (.ok (.ret .none)) s') :
 Ar (A1 prog w) A.in1 (Ha (.ref S) (.ref I) .none)
  (fun fin s'=>match fin with | .done f=>R (.ok f) s' | .again c'=>c'.quiet=Af/\codeAny (A1 prog w) A c' R s') (fun e s'=>R (.error e) s') s:=by
 have W:=(Walks.listRev (prog:=prog) (w:=w) (A:=A.in1) hh I l hne items).toS
 have st:(0:Ae)<=items.size/\s.heap.IsRevIter I l ((items.size:Ac) - 1 - ((0:Ae):Ac))/\s.heap.IsList l items:=⟨BQ _,by simpa using hit,hl⟩
 have hT:=hit.typeIs
 unfold Ha
 refine Al (P1 hT ?_)
 have h1:LM (.ref S) (.ref I)=As:=by simp [LM,hSI]
 rw [Ao (by rw [h1];decide)]
 refine Al (wpAny_pyIter_revIter hit ?_)
 refine Al (Du (Yc hT ?_))
 rw [Ao (by decide)]
 refine A0 ⟨Hu F.plain_extend_loop _,VQ W hz S (by simp [hSI,hSl]) .none items.size 0 _ _ _ rfl (BQ _) st hS (ItemsOf.nil _) fun s' acc c' hm hS' hacc=>?_⟩
 rw [ZN hacc] at hS'
 exact hR s' c' hm hS'
theorem W8 {I l:Ad} {items:A7 Ah} {Q:Ah->Ai->Prop} (hh:A.handled=Ag) (hne:l≠I) (hit:s.heap.IsRevIter I l ((items.size:Ac) - 1)) (hl:s.heap.IsList l items) (hz:items.size<=A5)
 (hQ:∀h' tk c',(∀b o,b≠I->s.heap.get? b=Aa o->h'.get? b=Aa o)->h'.get? s.heap.objs.size=Aa { cls:=.type "list",dict:=Ag,data:=.seq items.toList.reverse.toArray c',slots:=#[] } ->
  Q (.ref s.heap.objs.size) { s with heap:=h',toks:=tk }):Ar (A1 prog w) A (call (.type "list") [.ref I]) Q E s:=by
 refine callType_codes (Q₁:=fun obj s₁=>obj=.ref s.heap.objs.size/\s₁={ s with heap:=s.heap.push { cls:=.type "list",data:=.seq #[] } }) F.called_list (F.typeCall_list_1 _) F.entry_list_init (code_list_new _ ⟨rfl,rfl⟩) ?_
 rintro obj s₁ ⟨rfl,rfl⟩
 have hS:(s.heap.push { cls:=.type "list",data:=.seq #[] }).get? s.heap.objs.size=Aa { cls:=.type "list",data:=.seq #[] }:=BE _ rfl
 refine ⟨⟨_,hS,rfl⟩,F.args_list_init_2 _ _,?_⟩
 have lI:I < s.heap.objs.size:=by obtain ⟨o,ho,_⟩:=hit;exact A' ho
 have ll:l < s.heap.objs.size:=by obtain ⟨o,ho,_⟩:=hl;exact A' ho
 show Ar _ A.in1.in1 (do let old <- Uv (.ref s.heap.objs.size);Builtin.List.listUpdate (.ref s.heap.objs.size) (fun _=>#[]);letGo old.toList.reverse;Ha (.ref s.heap.objs.size) (.ref I) .none) _ _ _
 refine Al ?_
 unfold Uv
 refine Al (KP hS rfl (A0 ?_))
 show Ar _ A.in1.in1 (updateSeq s.heap.objs.size (fun _=>#[]) >>= fun _=>letGo (#[]:A7 Ah).toList.reverse >>= fun _=>Ha (.ref s.heap.objs.size) (.ref I) .none) _ _ _
 refine Al (P2 hS rfl ?_)
 have hS₂:=EC (CY (fun _=>(#[]:A7 Ah))) hS rfl
 have oth:∀b o,s.heap.get? b=Aa o->((s.heap.push { cls:=.type "list",data:=.seq #[] }).update s.heap.objs.size (CY (fun _=>(#[]:A7 Ah)))).get? b=Aa o :=
  fun b o e=>(FJ _ _ (AM (Bx (A' e)))).trans (Bk _ e)
 refine Al (wpAny_letGo ?_)
 refine X_ (A:=A.in1) hh hne (hit.at (oth I)) (hl.at (oth l)) (AM (Bx lI)) (AM (Bx ll)) hz hS₂ fun s' c' hm hS'=>?_
 refine ⟨rfl,?_⟩
 rw [Moved.eq_with hm]
 exact hQ s'.heap s'.toks c' (fun b o hb e=>hm.heap b o (by simp [hb,Bx (A' e)]) (oth b o e)) hS'
end
section
variable {X:Cx} {e:A3} {te:TE} {p p2 pos pos2:Pos}
noncomputable def AaY (K:A6) (te:TE):TE:=fun σ H Q=>te σ H fun x H1=>∃a ys,x=.ref a/\SqL K H1 a ys/\∀l,H1 l=Ag->Q (.ref l) (upd H1 l (.lst ys.reverse))
theorem Ru (hc:X.calm=Af) (hg:Gl X "list") (hm:X.mg "list"=Ag) (hg2:Gl X "reversed") (hm2:X.mg "reversed"=Ag) (he:PE X e te)
 (hs:Bh [e] X.env=[(As,eval e X.env)]:=by rfl)
 (hs2:Bh [(.Call (.Name "reversed" p2) [e] [] pos2:A3)] X.env=[(As,eval (.Call (.Name "reversed" p2) [e] [] pos2) X.env)]:=by rfl) :
 PE X (.Call (.Name "list" p) [.Call (.Name "reversed" p2) [e] [] pos2] [] pos) (AaY X.K te):=by
 intro pins s σ H Q I h
 refine EL (Dx I hg hm boot_list ?_ (by decide) (by decide))
 refine callWith_type1 ?_ hs2 rfl
 rw [hs2]
 refine E_ ?_
 refine EL (Dx I hg2 hm2 boot_reversed ?_ (by decide) (by decide))
 refine callWith_type1 ?_ hs rfl
 rw [hs]
 refine E_ (thn (he pins s σ H _ I h) fun u s1 hq_=>?_)
 obtain ⟨x,H1,I1,r1,a,ys,hx,hq,q⟩:=hq_
 subst hx
 cases r1
 refine FI ?_
 obtain ⟨its,rv,pl,hz⟩:=I1.list hq
 have hl:=pl.isList
 have hlen:=rv.length
 refine call_reversed_list hl ?_
 refine FI ?_
 have la:a < s1.heap.objs.size:=by obtain ⟨o,ho,_⟩:=hl;exact A' ho
 refine W8 (items:=its.toArray) (I1.ok.hd hc) (Bx la) ⟨_,BE _ rfl,rfl,rfl⟩ (hl.at fun o e=>Bk _ e) (by simp only [BB];omega) fun h' tk c' kp eS=>?_
 have kp':∀b o,s1.heap.get? b=Aa o->h'.get? b=Aa o:=fun b o e=>kp b o (Bx (A' e)) (Bk _ e)
 have hp:s1.heap.objs.size<=(s1.heap.push (revObj a ((its.toArray.size:Ac) - 1))).objs.size:=by simp [Heap.push]
 refine ⟨.ref _,_,I1.laid (t':=tk) kp' hp (show BD X.prog X.w _ h' _ (.lst ys.reverse) from ⟨by simpa using hz,its.reverse,c',rv.reverse,by simpa using eS⟩),rfl,q _ (I1.hok.fresh hp)⟩
end
end L2
namespace L2
open PySem PySem.W PySem.Spec PyProof.Rows
section
variable {O:KeyOrd} {ky:Ae->O.α} {n:Ae} {cmp:Ae->Ae->(AR->Ai->Prop)->Ai->Prop} {J:Ai->Prop}
noncomputable def kk (ky:Ae->O.α) (p:A7 Ae) (i:Ae):O.α:=ky (p.getD i 0)
noncomputable def Srt (ky:Ae->O.α) (p:A7 Ae) (m:Ae):Prop:=∀i j,i<=j->j < m->O.kle (kk ky p i) (kk ky p j)
noncomputable def Fal (ky:Ae->O.α) (p:A7 Ae) (m:Ae):Prop:=∀i j,i<=j->j < m->O.kle (kk ky p j) (kk ky p i)
noncomputable def Prm (n:Ae) (p:A7 Ae):Prop:=p.toList.Perm (Bz n)
noncomputable def Fj (O:KeyOrd) (ky:Ae->O.α) (n:Ae) (cmp:Ae->Ae->(AR->Ai->Prop)->Ai->Prop) (J:Ai->Prop):Prop :=
 ∀i j (C:AR->Ai->Prop) s,i < n->j < n->J s->(∀s',J s'->C (O.blt (ky i) (ky j)) s')->cmp i j C s
theorem Prm.size {p:A7 Ae} (h:Prm n p):p.size=n:=by
 have:=h.length_eq
 rw [DB] at this
 exact this
theorem Prm.lt {p:A7 Ae} (h:Prm n p) {k:Ae} (hk:k < n):p.getD k 0 < n:=by
 have hz:=h.size
 have e:p.getD k 0=p[k]'(by omega):=by simp [FH,hz,hk]
 rw [e]
 exact List.mem_range.mp (h.mem_iff.mp (by simp))
theorem Prm.rev {p:A7 Ae} (h:Prm n p) (i j:Ae):Prm n (J0 p i j):=(mirror_perm p i j _).toList.trans h
theorem Prm.bub {p:A7 Ae} (h:Prm n p) (k d:Ae):Prm n (bubble p k d):=(bubble_perm p k d).toList.trans h
theorem JU {p q:A7 Ae} {i j:Ae} (e:p[i]?=q[j]?):p.getD i 0=q.getD j 0:=by
 rw [Ja,Ja,e]
theorem HN {p:A7 Ae} {i j:Ae} (hj:j<=p.size) (k:Ae):kk ky (J0 p i j) k=if i<=k/\k < j then kk ky p (i+j - 1 - k) else kk ky p k:=by
 have e:=getElem?_mirror_all (xs:=p) (i:=i) hj k
 unfold kk J0
 by_cases c:i<=k/\k < j
 ·rw [At c] at e ⊢
  rw [JU e]
 ·rw [Ao c] at e ⊢
  rw [JU e]
theorem QG {p:A7 Ae} {src d:Ae} (hs:src < p.size) (hd:d<=src) (k:Ae) :
 kk ky (bubble p src d) k=if k=src - d then kk ky p src else if src - d < k/\k<=src then kk ky p (k - 1) else kk ky p k:=by
 have e:=getElem?_bubble hs d hd k
 unfold kk
 by_cases c:k=src - d
 ·rw [At c] at e ⊢
  rw [JU e]
 ·rw [Ao c] at e ⊢
  by_cases c2:src - d < k/\k<=src
  ·rw [At c2] at e ⊢
   rw [JU e]
  ·rw [Ao c2] at e ⊢
   rw [JU e]
theorem Srt.succ {p:A7 Ae} {m:Ae} (h:Srt ky p m) (h1:1<=m) (c:O.kle (kk ky p (m - 1)) (kk ky p m)):Srt ky p (m+1):=fun i j hij hj=>by
 by_cases e:j=m
 ·subst e
  by_cases e2:i=j
  ·subst e2
   exact Fb _
  ·exact Gy (h i (j - 1) (by omega) (by omega)) c
 ·exact h i j hij (by omega)
theorem Fal.succ {p:A7 Ae} {m:Ae} (h:Fal ky p m) (h1:1<=m) (c:O.kle (kk ky p m) (kk ky p (m - 1))):Fal ky p (m+1):=fun i j hij hj=>by
 by_cases e:j=m
 ·subst e
  by_cases e2:i=j
  ·subst e2
   exact Fb _
  ·exact Gy c (h i (j - 1) (by omega) (by omega))
 ·exact h i j hij (by omega)
theorem Srt.one {p:A7 Ae}:Srt ky p 1:=fun i j hij hj=>by
 have:i=j:=by omega
 subst this
 exact Fb _
theorem Fal.rev {p:A7 Ae} {m:Ae} (hz:m<=p.size) (h:Fal ky p m):Srt ky (J0 p 0 m) m:=fun i j hij hj=>by
 rw [HN hz,HN hz,At ⟨BQ _,by omega⟩,At ⟨BQ _,hj⟩]
 exact h _ _ (by omega) (by omega)
theorem Fal.revEq {p:A7 Ae} {i j m:Ae} (hz:j<=p.size) (hm:j<=m) (h:Fal ky p m) (eq:∀a b,i<=a->a < j->i<=b->b < j->O.kle (kk ky p a) (kk ky p b)):Fal ky (J0 p i j) m:=fun a b hab hb=>by
 rw [HN hz,HN hz]
 by_cases c1:i<=a/\a < j
 ·rw [At c1]
  by_cases c2:i<=b/\b < j
  ·rw [At c2]
   exact eq _ _ (by omega) (by omega) (by omega) (by omega)
  ·rw [Ao c2]
   exact h _ _ (by omega) hb
 ·rw [Ao c1]
  by_cases c2:i<=b/\b < j
  ·rw [At c2]
   exact h _ _ (by omega) (by omega)
  ·rw [Ao c2]
   exact h _ _ hab hb
theorem MP (ac:Fj O ky n cmp J) {p:A7 Ae} (hp:Prm n p) {R:Ae->Ai->Prop}:∀(f a:Ae) (s:Ai),1<=a->a+f<=n->Srt ky p a->J s ->
 (∀m s',a<=m->m<=a+f->Srt ky p m->(m < a+f->O.klt (kk ky p m) (kk ky p (m - 1)))->J s'->R m s')->(kas_asc p f a).kasWp cmp R s
 | 0,a,s,h1,hz,hs,hJ,k=>k a s (AB _) (AB _) hs (fun h=>A8 h (CQ _)) hJ
 | f+1,a,s,h1,hz,hs,hJ,k=>by
   refine ac _ _ _ s (hp.lt (by omega)) (hp.lt (by omega)) hJ fun s' hJ'=>?_
   cases e:O.blt (ky (p.getD a 0)) (ky (p.getD (a - 1) 0)) with
   | true =>
     dsimp only
     rw [At rfl]
     exact k a s' (AB _) (by omega) hs (fun _=>e) hJ'
   | false =>
     dsimp only
     rw [Ao B8]
     refine MP ac hp f (a+1) s' (by omega) (by omega) (hs.succ h1 e) hJ' fun m s2 l1 l2 q1 q2 q3=>?_
     exact k m s2 (by omega) (by omega) q1 (fun h=>q2 (by omega)) q3
theorem Lb (ac:Fj O ky n cmp J) {R:A7 Ae × Ae × Ae->Ai->Prop}:∀(f:Ae) (p:A7 Ae) (m q:Ae) (s:Ai),Prm n p->q+1<=m->m+f<=n->Fal ky p m ->
 (∀a b,m - (q+1)<=a->a < m->m - (q+1)<=b->b < m->O.kle (kk ky p a) (kk ky p b))->J s ->
 (∀p' m' q' s',Prm n p'->q'+1<=m'->m<=m'->m'<=m+f->Fal ky p' m'->(∀a b,m' - (q'+1)<=a->a < m'->m' - (q'+1)<=b->b < m'->O.kle (kk ky p' a) (kk ky p' b))->J s'->R (p',m',q') s') ->
 (kas_desc f p m q).kasWp cmp R s
 | 0,p,m,q,s,hp,hq,hz,hf,he,hJ,k=>k p m q s hp hq (AB _) (AB _) hf he hJ
 | f+1,p,m,q,s,hp,hq,hz,hf,he,hJ,k=>by
   have hsz:=hp.size
   refine ac _ _ _ s (hp.lt (by omega)) (hp.lt (by omega)) hJ fun s' hJ'=>?_
   cases e:O.blt (ky (p.getD m 0)) (ky (p.getD (m - 1) 0)) with
   | true =>
     dsimp only
     rw [At rfl]
     have hf':Fal ky p (m+1):=hf.succ (by omega) (LX e)
     have one:∀p':A7 Ae,∀a b,m+1 - (0+1)<=a->a < m+1->m+1 - (0+1)<=b->b < m+1->O.kle (kk ky p' a) (kk ky p' b):=fun p' a b _ _ _ _=>by
      have:a=b:=by omega
      subst this
      exact Fb _
     by_cases c:q > 0
     ·rw [At c]
      refine Lb ac f (J0 p (m - (q+1)) m) (m+1) 0 s' (hp.rev _ _) (by omega) (by omega) (hf'.revEq (by omega) (by omega) he) (one _) hJ' fun p' m' q' s2 a1 a2 a3 a4 a5 a6 a7=>?_
      exact k p' m' q' s2 a1 a2 (by omega) (by omega) a5 a6 a7
     ·rw [Ao c]
      refine Lb ac f p (m+1) 0 s' hp (by omega) (by omega) hf' (one _) hJ' fun p' m' q' s2 a1 a2 a3 a4 a5 a6 a7=>?_
      exact k p' m' q' s2 a1 a2 (by omega) (by omega) a5 a6 a7
   | false =>
     dsimp only
     rw [Ao B8]
     refine ac _ _ _ s' (hp.lt (by omega)) (hp.lt (by omega)) hJ' fun s2 hJ2=>?_
     cases e2:O.blt (ky (p.getD (m - 1) 0)) (ky (p.getD m 0)) with
     | true =>
       dsimp only
       rw [At rfl]
       exact k p m q s2 hp hq (AB _) (by omega) hf he hJ2
     | false =>
       dsimp only
       rw [Ao B8]
       have g1:O.kle (kk ky p (m - 1)) (kk ky p m):=e
       have g2:O.kle (kk ky p m) (kk ky p (m - 1)):=e2
       refine Lb ac f p (m+1) (q+1) s2 hp (by omega) (by omega) (hf.succ (by omega) g2) (fun a b a1 a2 b1 b2=>?_) hJ2 fun p' m' q' s3 c1 c2 c3 c4 c5 c6 c7=>?_
       ·by_cases ea:a=m
        ·by_cases eb:b=m
         ·rw [ea,eb]
          exact Fb _
         ·rw [ea]
          exact Gy g2 (he (m - 1) b (by omega) (by omega) (by omega) (by omega))
        ·by_cases eb:b=m
         ·rw [eb]
          exact Gy (he a (m - 1) (by omega) (by omega) (by omega) (by omega)) g1
         ·exact he a b (by omega) (by omega) (by omega) (by omega)
       ·exact k p' m' q' s3 c1 c2 (by omega) (by omega) c5 c6 c7
theorem TK (ac:Fj O ky n cmp J) {p:A7 Ae} (hp:Prm n p) {m nrem:Ae} {R:Ae × A7 Ae->Ai->Prop} {s:Ai} (h1:1<=m) (h2:m<=nrem) (h3:nrem<=n) (hf:Fal ky p m) (hJ:J s)
 (k:∀m' p' s',1<=m'->m'<=nrem->Prm n p'->Srt ky p' m'->J s'->R (m',p') s'):(kas_tail3 m nrem p).kasWp cmp R s:=by
 have hsz:=hp.size
 unfold kas_tail3
 rw [Kx]
 refine MP ac (hp.rev 0 m) (nrem - m) m s h1 (by omega) (hf.rev (by omega)) hJ fun m' s' a1 a2 a3 _ a5=>?_
 exact k m' _ s' (by omega) (by omega) (hp.rev _ _) a3 a5
theorem Qo (ac:Fj O ky n cmp J) {p:A7 Ae} (hp:Prm n p) {m nrem:Ae} {R:Ae × A7 Ae->Ai->Prop} {s:Ai} (h2:m+1<=nrem) (h3:nrem<=n) (hf:Fal ky p (m+1)) (hJ:J s)
 (k:∀m' p' s',1<=m'->m'<=nrem->Prm n p'->Srt ky p' m'->J s'->R (m',p') s'):(kas_descPart m nrem p).kasWp cmp R s:=by
 unfold kas_descPart
 rw [Kx]
 refine Lb ac (nrem - (m+1)) p (m+1) 0 s hp (by omega) (by omega) hf (fun a b _ _ _ _=>?_) hJ fun p' m' q' s' a1 a2 a3 a4 a5 a6 a7=>?_
 ·have:a=b:=by omega
  subst this
  exact Fb _
 ·have hsz:=a1.size
  dsimp only
  by_cases c:q' > 0
  ·rw [At c]
   exact TK ac (a1.rev _ _) (by omega) (by omega) h3 (a5.revEq (by omega) (AB _) a6) a7 k
  ·rw [Ao c]
   exact TK ac a1 (by omega) (by omega) h3 a5 a7 k
theorem WH (ac:Fj O ky n cmp J) {p:A7 Ae} (hp:Prm n p) {R:Ae × A7 Ae->Ai->Prop} {s:Ai} (h1:1<=n) (hJ:J s)
 (k:∀m' p' s',1<=m'->m'<=n->Prm n p'->Srt ky p' m'->J s'->R (m',p') s'):(kas_count n p).kasWp cmp R s:=by
 have hsz:=hp.size
 unfold kas_count
 rw [Kx]
 refine MP ac hp (n - 1) 1 s (AB _) (by omega) Srt.one hJ fun m s' a1 a2 a3 a4 a5=>?_
 by_cases c:m=n
 ·rw [At (by simpa using c)]
  exact k m p s' a1 (by omega) hp a3 a5
 ·rw [Ao (by simpa using c)]
  have lt:=a4 (by omega)
  by_cases c1:m > 1
  ·rw [At c1]
   refine ac _ _ _ s' (hp.lt (by omega)) (hp.lt (by omega)) a5 fun s2 hJ2=>?_
   cases e:O.blt (ky (p.getD 0 0)) (ky (p.getD (m - 1) 0)) with
   | true =>
     dsimp only
     rw [At rfl]
     exact k m p s2 a1 (by omega) hp a3 hJ2
   | false =>
     dsimp only
     rw [Ao B8]
     have g:O.kle (kk ky p (m - 1)) (kk ky p 0):=e
     have eq:∀a b,a < m->b < m->O.kle (kk ky p a) (kk ky p b):=fun a b ha hb =>
      Gy (a3 a (m - 1) (by omega) (by omega)) (Gy g (a3 0 b (by omega) hb))
     refine Qo ac (hp.rev 0 m) (by omega) (AB _) ?_ hJ2 k
     intro i j hij hj
     rw [HN (by omega),HN (by omega)]
     by_cases cj:j < m
     ·rw [At ⟨BQ _,cj⟩,At ⟨BQ _,by omega⟩]
      exact eq _ _ (by omega) (by omega)
     ·have ej:j=m:=by omega
      subst ej
      rw [Ao (by omega)]
      by_cases ci:i < j
      ·rw [At ⟨BQ _,ci⟩]
       exact Gy (LX lt) (eq _ _ (by omega) (by omega))
      ·rw [Ao (by omega)]
       have:i=j:=by omega
       subst this
       exact Fb _
  ·rw [Ao c1]
   have em:m=1:=by omega
   subst em
   refine Qo ac hp (by omega) (AB _) ?_ a5 k
   have f1:Fal ky p 1:=fun i j hij hj=>by
    have:i=j:=by omega
    subst this
    exact Fb _
   exact f1.succ (AB _) (LX lt)
theorem NF (ac:Fj O ky n cmp J) {p:A7 Ae} (hp:Prm n p) {t:Ae} (ht:t < n) {R:Ae->Ai->Prop}:∀(f l r:Ae) (s:Ai),l<=r->r<=t->r - l<=f->(∀i,i < l->O.kle (kk ky p i) (kk ky p t))->(∀i,r<=i->i < t->O.klt (kk ky p t) (kk ky p i)) ->
 Srt ky p t->J s->(∀l' s',l'<=t->(∀i,i < l'->O.kle (kk ky p i) (kk ky p t))->(∀i,l'<=i->i < t->O.klt (kk ky p t) (kk ky p i))->J s'->R l' s')->(kas_place p t f l r).kasWp cmp R s
 | 0,l,r,s,h1,h2,h3,h4,h5,_,hJ,k=>k l s (by omega) h4 (fun i a b=>h5 i (by omega) b) hJ
 | f+1,l,r,s,h1,h2,h3,h4,h5,hs,hJ,k=>by
   unfold kas_place
   by_cases c:l>=r
   ·rw [At c]
    exact k l s (by omega) h4 (fun i a b=>h5 i (by omega) b) hJ
   ·rw [Ao c]
    refine ac _ _ _ s (hp.lt ht) (hp.lt (by omega)) hJ fun s' hJ'=>?_
    cases e:O.blt (ky (p.getD t 0)) (ky (p.getD ((l+r) / 2) 0)) with
    | true =>
      dsimp only
      rw [At rfl]
      have g:O.klt (kk ky p t) (kk ky p ((l+r) / 2)):=e
      exact NF ac hp ht f l ((l+r) / 2) s' (by omega) (by omega) (by omega) h4 (fun i a b=>KeyOrd.klt_of_klt_of_kle g (hs _ _ a b)) hs hJ' k
    | false =>
      dsimp only
      rw [Ao B8]
      have g:O.kle (kk ky p ((l+r) / 2)) (kk ky p t):=e
      exact NF ac hp ht f ((l+r) / 2+1) r s' (by omega) h2 (by omega) (fun i a=>Gy (hs i ((l+r) / 2) (by omega) (by omega)) g) h5 hs hJ' k
theorem PM (ac:Fj O ky n cmp J) {R:A7 Ae->Ai->Prop}:∀(f:Ae) (p:A7 Ae) (t:Ae) (s:Ai),Prm n p->t+f=n->Srt ky p t->J s->(∀p' s',Prm n p'->Srt ky p' n->J s'->R p' s')->(kas_bin f p t).kasWp cmp R s
 | 0,p,t,s,hp,hz,hs,hJ,k=>k p s hp (by have:t=n:=by omega
                                       subst this;exact hs) hJ
 | f+1,p,t,s,hp,hz,hs,hJ,k=>by
   have hsz:=hp.size
   unfold kas_bin
   rw [Kx]
   refine NF ac hp (by omega) t 0 t s (BQ _) (AB _) (by omega) (fun i h=>A8 h (K7 _)) (fun i a b=>A8 b (by omega)) hs hJ fun l s' a1 a2 a3 hJ'=>?_
   refine PM ac f (bubble p t (t - l)) (t+1) s' (hp.bub _ _) (by omega) ?_ hJ' k
   intro i j hij hj
   have el:t - (t - l)=l:=by omega
   rw [QG (by omega) (by omega),QG (by omega) (by omega),el]
   by_cases ci:i=l
   ·rw [At ci]
    by_cases cj:j=l
    ·rw [At cj]
     exact Fb _
    ·rw [Ao cj,At ⟨by omega,by omega⟩]
     exact LX (a3 _ (by omega) (by omega))
   ·rw [Ao ci]
    by_cases ci2:l < i/\i<=t
    ·rw [At ci2,Ao (by omega),At ⟨by omega,by omega⟩]
     exact hs _ _ (by omega) (by omega)
    ·rw [Ao ci2]
     by_cases cj:j=l
     ·rw [At cj]
      exact a2 _ (by omega)
     ·rw [Ao cj]
      by_cases cj2:l < j/\j<=t
      ·rw [At cj2]
       exact hs _ _ (by omega) (by omega)
      ·rw [Ao cj2]
       exact hs _ _ hij (by omega)
theorem Aav (ac:Fj O ky n cmp J) {R:A7 Ae->Ai->Prop} {s:Ai} (h1:1<=n) (hJ:J s) (k:∀p s',Prm n p->Srt ky p n->J s'->R p s'):(kas_sort n).kasWp cmp R s:=by
 unfold kas_sort
 rw [Kx]
 refine WH ac (Ky _) h1 hJ fun m p s' a1 a2 a3 a4 a5=>?_
 dsimp only
 by_cases c:m < n
 ·rw [At c]
  have e:max m 1=m:=by omega
  rw [e]
  exact PM ac (n - m) p m s' a3 (by omega) a4 a5 k
 ·rw [Ao c]
  have e:m=n:=by omega
  subst e
  exact k p s' a3 a4 a5
end
end L2
namespace L2
open PySem PySem.W PySem.Spec PyProof.Rows
theorem GH:∀a b:Ab Ac,HT.lexLt a b=decide (a < b)
 | [],[]=>by simp [HT.lexLt]
 | [],_ :: _=>by simp [HT.lexLt]
 | _ :: _,[]=>by simp [HT.lexLt]
 | x :: xs,y :: ys=>by
   rw [HT.lexLt_cons,GH xs ys]
   by_cases e:x=y
   ·subst e
    rw [At rfl]
    simp [UN]
   ·rw [Ao e]
    simp [UN,e]
noncomputable def Lj:KeyOrd where
 α:=Ab Ac
 blt a b:=HT.lexLt a b
 irrefl a:=by rw [GH];simpa using List.lt_irrefl a
 trans a b c h1 h2:=by
  rw [GH] at *
  simp only [G6] at *
  exact List.lt_trans h1 h2
 negTrans a b c h:=by
  rw [GH] at h
  rw [GH,GH]
  simp only [G6] at *
  by_cases hab:a < b
  ·exact .inl hab
  ·exact .inr (List.lt_of_le_of_lt (List.not_lt.mp hab) h)
 total a b h1 h2:=by
  rw [GH] at *
  simp only [decide_eq_false_iff_not] at *
  exact List.le_antisymm (List.not_lt.mp h2) (List.not_lt.mp h1)
noncomputable def Ej (h:AC) (v:Ah) (ns:Ab Ac):Prop:=∃a its,v=.ref a/\IsTup h a its/\Cf its.toList ns
section
variable {prog:AN} {w:AA} {A:AV} {E:Ah->Ai->Prop} {s:Ai} {Q:AR->Ai->Prop}
theorem RY {fin bb:AR}:∀{vs us:Ab Ah} {ns ms:Ab Ac} (i:Ae),Cf vs ns->Cf us ms->Q (HT.lexLt ns ms) s->fin=decide (vs.length < us.length)->KatLex prog w A bb fin Q (vs.zip us) i s
 | _,_,_,_,i,.nil,.nil,h,e=>by
   refine kat_nil ?_
   rw [e]
   exact h
 | _,_,_,_,i,.nil,.cons _ _ _,h,e=>by
   refine kat_nil ?_
   rw [e]
   simpa [HT.lexLt] using h
 | _,_,_,_,i,.cons _ _ _,.nil,h,e=>by
   refine kat_nil ?_
   rw [e]
   simpa [HT.lexLt] using h
 | _,_,_,_,i,.cons (vs:=vs) (ns:=ns) x t hv,.cons (vs:=us) (ns:=ms) y u hu,h,e=>by
   refine kat_cons (Wf (kat_go (fun c=>?_) (fun c=>?_)))
   ·have xy:x=y:=by simpa using c
    subst xy
    refine kat_yes (RY (i+1) hv hu ?_ ?_)
    ·simpa [HT.lexLt] using h
    ·rw [e]
     simp
   ·have xy:¬ x=y:=by simpa using c
    refine kat_no ?_
    have h':Q (decide (x < y)) s:=by simpa [HT.lexLt,xy] using h
    cases (bb && i == 0) with
    | true=>exact oneLt_int h'
    | false=>exact kat_one _ _ (lt_int h')
noncomputable def P9 (κ:SortKind):Prop:=(∃b,κ=tuples' b)\/κ=general'\/κ=oneType'
theorem ZT {κ:SortKind} {x y:Ah} {ns ms:Ab Ac} (hk:P9 κ) (hx:Ej s.heap x ns) (hy:Ej s.heap y ms) (hu:A.units < cLine) (h:Q (HT.lexLt ns ms) s):Ar (A1 prog w) A (keyLt' κ x y) Q E s:=by
 obtain ⟨a,its,rfl,ta,ia⟩:=hx
 obtain ⟨b,jts,rfl,tb,ib⟩:=hy
 rcases hk with ⟨bb,rfl⟩ | rfl | rfl
 ·obtain ⟨o,ho,hc,n,hd⟩:=ta
  obtain ⟨o2,ho2,hc2,n2,hd2⟩:=tb
  exact kat_lt ho hd ho2 hd2 (RY 0 ia ib h (by simp))
 ·exact kat_one _ _ (HT.lt_tupInts ta tb ia ib hu h)
 ·rw [keyLt'_oneType,oneLt'_eq]
  simp only [Fh]
  refine Al (wpAny_cRoomFor hu ?_)
  obtain ⟨⟨cls,dd,data,sl⟩,ho,hc,n,hd⟩:=id ta
  obtain ⟨⟨cls2,dd2,data2,sl2⟩,ho2,hc2,n2,hd2⟩:=id tb
  simp only at hc hd hc2 hd2
  subst hc hd hc2 hd2
  refine Al (wpAny_callSpecialIfBound?_slot (T:="tuple") ⟨_,ho,rfl⟩ ON (M8 ON ⟨_,ho,rfl⟩ Vu (Vs _ _) (HT.tuple_lt_ints a b its jts n n2 dd dd2 sl sl2 ns ms ia ib) ⟨ho,ho2,?_⟩))
  exact Hz h
theorem X7:∀{l:Ab Ah} {ns:Ab Ac},Cf l ns->∀{v:Ah},l[0]?=Aa v->∃n t,v=Di n t
 | _,_,.nil,v,e=>by simp at e
 | _,_,.cons n t _,v,e=>⟨n,t,by simpa using e.symm⟩
theorem QT {α β:Type} {f:α->C2 β}:∀(l:Ab α) {R:Ab β->Ai->Prop},(∀v∈l,∀(Q':β->Ai->Prop),(∀r,Q' r s)->Ar (A1 prog w) A (f v) Q' E s)->(∀rs,R rs s)->Ar (A1 prog w) A (l.mapM f) R E s
 | [],_,_,h=>by
   rw [UZ]
   exact A0 (h [])
 | x :: l,R,hf,h=>by
   rw [UY]
   exact Al (hf x (.head _) _ fun r=>Al (QT l (R:=fun bs s'=>Ar (A1 prog w) A (pure (r :: bs)) R E s') (fun v hv=>hf v (.tail _ hv)) fun rs=>A0 (h _)))
theorem Rm {l:Ab Ah} {R:Ay Ah->Ai->Prop} (hf:∀v∈l,∀(Q':Ah->Ai->Prop),(∀r,Q' r s)->Ar (A1 prog w) A (typeOf v) Q' E s) (h:∀r,R r s):Ar (A1 prog w) A (oneTypeOnly' l.toArray) R E s:=by
 rw [oneTypeOnly'_eq,U_,VW]
 refine Al (Al (QT l hf fun rs=>A0 ?_))
 cases rs.toArray[0]? with
 | none=>exact A0 (h _)
 | some t=>exact A0 (h _)
theorem ZR {rows:Ab (Ab Ac)}:∀{vs:Ab Ah},Ed (Ej s.heap) vs rows->∀{R:Ab (Ay Ah)->Ai->Prop},(∀fs,fs.length=vs.length->(∀f∈fs,∀v,f=Aa v->∃n t,v=Di n t)->R fs s) ->
 Ar (A1 prog w) A (vs.mapM firstOfTuple') R E s:=by
 intro vs hp
 induction hp with
 | nil =>
   intro R h
   rw [UZ]
   exact A0 (h [] rfl (fun f m=>nomatch m))
 | cons hx hr ih =>
   intro R h
   obtain ⟨a,its,rfl,⟨o,ho,hc,n,hd⟩,ia⟩:=hx
   rw [UY]
   refine Al ?_
   rw [kas_first_eq]
   refine Al (Looks.here (show Looks (A1 prog w) s.heap (typeOf (.ref a)) o.cls from (Looks.ld ho).andThen .now) ?_)
   rw [hc,Ao (by first | decide | simp)]
   refine Al (listItems_at ho hd (A0 ?_))
   refine Al (ih fun fs l1 l2=>A0 (h _ (by rw [BA,BA,l1]) fun f m v e=>?_))
   rcases List.mem_cons.mp m with m | m
   ·subst m
    have e':its.toList[0]?=Aa v:=by simpa using e
    exact X7 ia e'
   ·exact l2 f m v e
theorem ZS {vs:Ab Ah} {rows:Ab (Ab Ac)} (hp:Ed (Ej s.heap) vs rows) {R:SortKind->Ai->Prop} (h:∀κ,P9 κ->R κ s):Ar (A1 prog w) A (keyKind' vs.toArray) R E s:=by
 rw [kat_kind_eq,U_,VW]
 refine Al (Al (ZR hp fun fs l1 l2=>A0 ?_))
 by_cases c:(fs.toArray.all fun x=>x.isSome)=Af
 ·rw [At c]
  refine Al (Hy ?_)
  have e:fs.toArray.filterMap id=(fs.filterMap id).toArray:=by simp
  rw [e]
  refine Al (Rm (fun v hv Q' hq=>?_) fun r=>A0 (h _ (.inl ⟨_,rfl⟩)))
  obtain ⟨f,fm,fe⟩:=List.mem_filterMap.mp hv
  obtain ⟨n,t,rfl⟩:=l2 f fm v fe
  exact Eh (a:=Ck "int") rfl (hq _)
 ·rw [Ao c]
  by_cases c2:(fs.toArray[0]?.bind id).isSome=Af
  ·rw [At c2]
   exact A0 (h _ (.inr (.inl rfl)))
  ·rw [Ao c2]
   refine Al (Rm (fun v hv Q' hq=>?_) fun r=>?_)
   ·obtain ⟨ns,hr⟩:∃ns,Ej s.heap v ns:=by
     clear l1 l2 c c2
     induction hp with
     | nil=>cases hv
     | cons hx _ ih =>
       rcases List.mem_cons.mp hv with m | m
       ·exact ⟨_,m ▸ hx⟩
       ·exact ih m
    obtain ⟨a,its,rfl,⟨o,ho,hc,n,hd⟩,ia⟩:=hr
    exact Looks.here (show Looks (A1 prog w) s.heap (typeOf (.ref a)) o.cls from (Looks.ld ho).andThen .now) (hq _)
   ·cases r with
    | none=>exact A0 (h _ (.inr (.inl rfl)))
    | some t=>exact A0 (h _ (.inr (.inr rfl)))
theorem NA {α β:Type} {R:α->β->Prop} (d:α) (e:β):∀{xs:Ab α} {ys:Ab β},Ed R xs ys->∀i,i < xs.length->R (xs.getD i d) (ys.getD i e)
 | _,_,.nil,i,h=>A8 h (K7 _)
 | _,_,.cons r _,0,_=>r
 | _,_,.cons _ t,i+1,h=>NA d e t i (by simpa using h)
theorem Yi (vs:Ab Ah):(Bz vs.length).map (fun i=>vs.getD i B6)=vs:=by
 apply G0
 ·simp
 ·intro i h1 h2
  simp [h2]
theorem Ej.keep {h h':AC} {v:Ah} {ns:Ab Ac} (x:Ej h v ns) (k:∀b o,o.cls=.type "tuple"->h.get? b=Aa o->h'.get? b=Aa o):Ej h' v ns:=by
 obtain ⟨a,its,rfl,⟨o,ho,hc,n,hd⟩,ia⟩:=x
 exact ⟨a,its,rfl,⟨o,k a o hc ho,hc,n,hd⟩,ia⟩
theorem ZU {a:Ad} {vs:Ab Ah} {rows:Ab (Ab Ac)} {n:Ae} {P:PySem.Fin->Ai->Prop} (ho:s.heap.get? a=Aa (seqObj "list" vs.toArray n)) (hp:Ed (Ej s.heap) vs rows) (h64:vs.length < 64) (hu:A.units < cLine)
 (h:∀p:A7 Ae,Prm vs.length p->Srt (O:=Lj) (fun i=>rows.getD i []) p vs.length->P (.done (.ret .none)) { s with heap:=sortedHeap s.heap a vs (Mp (p.toList.map fun i=>vs.getD i B6)) }) :
 Ar (A1 prog w) A (C9.«list.sort» ⟨[.ref a],[]⟩) P E s:=by
 rw [list_sort_plain]
 have ha:a < s.heap.objs.size:=A' ho
 refine Al (listItems_at ho rfl ?_)
 refine Al (Pi ho rfl ?_)
 obtain ⟨e1,ho1⟩:∃e1,(s.heap.update a (CY fun _=>#[])).get? a=Aa (seqObj "list" #[] e1):=⟨_,get?_update_seq ho (fun _=>#[])⟩
 refine Al (seqEpoch_at ho1 rfl ?_)
 refine Al (wpAny_newTuple ?_)
 refine Al (Pw ?_)
 refine Du ?_
 have ho6:(((s.heap.update a (CY fun _=>#[])).push (seqObj "tuple" vs.toArray 0)).push (seqObj "list" #[] 0)).get? a=Aa (seqObj "list" #[] e1):=by
  rw [UD _ _ _ (by rw [Kl,Oi];exact Bx (Hm ha)),UD _ _ _ (by rw [Oi];exact Bx ha)]
  exact ho1
 have hp6:Ed (Ej (((s.heap.update a (CY fun _=>#[])).push (seqObj "tuple" vs.toArray 0)).push (seqObj "list" #[] 0))) vs rows:=Paired.mapP hp fun v ns x=>x.keep fun b o hc e=>by
  have hb:b≠a:=fun z=>by
   rw [z,ho] at e
   cases e
   exact A8 (show Ck "list"=Ck "tuple" from hc) (by decide)
  exact Bk _ (Bk _ ((FJ _ _ (AM hb)).trans e))
 show Ar (A1 prog w) A _ P E { s with heap:=((s.heap.update a (CY fun _=>#[])).push (seqObj "tuple" vs.toArray 0)).push (seqObj "list" #[] 0) }
 dsimp only
 have hsz:vs.toArray.size=vs.length:=by simp
 by_cases h2:vs.toArray.size < 2
 ·rw [At h2,At h2]
  refine Al (A0 ?_)
  rw [StateT.run_pure]
  refine Al (A0 ?_)
  dsimp only
  refine Al (seqEpoch_at ho6 rfl ?_)
  refine Al (Pi ho6 rfl ?_ (hsz2:=by rw [Array.size_map];show (pairsOf vs).size<=_;rw [pairsOf_size,Fi];omega))
  simp only [VO,Eo,Dj]
  have hh:=h (Bz vs.length).toArray (Ky _) (fun i j hij hj=>by
   have:i=j:=by omega
   subst this
   exact Fb _)
  rw [show (Bz vs.length).toArray.toList.map (fun i=>vs.getD i B6)=vs from Yi vs] at hh
  have e:(arrOf (SortSt.mk' general' (vs.toArray.zip vs.toArray) #[] 7 Ag)).map (·.2)=vs.toArray:=by
   show (vs.toArray.zip vs.toArray).map (·.2)=vs.toArray
   apply Oa
   ·simp
   ·intro i h1 h2
    simp
  refine A0 ?_
  have hh':=hh
  rw [<- e] at hh'
  exact hh'
 ·rw [Ao h2,Ao h2]
  refine Al (ZS hp6 fun κ hκ=>?_)
  have ac:Fj Lj (fun i=>rows.getD i []) vs.length (kas_ask prog w A κ vs) (fun s'=>s'={ s with heap:=((s.heap.update a (CY fun _=>#[])).push (seqObj "tuple" vs.toArray 0)).push (seqObj "list" #[] 0) }):=by
   intro i j C s' hi hj e k
   subst e
   exact ZT hκ (NA B6 [] hp6 i hi) (NA B6 [] hp6 j hj) hu (k _ rfl)
  refine Al (DE (kat_run (ks:=vs) (vs:=vs) (Q:=fun st' s'=>∃p:A7 Ae,arrOf st'=p.map (kas_item (vs.toArray.zip vs.toArray))/\failedOf st'=Ag/\s'={ s with heap:=((s.heap.update a (CY fun _=>#[])).push (seqObj "tuple" vs.toArray 0)).push (seqObj "list" #[] 0) }/\Prm vs.length p/\Srt (O:=Lj) (fun i=>rows.getD i []) p vs.length)
   (G:=fun p s'=>s'={ s with heap:=((s.heap.update a (CY fun _=>#[])).push (seqObj "tuple" vs.toArray 0)).push (seqObj "list" #[] 0) }/\Prm vs.length p/\Srt (O:=Lj) (fun i=>rows.getD i []) p vs.length)
   rfl (by omega) h64 (fun p st' s' _ a2 a3 g=>⟨p,a2,a3,g⟩) (Aav ac (by omega) rfl fun p s' q1 q2 e=>⟨e,q1,q2⟩)) ?_ fun _ _ e=>e)
  rintro ⟨⟨⟩,st'⟩ s' ⟨p,har,hf,rfl,q1,q2⟩
  dsimp only
  have hout:=kat_snds rfl har
  refine Al (seqEpoch_at ho6 rfl ?_)
  rw [hout]
  refine Al (Pi ho6 rfl ?_ (hsz2:=by rw [BB,Aw,DA,q1.size,Fi];omega))
  rw [hf]
  simp only [VO,Eo,Dj]
  exact A0 (h p q1 q2)
end
section
variable {X:Cx}
theorem Uf:∀as:Ab Ad,AW (as.map V.ref) (as.map A_)
 | []=>.nil
 | a :: as=>.cons rfl (Uf as)
end
end L2
namespace L2
open PySem PySem.W PySem.Spec PyProof.Rows
noncomputable def DF (h:AC) (d:Ad) (es:A7 Gu) (ep:Ae):Prop:=∃o,h.get? d=Aa o/\o.ExactDict/\o.data=.dict es ep
theorem DF.at {h h':AC} {d:Ad} {es:A7 Gu} {ep:Ae} (x:DF h d es ep) (e:∀o,h.get? d=Aa o->h'.get? d=Aa o):DF h' d es ep:=let ⟨o,ho,r⟩:=x;⟨o,e _ ho,r⟩
theorem DF.lt {h:AC} {d:Ad} {es:A7 Gu} {ep:Ae} (x:DF h d es ep):d < h.objs.size:=let ⟨_,ho,_⟩:=x;A' ho
theorem DF.typeIs {s:Ai} {d:Ad} {es:A7 Gu} {ep:Ae} (x:DF s.heap d es ep):s.TypeIs (.ref d) "dict":=let ⟨o,ho,hc,_⟩:=x;⟨o,ho,hc.1⟩
section
variable {prog:AN} {w:AA} {A:AV} {E:Ah->Ai->Prop} {s:Ai} {d:Ad} {es:A7 Gu} {ep:Ae}
theorem ZG {Q:Ah->Ai->Prop} (hd:(d == DU)=As) (hm:DF s.heap d es ep)
 (hQ:Q (.ref s.heap.objs.size) { s with heap:=s.heap.push { cls:=.type "dict_keyiterator",data:=.fields #[.ref d,.int 0 0,.int es.size 0,.int ep 0] } }):Ar (A1 prog w) A (pyIter (.ref d)) Q E s:=by
 have hT:=hm.typeIs
 obtain ⟨o,ho,hc,hdat⟩:=id hm
 refine Px hT UA (Ey UA hT F.entry_dict_iter ?_ (F.args_dict_iter_1 _))
 unfold C9.«dict.__iter__»
 refine Al ?_
 unfold Builtin.Dict.dictSlotNone
 refine Al (wpAny_notOrdered_dict hT ?_)
 show Ar _ _ (pure (A_ d)) _ _ s
 refine A0 ?_
 show Ar _ _ (Ut d >>= _) _ _ s
 unfold Ut
 rw [Ao (by rw [hd];exact B8)]
 refine Al (A0 ?_)
 refine Al (Pr ho hdat ?_)
 refine Al (Ps ho hdat ?_)
 refine Al (Ez (A0 ⟨_,rfl,"dict_keyiterator",_,⟨_,BE _ rfl,rfl⟩,F.slot_dict_keyiterator_next.lookup,?_⟩))
 simpa [rawInt] using hQ
theorem ZI {it:Ad} {i:Ae} {e:Gu} {Q:Ay Ah->Ai->Prop} (hit:s.heap.IsKeyIter it d i es.size ep) (hm:DF s.heap d es ep) (hx:es[i]?=Aa e)
 (hQ:∀h',h'.IsKeyIter it d (i+1) es.size ep->Ep it s.heap h'->Q (Aa e.key) { s with heap:=h' }):Ar (A1 prog w) A (pyNext (.ref it)) Q E s:=by
 obtain ⟨o,ho,hc,hd⟩:=id hit
 obtain ⟨od,hod,hcd,hdd⟩:=id hm
 unfold pyNext
 refine Al (JC (Hw (name:=Az "__next__") hit.typeIs LS
  (Ey LS hit.typeIs U6 ?_ (U3 _))))
 refine Al (A0 ?_)
 refine Al ?_
 refine Al ?_
 first | refine Al (MH hit.typeIs (A0 ?_)) | refine Al (MI hit.typeIs (A0 ?_))
 refine Al (ME ho hd ?_)
 have hown:Uu "dict_keyiterator"=As:=by decide
 simp only [hown,Eo,Dj]
 show Ar _ _ (if (A_ d == B6)=Af then _ else _) _ _ s
 rw [Ao (show ¬ ((A_ d == B6)=Af) from B8)]
 refine Al (A0 ?_)
 refine Al (Pr hod hdd ?_)
 rw [Ao (by simp)]
 refine Al (A0 ?_)
 refine Al (Ps hod hdd ?_)
 rw [Ao (by simp)]
 refine A0 ?_
 simp only [show ¬ ((i:Ac) < 0) from by omega,Dj,Ce,hx]
 refine Al ?_
 first | refine Al (MH hit.typeIs (A0 ?_)) | refine Al (MI hit.typeIs (A0 ?_))
 refine Al (Wh hit.typeIs ?_)
 show Ar _ _ (setField (.ref it) 1 (rawInt ((i:Ac)+1)) >>= _) _ _ s
 refine Al (G7 ho hd (by simp) ?_)
 have hit':(s.heap.update it (Ew (·.setIfInBounds 1 (rawInt ((i:Ac)+1))))).IsKeyIter it d (i+1) es.size ep :=
  ⟨_,EC _ ho (Jn (Ev hd _)),(K9 ..).trans hc,by rw [Ev hd];simp [rawInt]⟩
 refine Al (Du ?_)
 refine Al (Wh (s:={ s with heap:=s.heap.update it (Ew (·.setIfInBounds 1 (rawInt ((i:Ac)+1)))) }) hit'.typeIs ?_)
 show Ar _ _ (pure e.key) _ _ _
 exact A0 (A0 ⟨_,rfl,A0 (hQ _ hit' (Hc ..))⟩)
theorem ZF {it:Ad} {i:Ae} {Q:Ay Ah->Ai->Prop} (hh:A.handled=Ag) (hit:s.heap.IsKeyIter it d i es.size ep) (hm:DF s.heap d es ep) (hx:es.size<=i)
 (hQ:∀h',Jf it s.heap h'->Q Ag { s with heap:=h' }):Ar (A1 prog w) A (pyNext (.ref it)) Q E s:=by
 obtain ⟨o,ho,hc,hd⟩:=id hit
 obtain ⟨od,hod,hcd,hdd⟩:=id hm
 unfold pyNext
 refine Al (JC (Hw (name:=Az "__next__") hit.typeIs LS
  (Ey LS hit.typeIs U6 ?_ (U3 _))))
 refine Al (A0 ?_)
 refine Al ?_
 refine Al ?_
 first | refine Al (MH hit.typeIs (A0 ?_)) | refine Al (MI hit.typeIs (A0 ?_))
 refine Al (ME ho hd ?_)
 have hown:Uu "dict_keyiterator"=As:=by decide
 simp only [hown,Eo,Dj]
 show Ar _ _ (if (A_ d == B6)=Af then _ else _) _ _ s
 rw [Ao (show ¬ ((A_ d == B6)=Af) from B8)]
 refine Al (A0 ?_)
 refine Al (Pr hod hdd ?_)
 rw [Ao (by simp)]
 refine Al (A0 ?_)
 refine Al (Ps hod hdd ?_)
 rw [Ao (by simp)]
 refine A0 ?_
 simp only [show ¬ ((i:Ac) < 0) from by omega,Dj,Ce,LH hx]
 refine Al ?_
 first | refine Al (MH hit.typeIs (A0 ?_)) | refine Al (MI hit.typeIs (A0 ?_))
 show Ar _ _ (setField (.ref it) 0 .none >>= _) _ _ s
 refine Al (G7 ho hd (by simp) ?_)
 show Ar _ _ (newExc (.type "StopIteration") [] >>= _) _ _ _
 refine Al ?_
 simp only [newExc,newTuple]
 refine Al (Ez ?_ (by size_fits))
 refine Al (m:=firstArgMember _ _) (Eh (a:=B6) (by first | rfl | (simp only [firstArgMember];rfl)) ?_)
 refine Ez ?_ (by size_fits)
 simp only [raiseNew]
 refine Al (Pt ?_)
 rw [show A.in1.handled=Ag from hh]
 refine Al (A0 (P0 ?_))
 refine Al (KN (T:="StopIteration") (b:=Af) ⟨_,BE _ rfl,rfl⟩ Ph ?_)
 exact A0 (hQ _ (((Hc ..).extBut.push _).push _))
theorem ZK (hh:A.handled=Ag) (I:Ad) (hne:d≠I):Walks prog w A I [I,d] [I] es.size (fun i v=>∃e,es[i]?=Aa e/\v=e.key) (fun i h=>h.IsKeyIter I d i es.size ep/\DF h d es ep) where
 sub:=fun b hb=>by simp at hb;simp [hb]
 frame:=fun _ _ _ st hk=>⟨st.1.at fun o e=>hk I (by simp) o e,st.2.at fun o e=>hk d (by simp) o e⟩
 item:=fun i s Q E hi st hQ=>by
  obtain ⟨e,hx⟩:∃e,es[i]?=Aa e:=⟨es[i],by simp [hi]⟩
  refine ZI st.1 st.2 hx fun h' hit' hs'=>?_
  exact hQ e.key h' s.toks ⟨e,hx,rfl⟩ ⟨hit',st.2.at fun o q=>hs'.extBut d o hne q⟩ fun b o hb q=>hs'.extBut b o (fun h=>hb (by simp [h])) q
 done:=fun s Q E st hQ=>ZF hh st.1 st.2 (AB _) fun h' he'=>hQ h' s.toks fun b o hb q=>he' b o (fun h=>hb (by simp [h])) q
 self:=fun _ _ _ _ st hQ=>wpAny_pyIter_keyiter st.1 hQ
theorem ZJ (lo:(d == DU)=As):KdlSrc prog w "dict" d d es.size (fun i v=>∃e,es[i]?=Aa e/\v=e.key) (fun h=>DF h d es ep) where
 type:=fun _ hm=>hm.typeIs
 there:=fun _ hm=>⟨hm.lt,hm.lt⟩
 keep:=fun _ _ hm hk=>hm.at fun o e=>hk d (.inl rfl) o e
 notList:=by decide
 notTuple:=by decide
 hint:=fun _ _ _ _ hm hq=>kdl_hint_dict hm.typeIs hq
 iter:=fun _ s hh hm=>⟨_,_,(fun _ _ hq=>ZG lo hm hq),ZK hh _ (Bx hm.lt),⟨⟨_,BE _ rfl,rfl,rfl⟩,hm.at fun o e=>Bk _ e⟩⟩
theorem ZH {acc:A7 Ah} (h:ItemsOf (fun i v=>∃e,es[i]?=Aa e/\v=e.key) acc es.size):acc=es.map (·.key):=by
 obtain ⟨h1,h2⟩:=h
 apply Oa
 ·simpa using h1
 ·intro i hi hj
  obtain ⟨e,he,hk⟩:=h2 i acc[i] (by simp [hi])
  have hi':i < es.size:=by omega
  rw [Kn hi'] at he
  rw [hk,Array.getElem_map,Bp he]
theorem ZE {R:Ab Ah->Ai->Prop} (lo:(d == DU)=As) (hm:DF s.heap d es ep) (hh:A.handled=Ag) (hn:es.size<=A5)
 (h:∀(h':AC) (tk:Ae),(∀b o,s.heap.get? b=Aa o->h'.get? b=Aa o)->s.heap.objs.size < h'.objs.size->R (es.toList.map (·.key)) { s with heap:=h',toks:=tk }) :
 Ar (A1 prog w) A (collect (.ref d)) R E s:=by
 have hlt:=hm.lt
 unfold collect
 refine Al (Pz (FX entry_proto_collect' ?_))
 rw [G' Vw _]
 show Ar _ A.in1 (newList [] >>= fun l=>again (.builtin "list.__iadd__" ⟨[l,.ref d],[]⟩)) _ _ s
 refine Al (Ez ?_)
 refine A0 ⟨Hu Mv _,FX entry_list_iadd' ?_⟩
 rw [G' Mv _]
 have hS₁:(s.heap.push { cls:=.type "list",data:=.seq ([]:Ab Ah).toArray }).get? s.heap.objs.size=Aa { cls:=.type "list",data:=.seq #[] }:=BE _ rfl
 show Ar _ A.in1 (Ha (.ref s.heap.objs.size) (.ref d) (.ref s.heap.objs.size)) _ _ _
 have key:=kdl_extend (A:=A) (s:={ s with heap:=s.heap.push { cls:=.type "list",data:=.seq ([]:Ab Ah).toArray } })
  (R:=fun (q:Jv) (s':Ai)=>∃(h':AC) (tk c':Ae),q=.ok (.ret (.ref s.heap.objs.size))/\s'={ s with heap:=h',toks:=tk } /\
   (∀b o,s.heap.get? b=Aa o->h'.get? b=Aa o)/\h'.get? s.heap.objs.size=Aa { cls:=.type "list",dict:=Ag,data:=.seq (es.map (·.key)) c',slots:=#[] })
  (ZJ (prog:=prog) (w:=w) (es:=es) (ep:=ep) lo) hh (hm.at fun o e=>Bk _ e) s.heap.objs.size (DC hlt) (DC hlt) (.ref s.heap.objs.size) 0 hS₁
  (fun h' tk acc' c' hk hS' hacc=>⟨h',tk,c',rfl,rfl,fun b o e=>hk b o (Bx (A' e)) (Bk _ e),by rw [<- ZH hacc];exact hS'⟩) hn
 refine DE key (fun fin s' x=>?_) fun e s' x=>?_
 ·cases fin with
  | done f =>
    obtain ⟨h',tk,c',e,rfl,hk,hS'⟩:=x
    cases e
    show Ar _ A (load s.heap.objs.size >>= _) _ _ _
    refine Al (KO hS' ?_)
    have:=h h' tk hk (A' hS')
    rw [<- Up] at this
    exact A0 this
  | again c₁ =>
    refine ⟨x.1,Eg x.2 fun q s₂ y=>?_⟩
    obtain ⟨h',tk,c',rfl,rfl,hk,hS'⟩:=y
    show Ar _ A (load s.heap.objs.size >>= _) _ _ _
    refine Al (KO hS' ?_)
    have:=h h' tk hk (A' hS')
    rw [<- Up] at this
    exact A0 this
 ·obtain ⟨_,_,_,e',_⟩:=x
  cases e'
theorem Aaw {vs:Ab Ah} (lo:(d == DU)=As) (hm:DF s.heap d es ep) (hz:es.size<=1000) (hh:A.handled=Ag) (hv:es.toList.map (·.key)=vs) {R:Ah->Ai->Prop}
 (h:∀(h':AC) (tk:Ae) (a:Ad),(∀b o,s.heap.get? b=Aa o->h'.get? b=Aa o/\b≠a)->s.heap.objs.size<=a->h'.get? a=Aa (seqObj "list" vs.toArray 0) ->
  Ar (A1 prog w) A.in1.in1 (C9.«list.sort» ⟨[.ref a],[]⟩) (fun fin s'=>∃v,fin=.done (.ret v)/\R (.ref a) s') E { s with heap:=h',toks:=tk }) :
 Ar (A1 prog w) A (call (.builtin "sorted") [.ref d]) R E s:=by
 refine Uy kind_sorted plain_sorted entry_sorted (args_sorted1 _) ?_
 unfold C9.«sorted»
 refine Al (m:=checkCount "sorted" 1 1 _) (A0 ?_)
 refine Al (ZE (A:=A.in1) lo hm hh (by rw [Fi];omega) fun h' tk hk ge=>?_)
 rw [hv]
 have hl:vs.length<=1000:=by rw [<- hv,Aw,DA];exact hz
 refine Al (Pw ?_ (by rw [Fi];omega))
 have ho:(h'.push (seqObj "list" vs.toArray 0)).get? h'.objs.size=Aa (seqObj "list" vs.toArray 0):=BE _ rfl
 refine Al (Du (Ey slot_list_sort ⟨_,ho,rfl⟩ entry_list_sort ?_ (args_list_sort _)))
 refine DE (h _ tk h'.objs.size (fun b o e=>⟨Bk _ (hk b o e),Bx (A' (hk b o e))⟩) (EG ge) ho) (fun fin s' x=>?_) fun _ _ x=>x
 obtain ⟨v,rfl,q⟩:=x
 exact ⟨_,rfl,A0 ⟨_,rfl,q⟩⟩
end
section
variable {X:Cx}
theorem XO {H:Hp}:∀{kvs:Ab (Ab Key × V)} {xs:Ab (Ab Key × Ad × Ah)} {ks:Ab (Ab Ac)},KT H kvs xs->kvs.map (·.1)=ks.map (Jk BC) ->
 ∃qs:Ab (Ad × Ab Ac),xs.map (fun x=>A_ x.2.1)=(qs.map (·.1)).map A_/\qs.map (·.2)=ks/\∀q∈qs,H q.1=Aa (.tup (q.2.map V.int)):=by
 intro kvs xs ks r
 induction r generalizing ks with
 | nil =>
   intro e
   cases ks with
   | nil=>exact ⟨[],rfl,rfl,fun _ m=>A8 m Cw⟩
   | cons _ _=>cases e
 | @cons p q ps qr hq t ih =>
   intro e
   cases ks with
   | nil=>cases e
   | cons k ks =>
     injection e with e1 e2
     obtain ⟨qs,a1,a2,a3⟩:=ih e2
     refine ⟨(q.2.1,k) :: qs,?_,?_,fun x m=>?_⟩
     ·rw [BL,a1]
      rfl
     ·rw [BL,a2]
     ·rcases List.mem_cons.mp m with m | m
      ·subst m
       have h:=hq.2.1
       have e1':p.1=k.map BC:=e1
       rw [e1',Fd] at h
       exact h
      ·exact a3 x m
theorem P_ (hc:X.calm=Af) (hu:X.A.units+64 < cLine):Dk X (.builtin "sorted") (fun xs H Q=>∃(d:Ad) (kvs:Ab (Ab Key × V)) (ks:Ab (Ab Ac)),xs=[.ref d]/\Rd H d (.dT kvs)/\kvs.map (·.1)=ks.map (Jk BC)/\ks.length < 64 /\
 ∀(l:Ad) (rs:Ab (Ad × Ab Ac)),(∀q∈rs,H q.1=Aa (.tup (q.2.map V.int)))->(rs.map (·.2)).Perm ks->rs.Pairwise (fun x y=>HT.lexLt y.2 x.2=As)->H l=Ag->Q (.ref l) (upd H l (.lst (rs.map fun q=>V.ref q.1)))):=by
 intro pins s σ H xs us Q I r h
 obtain ⟨d,kvs,ks,rfl,hd,hks,h64,q⟩:=h
 obtain ⟨u,rfl,rx⟩:=EY r
 cases rx
 obtain ⟨_,lo,xs,kt,o,es,ep,h1,h2,h3,h4,_,_⟩:=HH I.hok hd
 obtain ⟨qs,b1,b2,b3⟩:=XO kt hks
 have hv:es.toList.map (·.key)=(qs.map (·.1)).map A_:=by
  rw [h4,Fd,<- b1]
  rfl
 have hql:qs.length=ks.length:=by rw [<- b2,Aw]
 have hes:es.size=qs.length:=by
  have:=BR EE hv
  simpa using this
 have hp:Ed (Ej s.heap) ((qs.map (·.1)).map A_) (qs.map (·.2)):=by
  clear hv hql hes b1 b2
  induction qs with
  | nil=>exact .nil
  | cons q0 qr ih =>
    refine .cons ?_ (ih fun q m=>b3 q (Bv _ m))
    obtain ⟨jts,rj,tj,_⟩:=I.tuple (SqT.of (b3 q0 (Bw ..)))
    exact ⟨q0.1,jts.toArray,rfl,tj,by simpa using Ft rj⟩
 refine Aaw lo ⟨o,h1,h2,h3⟩ (by omega) (I.ok.hd hc) hv fun h' tk a kp ge ho=>?_
 have hp':Ed (Ej h') ((qs.map (·.1)).map A_) (qs.map (·.2)):=Paired.mapP hp fun v ns x=>x.keep fun b o _ e=>(kp b o e).1
 have ll:((qs.map (·.1)).map A_).length=qs.length:=by rw [Aw,Aw]
 refine ZU (s:={ s with heap:=h',toks:=tk }) ho hp' (by omega) (by show X.A.units+1+1 < cLine;omega) fun p a1 a2=>⟨_,rfl,?_⟩
 obtain ⟨e,he⟩:=sortedHeap_at (out:=Mp (p.toList.map fun i=>((qs.map (·.1)).map A_).getD i B6)) ho
 have hfr:H a=Ag:=I.hok.fresh ge
 have hps:=a1.size
 have lt:∀i∈p.toList,i < qs.length:=fun i m=>by
  have:=List.mem_range.mp (a1.mem_iff.mp m)
  omega
 let rs:=p.toList.map fun i=>qs.getD i (0,[])
 have eo:(p.toList.map fun i=>((qs.map (·.1)).map A_).getD i B6)=(rs.map (·.1)).map A_:=by
  show _=((p.toList.map fun i=>qs.getD i (0,[])).map (·.1)).map A_
  simp only [Fd]
  refine Md fun i m=>?_
  have hi:=lt i m
  simp [hi]
 rw [eo] at he ⊢
 have pm:rs.Perm qs:=by
  have e1:(Bz ((qs.map (·.1)).map A_).length).map (fun i=>qs.getD i ((0:Ad),([]:Ab Ac)))=qs:=by
   rw [ll]
   apply G0
   ·simp
   ·intro i h1 h2
    simp [h2]
  have:=List.Perm.map (fun i=>qs.getD i ((0:Ad),([]:Ab Ac))) a1
  rw [e1] at this
  exact this
 refine ⟨.ref _,_,I.laid (t':=tk) (fun b o hb=>?_) ge (show BD X.prog X.w _ _ _ (.lst (rs.map fun q=>V.ref q.1)) from ⟨?_,(rs.map (·.1)).map A_,e,?_,he⟩),rfl,q _ rs (fun q m=>b3 q (pm.mem_iff.mp m)) (by rw [<- b2];exact pm.map _) ?_ hfr⟩
 ·obtain ⟨k1,k2⟩:=kp b o hb
  rw [sortedHeap_old k2 (A' k1)]
  exact k1
 ·rw [Aw,pm.length_eq,Fi]
  omega
 ·have:=Uf (rs.map (·.1))
  rw [Fd] at this
  exact this
 ·rw [List.pairwise_iff_getElem]
  intro i j hi hj hij
  have hi':i < p.size:=by simpa [rs] using hi
  have hj':j < p.size:=by simpa [rs] using hj
  have g:=a2 i j (by omega) (by omega)
  have gi:(qs.map (·.2)).getD (p.getD i 0) []=(rs[i]).2:=by
   have l1:=lt p[i] (by simp)
   simp [rs,FH,hi',l1]
  have gj:(qs.map (·.2)).getD (p.getD j 0) []=(rs[j]).2:=by
   have l1:=lt p[j] (by simp)
   simp [rs,FH,hj',l1]
  have g2:HT.lexLt ((qs.map (·.2)).getD (p.getD j 0) []) ((qs.map (·.2)).getD (p.getD i 0) [])=As:=g
  rw [gi,gj] at g2
  exact g2
theorem W9 (hc:X.calm=Af):Dk X (.builtin "max") (fun xs H Q=>∃(a:Ad) (ns:Ab Ac),xs=[.ref a]/\SqL X.K H a (ns.map V.int)/\0 < ns.length/\∀M,M∈ns->(∀z∈ns,z<=M)->Q (.int M) H):=by
 intro pins s σ H xs us Q I r h
 obtain ⟨a,ns,rfl,hq,hne,q⟩:=h
 obtain ⟨u,rfl,rx⟩:=EY r
 cases rx
 obtain ⟨its,rv,pl,hz⟩:=I.list hq
 have hi:=Ft rv
 obtain ⟨xs,e⟩:=hi.allInts.items
 have hns:ns=xs.toList.map (·.1):=by
  rw [<- hi.numsOf,<- nums_intItems,<- e]
 have hsz:0 < xs.size:=by
  have h3:=hne;rw [hns,Aw,DA] at h3;exact h3
 have hl:=pl.isList
 rw [e] at hl
 refine max_intList (I.ok.hd hc) hl hsz fun v h' tk hv hk=>?_
 obtain ⟨t,rfl⟩:=intItems_at hv
 obtain ⟨_,h2⟩:=argBest_gt (numAt xs) (xs.size - 1)
 refine ⟨.int _,H,I.kept hk,⟨t,rfl⟩,q _ ?_ fun z m=>?_⟩
 ·rw [hns,numAt_eq];exact getD_mem (by rw [Aw,DA];omega)
 ·rw [hns] at m
  obtain ⟨j,hj,rfl⟩:=mem_getD m
  rw [Aw,DA] at hj
  rw [<- numAt_eq];exact h2 j (by omega)
end
end L2
namespace L2
open PySem
noncomputable def Ris (xs:A7 Ae):Prop:=∀i j,i < j->j < xs.size->xs.getD i 0 < xs.getD j 0
theorem Q0 {xs:A7 Ae} {i:Ae} (h:i < xs.size) (a b:Ae):xs.getD i a=xs.getD i b:=by
 simp [FH,h]
theorem MQ {xs:A7 Ae} (hr:Ris xs) (j:Ae):∀(f lo hi:Ae),lo<=hi->hi<=xs.size->hi - lo<=f->(∀i,i < lo->xs.getD i 0 < j)->(∀i,hi<=i->i < xs.size->j<=xs.getD i 0) ->
 M4 xs j f lo hi<=xs.size/\(∀i,i < M4 xs j f lo hi->xs.getD i 0 < j)/\∀i,M4 xs j f lo hi<=i->i < xs.size->j<=xs.getD i 0
 | 0,lo,hi,h1,h2,h3,h4,h5=>by
   have:lo=hi:=by omega
   subst this
   exact ⟨h2,h4,h5⟩
 | f+1,lo,hi,h1,h2,h3,h4,h5=>by
   unfold M4
   by_cases c:lo < hi
   ·rw [At c]
    dsimp only
    have hm:(lo+hi) / 2 < xs.size:=by omega
    by_cases c2:xs.getD ((lo+hi) / 2) j < j
    ·rw [At c2]
     refine MQ hr j f _ hi (by omega) h2 (by omega) (fun i hi'=>?_) h5
     rw [Q0 hm j 0] at c2
     by_cases e:i=(lo+hi) / 2
     ·rw [e];exact c2
     ·exact OE (hr i ((lo+hi) / 2) (by omega) hm) c2
    ·rw [Ao c2]
     refine MQ hr j f lo _ (by omega) (by omega) (by omega) h4 (fun i a b=>?_)
     rw [Q0 hm j 0] at c2
     by_cases e:i=(lo+hi) / 2
     ·rw [e];omega
     ·have:=hr ((lo+hi) / 2) i (by omega) b
      omega
   ·rw [Ao c]
    have:lo=hi:=by omega
    subst this
    exact ⟨h2,h4,h5⟩
theorem MR {xs:A7 Ae} (hr:Ris xs) (j:Ae):Cy xs j<=xs.size/\(∀i,i < Cy xs j->xs.getD i 0 < j)/\∀i,Cy xs j<=i->i < xs.size->j<=xs.getD i 0 :=
 MQ hr j xs.size 0 xs.size (BQ _) (AB _) (by omega) (fun i h=>A8 h (K7 _)) (fun i a b=>A8 a (by omega))
theorem PL {xs:A7 Ae} (hr:Ris xs):Cy xs 0=0:=by
 obtain ⟨_,h,_⟩:=MR hr 0
 cases e:Cy xs 0 with
 | zero=>rfl
 | succ n=>exact A8 (h n (by omega)) (K7 _)
theorem PK {xs:A7 Ae} (hr:Ris xs) {i:Ae} (hi:i < xs.size):Cy xs (xs.getD i 0+1)=i+1:=by
 obtain ⟨h0,h1,h2⟩:=MR hr (xs.getD i 0+1)
 have a:¬ Cy xs (xs.getD i 0+1)<=i:=fun c=>by
  have:=h2 i c hi
  omega
 have b:¬ i+1 < Cy xs (xs.getD i 0+1):=fun c=>by
  have p:=h1 (i+1) c
  have q:=hr i (i+1) (by omega) (by omega)
  omega
 omega
theorem X6 {α:Type} {xs:A7 α} {p:Ae} (hp:p<=xs.size) (x:α):(KI xs p x).size=xs.size+1:=by
 unfold KI
 simp
 omega
theorem Q8 {xs:A7 Ae} {p:Ae} (hp:p<=xs.size) (x i:Ae):(KI xs p x).getD i 0=if i < p then xs.getD i 0 else if i=p then x else xs.getD (i - 1) 0:=by
 unfold KI
 rw [Ja,Array.getElem?_append]
 by_cases c:i < p
 ·rw [At c,At (by simp;omega),Um]
  rw [Ao (by simp;omega),Ul]
  rw [At (by omega),Ja]
  simp
 ·rw [Ao c]
  by_cases c2:i=p
  ·subst c2
   rw [At rfl,At (by simp;omega),Um,At (by simp;omega)]
   rfl
  ·rw [Ao c2,Ao (by simp;omega),Ul,Ja]
   have e:((xs.extract 0 p).push x).size=p+1:=by simp;omega
   rw [e]
   by_cases c3:i - (p+1) < min xs.size xs.size - p
   ·rw [At c3]
    congr 2
    omega
   ·rw [Ao c3,LH (by omega)]
theorem Ris.put {xs:A7 Ae} (hr:Ris xs) {j:Ae} (hj:xs[Cy xs j]?≠Aa j):Ris (KI xs (Cy xs j) j):=by
 obtain ⟨h0,h1,h2⟩:=MR hr j
 intro a b hab hb
 rw [X6 h0] at hb
 rw [Q8 h0,Q8 h0]
 generalize hp:Cy xs j=p at *
 have gt:∀i,p<=i->i < xs.size->j < xs.getD i 0:=fun i a b=>by
  have l:=h2 i a b
  by_cases e:i=p
  ·subst e
   have:xs.getD i 0≠j:=fun z=>hj (by simp [FH,b] at z;simp [b,z])
   omega
  ·have:=h2 p (AB _) (by omega)
   have:=hr p i (by omega) b
   omega
 by_cases ca:a < p
 ·rw [At ca]
  by_cases cb:b < p
  ·rw [At cb]
   exact hr a b hab (by omega)
  ·rw [Ao cb]
   by_cases cb2:b=p
   ·rw [At cb2]
    exact h1 a ca
   ·rw [Ao cb2]
    exact hr a (b - 1) (by omega) (by omega)
 ·rw [Ao ca]
  by_cases ca2:a=p
  ·rw [At ca2,Ao (show ¬ b < p by omega),Ao (show ¬ b=p by omega)]
   exact gt (b - 1) (by omega) (by omega)
  ·rw [Ao ca2,Ao (show ¬ b < p by omega),Ao (show ¬ b=p by omega)]
   exact hr (a - 1) (b - 1) (by omega) (by omega)
theorem ZP (n:Ae):Ris (Array.range n):=fun i j hij hj=>by
 have hj':j < n:=by simpa using hj
 have hi':i < n:=by omega
 simp [FH,hj',hi']
 exact hij
theorem ZO {l:Ab Ae} (h:l.Pairwise (· < ·)):Ris l.toArray:=fun i j hij hj=>by
 have hj':j < l.length:=by simpa using hj
 have hi':i < l.length:=by omega
 have:=List.pairwise_iff_getElem.mp h i j hi' hj' hij
 simpa [FH,hj',hi'] using this
theorem XW {owner:A7 (Ay Ae)} (n:Ae):(((Bz n).filterMap fun j=>(owner.getD j Ag).map (j,·)).map (·.1)).Pairwise (· < ·):=by
 rw [Mo,List.pairwise_filterMap]
 refine List.Pairwise.imp ?_ Vb
 intro a b hab x hx y hy
 cases e1:owner.getD a Ag with
 | none=>rw [e1] at hx;cases hx
 | some u =>
   cases e2:owner.getD b Ag with
   | none=>rw [e2] at hy;cases hy
   | some v =>
     rw [e1] at hx
     rw [e2] at hy
     cases hx
     cases hy
     exact hab
theorem XQ {mask finger moves:Ae} {led plain:AR} {hashes:A7 Ac} {t:CD} {order:A7 Ae} (h:OY mask finger moves led plain hashes=Aa (t,order)):Ris t.place/\t.led=led:=by
 unfold OY at h
 cases e:SetTable.layClean mask hashes with
 | none=>rw [e] at h;cases h
 | some owner =>
   rw [e] at h
   cases h
   exact ⟨ZO (XW _),rfl⟩
theorem NH {t:CD} {f:Ae->Ac} {hv:Ac}:∀(n:Ae) (p:SetTable.Probe) {j:Ae} {du:Ay Ae},(∀d,p.dummy=Aa d->t.place[Cy t.place d]?≠Aa d) ->
 OZ t f hv n p=Aa (.empty j du)->(∀d,du=Aa d->t.place[Cy t.place d]?≠Aa d)/\t.place[Cy t.place j]?≠Aa j
 | 0,p,j,du,hd,e=>by cases e
 | n+1,p,j,du,hd,e=>by
   unfold OZ at e
   by_cases c:t.place[Cy t.place p.j]?=Aa p.j
   ·have es:t.slot p.j=.live (Cy t.place p.j):=by
     unfold O_
     simp [c]
    rw [es] at e
    dsimp only at e
    by_cases c2:(f (Cy t.place p.j) == hv)=Af
    ·rw [At c2] at e;cases e
    ·rw [Ao c2] at e
     refine NH n _ ?_ e
     unfold VE
     by_cases c3:p.more > 0
     ·rw [At c3];exact hd
     ·rw [Ao c3];exact hd
   ·by_cases c4:SetTable.has t.dummies p.j=Af
    ·have es:t.slot p.j=.dummy:=by
      unfold O_
      simp [c,c4]
     rw [es] at e
     dsimp only at e
     refine NH n _ ?_ e
     have k:∀d,Aa p.j=Aa d->t.place[Cy t.place d]?≠Aa d:=fun d z=>by
      cases z
      exact c
     unfold VE
     by_cases c3:p.more > 0
     ·rw [At c3];exact k
     ·rw [Ao c3];exact k
    ·have es:t.slot p.j=.empty:=by
      unfold O_
      simp [c,c4]
     rw [es] at e
     cases e
     exact ⟨hd,c⟩
theorem Xa {t:CD} {hv:Ac} {slot:Ae} {b:AR} (h:t.freeSlot hv=Aa (slot,b)):t.place[Cy t.place slot]?≠Aa slot:=by
 unfold SetTable.freeSlot SetTable.probe at h
 cases e:OZ t (fun _=>hv+1) hv (10*SetTable.turns t.mask) (t.probeStart hv) with
 | none=>rw [e] at h;cases h
 | some m =>
   rw [e] at h
   cases m with
   | candidate j i nx=>cases h
   | empty j du =>
     obtain ⟨a,b'⟩:=NH _ _ (fun d z=>by cases z) e
     cases du with
     | none =>
       cases h
       exact b'
     | some d =>
       cases h
       exact a d rfl
noncomputable def C4 (t:CD):Prop:=Ris t.place/\t.led=Af
theorem C4.standIn {t:CD} (h:C4 t) (n:Ae):C4 (t.standIn n):=⟨ZP n,h.2⟩
theorem C4.orStandIn {t:CD} (h:C4 t) (n:Ae):C4 (t.orStandIn n):=by
 unfold SetTable.orStandIn
 split
 ·exact h
 ·exact h.standIn n
theorem C4.lay {t:CD} (h:C4 t) (es:A7 (Ac × Ah)) (hv:Ac) (x:Ah):C4 (layNew t es hv x).2.1:=by
 unfold layNew
 cases e:t.freeSlot hv with
 | none=>exact h.standIn _
 | some q =>
   obtain ⟨slot,b⟩:=q
   have w:C4 (t.put slot).1:=⟨h.1.put (Xa e),h.2⟩
   exact w.orStandIn _
theorem C4.relay {t:CD} (h:C4 t) (es:A7 (Ac × Ah)) (n:Ae):C4 (relayAll t es n).2.1:=by
 unfold relayAll SetTable.relaid
 cases e:OY (VH n - 1) t.finger (t.movedTo (VH n - 1)) t.led t.plain (es.map (·.1)) with
 | none=>exact h.standIn _
 | some q =>
   obtain ⟨t',order⟩:=q
   obtain ⟨a,b⟩:=XQ e
   dsimp only
   split
   ·exact ⟨a,b.trans h.2⟩
   ·exact h.standIn _
end L2
namespace L2
open PySem PySem.W PySem.Spec PyProof.Rows
def Dw (w:AA):AR:=w.params.followText "set-order"
noncomputable def DG (prog:AN) (w:AA) (h:AC) (a:Ad) (l:Ab Ac):Prop :=
 ∃o es ep t ms,h.get? a=Aa o/\o.ExactSet/\o.data=.set es ep t/\ElemsOf (intKind prog w) es.toList/\Cf (es.toList.map (·.2)) ms/\ms.Perm l/\es.size < scanBound/\t.fits es.size=Af/\(Dw w=Af\/C4 t)
theorem Nm {vs vs':Ab Ah} (p:vs'.Perm vs):∀{ns:Ab Ac},Cf vs ns->∃ns',Cf vs' ns'/\ns'.Perm ns:=by
 induction p with
 | nil=>intro ns h;cases h;exact ⟨[],.nil,.refl _⟩
 | cons x _ ih =>
   intro ns h
   cases h with
   | cons n t h =>
     obtain ⟨ns',a,b⟩:=ih h
     exact ⟨n :: ns',.cons n t a,b.cons n⟩
 | swap x y l =>
   intro ns h
   cases h with
   | cons n t h =>
     cases h with
     | cons m u h=>exact ⟨m :: n :: _,.cons m u (.cons n t h),.swap _ _ _⟩
 | trans _ _ ih1 ih2 =>
   intro ns h
   obtain ⟨n1,a1,b1⟩:=ih2 h
   obtain ⟨n2,a2,b2⟩:=ih1 a1
   exact ⟨n2,a2,b2.trans b1⟩
theorem Q9:∀{vs us:Ab Ah} {ns ms:Ab Ac},Cf vs ns->Cf us ms->Cf (vs++us) (ns++ms)
 | _,_,_,_,.nil,h=>h
 | _,_,_,_,.cons n t a,h=>.cons n t (Q9 a h)
theorem Lg:∀{vs:Ab Ah} {ns:Ab Ac},Cf vs ns->∀{n:Ac},n∈ns↔∃t,Di n t∈vs
 | _,_,.nil,n=>⟨(fun h=>by cases h),(fun hq_=>by obtain ⟨_,h⟩:=hq_;cases h)⟩
 | _,_,.cons m u a,n=>by
   constructor
   ·intro h
    rcases List.mem_cons.mp h with e | h
    ·subst e
     exact ⟨u,Bw ..⟩
    ·obtain ⟨t,ht⟩:=(Lg a).mp h
     exact ⟨t,Bv _ ht⟩
   ·rintro ⟨t,h⟩
    rcases List.mem_cons.mp h with e | h
    ·cases e
     exact Bw ..
    ·exact Bv _ ((Lg a).mpr ⟨t,h⟩)
section
variable {prog:AN} {w:AA} {A:AV} {E:Ah->Ai->Prop} {s:Ai}
theorem T1 {h:AC} {a:Ad} {o:A4} {es:A7 (Ac × Ah)} {ep:Ae} {t:CD} (ho:h.get? a=Aa o) (hd:o.data=.set es ep t) (es':A7 (Ac × Ah)) (t':CD) :
 (h.update a (OH es' t')).get? a=Aa { o with data:=.set es' (ep+1) t' }:=by
 have:=EC (OH es' t') ho (by rw [putSet_of es' t' hd];rfl)
 rw [putSet_of es' t' hd] at this
 exact this
theorem PC {g:AR->C2 CZ} (hg:∀(b:AR) (s₁:Ai) (Q':CZ->Ai->Prop),Q' () s₁->Ar (A1 prog w) A (g b) Q' E s₁)
 {a:Ad} {o:A4} {es:A7 (Ac × Ah)} {ep:Ae} {t:CD} (ho:s.heap.get? a=Aa o) (hex:o.ExactSet) (hd:o.data=.set es ep t)
 {es1:A7 (Ac × Ah)} {t2:CD} {ms l:Ab Ac} (hel1:ElemsOf (intKind prog w) es1.toList) (hi:Cf (es1.toList.map (·.2)) ms) (hp:ms.Perm l)
 (hb1:es1.size < scanBound) (hf2:t2.fits es1.size=Af) (hw:Dw w=Af\/C4 t2) {wasDummy:AR} {R:Ay AR->Ai->Prop}
 (h:∀h',Ep a s.heap h'->DG prog w h' a l->R (Aa Af) { s with heap:=h' }) :
 Ar (A1 prog w) A (do
  storeSet a es1 t2
  if (!wasDummy && t2.tooFull)=Af then do
      g (relayAll t2 es1 (Hr es1.size)).2.2
      storeSet a (relayAll t2 es1 (Hr es1.size)).1 (relayAll t2 es1 (Hr es1.size)).2.1
      pure (Aa Af)
   else pure (Aa Af)) R E s:=by
 refine Al (Wq ho hd ?_ (Pf hb1))
 have ho1:=T1 ho hd es1 t2
 have hsb1:=Hc s.heap a (OH es1 t2)
 split
 ·have pr:=relayAll_perm t2 es1 (Hr es1.size)
  have fr:=relayAll_fits t2 es1 (Hr es1.size)
  have wr:Dw w=Af\/C4 (relayAll t2 es1 (Hr es1.size)).2.1:=hw.imp id fun x=>x.relay _ _
  generalize relayAll t2 es1 (Hr es1.size)=Rl at pr fr wr ⊢
  obtain ⟨es2,t3,gave2⟩:=Rl
  dsimp only at pr fr wr ⊢
  have hsz:es2.size=es1.size:=by rw [<- DA,pr.length_eq,DA]
  obtain ⟨ms2,i2,p2⟩:=Nm (pr.map (·.2)) hi
  refine Al (hg _ _ _ ?_)
  refine Al (Wq ho1 rfl ?_ (Pf (by rw [hsz];exact hb1)))
  exact A0 (h _ (hsb1.trans (Hc _ a _)) ⟨_,es2,_,t3,ms2,T1 ho1 rfl es2 t3,hex,rfl,hel1.perm pr,i2,p2.trans hp,by rw [hsz];exact hb1,fr,wr⟩)
 ·exact A0 (h _ hsb1 ⟨_,es1,_,t2,ms,ho1,hex,rfl,hel1,hi,hp,hb1,hf2,hw⟩)
theorem add_int {a:Ad} {l:Ab Ac} {k:Ac} {tk:BX} {Q:AR->Ai->Prop} (hS:DG prog w s.heap a l) (hroom:l.length+1 < scanBound)
 (h:∀h' b,Ep a s.heap h'->DG prog w h' a (Hv l k)->Q b { s with heap:=h' }) :
 Ar (A1 prog w) A (setAddHashed a (.int k tk) ((intKind prog w).hash k)) Q E s:=by
 obtain ⟨o,es,ep,t,ms,ho,hex,hd,hel,hi,hp,hb,hf,hw⟩:=hS
 have hkey:(intKind prog w).is k (.int k tk)=Af:=Pg _ _ _ _
 have hsc:(Di k tk).scannable=Af:=rfl
 have hlen:es.size=l.length:=by
  have:=hi.length
  rw [Aw,DA] at this
  rw [this,hp.length_eq]
 unfold setAddHashed setAddHashedIn
 refine Du (Al (Wo ho hd hf ?_))
 dsimp only
 rw [byScan_of hsc hb hel]
 simp only [↓reduceIte]
 unfold setAddByScan
 refine Al ?_
 refine Al (Hy ?_)
 refine Al (wpAny_setScan_of hkey ho hd hf hel ?_)
 cases hr:List.findIdx? (fun e=>(intKind prog w).is k e.2) es.toList with
 | some j =>
   dsimp only
   obtain ⟨hj,hpj,_⟩:=List.findIdx?_eq_some_iff_getElem.mp hr
   have mem:k∈l:=by
    refine hp.mem_iff.mp ((Lg hi).mpr ?_)
    obtain ⟨t',e⟩:=VL (show Pc k es.toList[j].2=Af from hpj)
    exact ⟨t',List.mem_map.mpr ⟨_,G1 hj,e⟩⟩
   have es':Hv l k=l:=by
    unfold Hv
    rw [At (List.any_eq_true.mpr ⟨k,mem,by simp⟩)]
   refine A0 (A0 ?_)
   exact h s.heap _ (Heap.SameBut.refl a s.heap) ⟨o,es,ep,t,ms,ho,hex,hd,hel,hi,by rw [es'];exact hp,hb,hf,hw⟩
 | none =>
   dsimp only
   have nmem:¬ k∈l:=fun m=>by
    obtain ⟨t',ht⟩:=(Lg hi).mp (hp.mem_iff.mpr m)
    obtain ⟨e,he,hv⟩:=List.mem_map.mp ht
    have:=List.findIdx?_eq_none_iff.mp hr e he
    rw [hv,Pg] at this
    exact Bool.noConfusion this
   have es':Hv l k=l++[k]:=by
    unfold Hv
    rw [Ao (by
     intro z
     obtain ⟨y,hy,ey⟩:=List.any_eq_true.mp z
     have:y=k:=by simpa using ey
     exact nmem (this ▸ hy))]
   have hgw:∀(b:AR) {s₁:Ai} {Q':CZ->Ai->Prop},Q' () s₁->Ar (A1 prog w) A (match b with | true=>rule "set.scan.the-table-gave-way" | false=>pure ()) Q' E s₁ :=
    fun b s₁ Q' hq=>by cases b <;> first | exact A0 hq | exact Hy hq
   have pr:=layNew_perm t es ((intKind prog w).hash k) (.int k tk)
   have fr:=layNew_fits t es ((intKind prog w).hash k) (.int k tk)
   have wr:Dw w=Af\/C4 (layNew t es ((intKind prog w).hash k) (.int k tk)).2.1:=hw.imp id fun x=>x.lay _ _ _
   generalize layNew t es ((intKind prog w).hash k) (.int k tk)=L at pr fr wr ⊢
   obtain ⟨es1,t1,wasDummy,gave⟩:=L
   dsimp only at pr fr wr ⊢
   rw [Uq] at pr
   have hel1:ElemsOf (intKind prog w) es1.toList:=(hel.push hkey hsc).perm pr
   have hi0:Cf ((es.toList++[((intKind prog w).hash k,Di k tk)]).map (·.2)) (ms++[k]):=by
    rw [Bc]
    exact Q9 hi (.cons k tk .nil)
   obtain ⟨ms1,i1,p1⟩:=Nm (pr.map (·.2)) hi0
   have hp1:ms1.Perm (Hv l k):=by rw [es'];exact p1.trans (hp.append_right [k])
   have hb1:es1.size < scanBound:=by rw [<- DA,pr.length_eq,B9,DA,hlen];simpa using hroom
   refine Al (hgw _ ?_)
   split
   ·refine Al ?_
    rw [hashByValue_scannable 8 hsc]
    refine A0 ?_
    refine PC ?_ ho hex hd hel1 i1 hp1 hb1 ?_ ?_ ?_
    ·intro b s₁ Q' hq;cases b <;> first | exact A0 hq | exact Hy hq
    ·split
     ·exact fr
     ·exact SetTable.fits_plain_off fr
    ·split
     ·exact wr
     ·exact wr
    ·intro h' hsb hS';dsimp only;exact A0 (h h' _ hsb hS')
   ·refine Al (A0 ?_)
    simp only [↓reduceIte]
    refine PC ?_ ho hex hd hel1 i1 hp1 hb1 fr wr ?_
    ·intro b s₁ Q' hq;cases b <;> first | exact A0 hq | exact Hy hq
    ·intro h' hsb hS';dsimp only;exact A0 (h h' _ hsb hS')
theorem DG.at {h h':AC} {a:Ad} {l:Ab Ac} (x:DG prog w h a l) (e:∀o,h.get? a=Aa o->h'.get? a=Aa o):DG prog w h' a l:=by
 obtain ⟨o,es,ep,t,ms,ho,r⟩:=x
 exact ⟨o,es,ep,t,ms,e o ho,r⟩
end
section
variable {prog:AN} {w:AA} {A:AV} {R:Jv->Ai->Prop} {I:Ad} {fp wr:Ab Ad} {G:A7 Ks->A7 Ks->Prop} {n:Ae} {P:Ae->Ah->Prop} {St:Ae->Ai->Prop}
theorem Aaf (W:WalksS prog w A.in1 I fp wr G n P St) (S:Ad) (hSf:S ∉ fp) (val:Ae->Ac) (hval:∀i v,P i v->∃t,v=.int (val i) t) (hb:n+1 < scanBound) :
 ∀(k i:Ae) (s:Ai),n - i=k->i<=n->St i s->DG prog w s.heap S (firstMet val i)->(∀s',Moved (S :: wr) G s s'->DG prog w s'.heap S (firstMet val n)->R (.ok (.ret .none)) s') ->
  codeAny (A1 prog w) A (.builtin "set.update.loop" ⟨[.ref S,.ref I],[]⟩) R s:=by
 have hSw:S ∉ wr:=fun h=>hSf (W.sub _ h)
 have hsub:∀b∈wr,b∈S :: wr:=fun b hb=>Bv _ hb
 intro k
 induction k with
 | zero =>
   intro i s hk hi hst hS hR
   have hin:i=n:=by omega
   subst hin
   refine FX U8 ?_
   rw [G' Oh _]
   show Ar _ A.in1 (pyNext (.ref I) >>= _) _ _ s
   refine Al (W.done s _ _ hst fun s' hm=>?_)
   show Ar _ A.in1 (ret B6) _ _ s'
   exact A0 (hR s' (hm.mono hsub) (hS.at fun o e=>hm.heap S o hSw e))
 | succ k ih =>
   intro i s hk hi hst hS hR
   have hlt:i < n:=by omega
   refine FX U8 ?_
   rw [G' Oh _]
   show Ar _ A.in1 (pyNext (.ref I) >>= _) _ _ s
   refine Al (W.item i s _ _ hlt hst fun v s' hP hst' hm=>?_)
   obtain ⟨t,rfl⟩:=hval i v hP
   have hS':=hS.at fun o e=>hm.heap S o hSw e
   show Ar _ A.in1 (holding [Di (val i) t] (setAdd S (.int (val i) t)) >>= _) _ _ s'
   refine Al (Du ?_)
   unfold setAdd
   refine Du ?_
   refine Al ((intKind prog w).pyHash (k:=val i) (Pg _ _ _ _) ?_)
   have hroom:(firstMet val i).length+1 < scanBound:=by have:=firstMet_length_le val i;omega
   refine add_int (s:={ s' with toks:=s'.toks+1 }) hS' hroom fun h' b hsb hS2=>?_
   have hSi:DG prog w h' S (firstMet val (i+1)):=by rw [firstMet_succ];exact hS2
   refine A0 ⟨Hu Oh _,ih (i+1) _ (by omega) hlt (W.frame _ s' _ _ hst' (Ec _) fun b hb o e=>?_) hSi fun s'' hm'' hS''=>?_⟩
   ·rw [hsb.2 b (fun h:b=S=>hSf (by rw [<- h];exact hb))];exact e
   ·refine hR s'' (Moved.trans W.gtrans ((hm.mono hsub).then_heap (Ec _) fun b o hb e=>?_) hm'') hS''
    rw [hsb.2 b (fun h:b=S=>hb (by rw [h];exact Bw))];exact e
end
section
variable {prog:AN} {w:AA} {A:AV} {E:Ah->Ai->Prop} {s:Ai}
abbrev E6 (w:AA):A4:={ cls:=.type "set",dict:=Ag,data:=.set #[] 0 (.fresh 0 0 (!Dw w)) }
theorem Aai (a:Ah) {Q₁:Ah->Ai->Prop} (h:Q₁ (.ref s.heap.objs.size) { s with heap:=s.heap.push (E6 w) }) :
 codeAny (A1 prog w) A (.call (.builtin "set.__new__") ⟨[.type "set",a],[]⟩) (wants Q₁ E) s:=by
 refine Pe ?_
 show Ar _ A.in1 (do checkBuiltinCall "set.__new__" ⟨[.type "set",a],[]⟩;again (.builtin "set.__new__" ⟨[.type "set",a],[]⟩)) _ _ s
 refine Al (Eh (PySem.F.newCall_set_1 a) (A0 ⟨Hu Vx _,FX PySem.F.entry_set_new ?_⟩))
 rw [G' Vx _]
 unfold C9.«set.__new__» Builtin.Frozenset.newClass
 have hsub:=sub_set_self
 obtain ⟨hp,g,d,tk,os⟩:=s
 dsimp only
 wp_walk
 refine JB (A0 ?_)
 dsimp only
 simp only [newObj]
 refine Al (wpAny_alloc (A0 ?_))
 exact A0 h
theorem Xb {h:AC} {a:Ad} (ho:h.get? a=Aa (E6 w)):DG prog w h a [] :=
 ⟨_,#[],0,_,[],ho,⟨rfl,rfl,rfl⟩,rfl,fun e he=>by simp at he,.nil,.refl _,by decide,rfl,by
  cases e:Dw w with
  | true=>exact .inl rfl
  | false=>exact .inr ⟨fun i j _ hj=>A8 hj (by simp [SetTable.fresh]),by simp [SetTable.fresh]⟩⟩
set_option maxRecDepth 100000 in
set_option maxHeartbeats 3200000 in
theorem Aak {l:Ad} {items:A7 Ah} {ns:Ab Ac} {Q:Ah->Ai->Prop} (hh:A.handled=Ag) (hl:s.heap.IsList l items) (hi:Cf items.toList ns) (hb:items.size+1 < scanBound)
 (h:∀(h':AC) (tk:Ae),DG prog w h' s.heap.objs.size (firstMet (fun i=>ns.getD i 0) items.size)->(∀b o,b < s.heap.objs.size->s.heap.get? b=Aa o->h'.get? b=Aa o)->Q (.ref s.heap.objs.size) { s with heap:=h',toks:=tk }) :
 Ar (A1 prog w) A (call (.type "set") [.ref l]) Q E s:=by
 obtain ⟨c,tl,hmro⟩:=PySem.F.called_set.mro
 have hmade:=PySem.F.called_set.made
 have hsub:=PySem.F.called_set.sub
 refine KL (Pe ?_)
 show Ar _ _ (callAny (.type "set") _) _ _ _
 refine A0 ⟨U1 _ (by decide +kernel),FX PySem.F.entry_type_call ?_⟩
 rw [Uk (Wc "set" [.ref l] []) rfl]
 have h1:=PySem.F.called_set.notType
 have h2:=PySem.F.called_set.canCreate
 have hct:=PySem.F.typeCall_set_1 (.ref l)
 repeat (any_goals (first | assumption | wp_step))
 refine Eg (Aai (.ref l) (E:=E) (Q₁:=fun obj s₁=>obj=.ref s.heap.objs.size/\s₁={ s with heap:=s.heap.push (E6 w) }) ⟨rfl,rfl⟩) fun r s₁ hr=>?_
 cases r with
 | error e=>exact hr
 | ok fl =>
   cases fl with
   | ret obj =>
     obtain ⟨rfl,rfl⟩:=hr
     have hS:(s.heap.push (E6 w)).get? s.heap.objs.size=Aa (E6 w):=BE _ rfl
     have hT:Shared.TypeIs { s with heap:=s.heap.push (E6 w) } (.ref s.heap.objs.size) "set":=⟨_,hS,rfl⟩
     have hli:=PySem.F.called_set.init.lookup
     have hbi:=PySem.F.called_set.init.bind (.ref s.heap.objs.size)
     repeat (any_goals (first | assumption | wp_step))
     refine Eg (M9 (R:=wants (fun r s₂=>r=.none/\∃h' tk,s₂={ s with heap:=h',toks:=tk }/\DG prog w h' s.heap.objs.size (firstMet (fun i=>ns.getD i 0) items.size) /\
      (∀b o,b < s.heap.objs.size->s.heap.get? b=Aa o->h'.get? b=Aa o)) E) PySem.F.called_set.init.plain PySem.F.entry_set_init (check_set_init_1 hT ?_)) fun r₂ s₂ hr₂=>?_
     ·obtain ⟨ol,hol,hcl,nl,hdl⟩:=hl
      obtain ⟨ocls,odict,odata,oslots⟩:=ol
      simp only at hcl hdl
      subst hcl;subst hdl
      have hol':(s.heap.push (E6 w)).get? l=Aa { cls:=.type "list",dict:=odict,data:=.seq items nl,slots:=oslots }:=Bk _ hol
      have hsls:=PySem.F.sub_list_set
      have hslf:=PySem.F.sub_list_frozenset
      have hne:(Ck "list" == Ck "dict")=As:=by decide
      have hl1:(s.heap.push (E6 w)).IsList l items:=⟨_,hol',rfl,nl,rfl⟩
      unfold C9.«set.__init__» noKeywords Builtin.Frozenset.updateFrom
      generalize hPI:pyIter=PI
      wp_walk
      subst hPI
      refine JE hl1 ?_
      refine Al (Pz ?_)
      have hlS:l < s.heap.objs.size:=A' hol
      have hh3:A.in1.in1.in1.handled=Ag:=by simp [hh]
      have hneI:l≠(s.heap.push (E6 w)).objs.size:=by
       rw [Er];exact Bx (Hm hlS)
      have hSf:s.heap.objs.size ∉ [(s.heap.push (E6 w)).objs.size,l]:=by
       rw [Er];simp only [FO,U',Cw,MB,JA]
       exact ⟨Bx (Fe _),DC hlS⟩
      have hval:∀(i:Ae) (v:Ah),items[i]?=Aa v->∃t,v=.int ((fun i=>ns.getD i 0) i) t:=fun i v hv =>
       IntsAre.int_at hi i v (by rw [Ob];exact hv)
      refine Aaf ((Walks.list hh3 _ l hneI items).toS) s.heap.objs.size hSf (fun i=>ns.getD i 0) hval hb (items.size - 0) 0 _ (by omega) (BQ _)
       ⟨⟨_,BE _ rfl,rfl,rfl⟩,(hl1.push _)⟩ (Xb (Bk _ hS)) ?_
      intro s' hm hS'
      obtain ⟨h',g',d',tk',os'⟩:=s'
      have eg:g'=s.gens:=hm.gens
      have ed:d'=s.drawn:=hm.drawn
      have eo:os'=s.os:=hm.os
      subst eg;subst ed;subst eo
      show Ar _ _ _ _ _ _
      refine A0 ?_
      show Ar _ _ (ret B6) _ _ _
      refine A0 ⟨rfl,h',tk',rfl,hS',fun b o hb e=>?_⟩
      have hb1:b≠s.heap.objs.size:=Bx hb
      have hb2:b≠(s.heap.push (E6 w)).objs.size:=by
       rw [Er];exact Bx (Hm hb)
      exact hm.heap b o (by simp only [FO,U',Cw,MB,JA];exact ⟨hb1,hb2⟩) (Bk _ (Bk _ e))
     ·cases r₂ with
      | error e=>exact hr₂
      | ok fl₂ =>
        cases fl₂ with
        | ret r =>
          obtain ⟨rfl,h',tk,rfl,hS',hk'⟩:=hr₂
          repeat (any_goals (first | assumption | wp_step))
          exact h _ _ hS' hk'
        | _=>exact hr₂.elim
   | _=>exact hr.elim
end
end L2
namespace L2
open PySem PySem.W PySem.Spec PyProof.Rows
theorem Ng {α:Type}:∀(xs:Ab α) (i:Ae) (hi:i < xs.length),(xs[i] :: xs.eraseIdx i).Perm xs
 | [],i,hi=>A8 hi (K7 _)
 | x :: xs,0,_=>.refl _
 | x :: xs,i+1,hi=>by
   have hi':i < xs.length:=by simpa using hi
   have ih:=Ng xs i hi'
   show (xs[i] :: x :: xs.eraseIdx i).Perm (x :: xs)
   exact (UL _ _ _).trans (ih.cons x)
section
variable {prog:AN} {w:AA} {A:AV} {E:Ah->Ai->Prop} {s:Ai}
theorem WE {src:Source} {n:Ae} {Q:Ae->Ai->Prop} (hn:n≠0) (h:∀x d,x < n->Q x { s with drawn:=d }):Ar (A1 prog w) A (choose src n) Q E s:=fun Γ p _=>by
 unfold choose
 rw [Sem.wp_choose]
 exact ⟨hn,h _ _ (Nat.mod_lt _ (Nat.pos_of_ne_zero hn))⟩
theorem Qq {α:Type}:∀(n:Ae) (xs:Ab α) (s:Ai) {Q:Ab α->Ai->Prop},xs.length=n->(∀ys d,ys.Perm xs->Q ys { s with drawn:=d })->Ar (A1 prog w) A (drawOrder n xs) Q E s
 | 0,xs,s,Q,hl,h=>by
   have:xs=[]:=List.length_eq_zero_iff.mp hl
   subst this
   have:=h [] s.drawn (.refl _)
   exact A0 this
 | n+1,[],s,Q,hl,h=>by simp at hl
 | n+1,x :: xs,s,Q,hl,h=>by
   unfold drawOrder
   refine Al (WE (by simp) fun i d hi=>?_)
   have e:(x :: xs)[i]?=Aa (x :: xs)[i]:=by simp [hi]
   rw [e]
   dsimp only
   refine Al (Qq n ((x :: xs).eraseIdx i) _ (by rw [UU,At hi];simp at hl ⊢;omega) fun ys d' hp=>A0 ?_)
   refine h _ d' ?_
   exact (hp.cons _).trans (Ng _ _ hi)
end
theorem Rx {α:Type} (next:Ae->Ae):∀(f k:Ae) (left:Ab α) (out:A7 α),left.length=f->(Pl next f k left out).toList.Perm (out.toList++left)
 | 0,k,left,out,hl=>by
   have:left=[]:=List.length_eq_zero_iff.mp hl
   subst this
   simp [Pl]
 | f+1,k,left,out,hl=>by
   unfold Pl
   have hi:next k % left.length < left.length:=Nat.mod_lt _ (by omega)
   have e:left[next k % left.length]?=Aa left[next k % left.length]:=by simp [hi]
   rw [e]
   dsimp only
   refine (Rx next f (k+1) (left.eraseIdx (next k % left.length)) _ (by rw [UU,At hi];omega)).trans ?_
   rw [Uq,Kz]
   exact List.Perm.append_left _ (Ng _ _ hi)
theorem Ry {α:Type} (next:Ae->Ae) (xs:A7 α):(pickOrder next xs).toList.Perm xs.toList:=by
 have:=Rx next xs.size 0 xs.toList #[] (by simp)
 simpa [pickOrder] using this
noncomputable def CH (h:AC) (a:Ad) (es:A7 (Ac × Ah)) (ep:Ae) (t:CD):Prop:=∃o,h.get? a=Aa o/\o.ExactSet/\o.data=.set es ep t
theorem CH.at {h h':AC} {a:Ad} {es:A7 (Ac × Ah)} {ep:Ae} {t:CD} (x:CH h a es ep t) (e:∀o,h.get? a=Aa o->h'.get? a=Aa o):CH h' a es ep t:=let ⟨o,ho,r⟩:=x;⟨o,e o ho,r⟩
theorem CH.typeIs {s:Ai} {a:Ad} {es:A7 (Ac × Ah)} {ep:Ae} {t:CD} (x:CH s.heap a es ep t):s.TypeIs (.ref a) "set":=let ⟨o,ho,hc,_⟩:=x;⟨o,ho,hc.1⟩
noncomputable def HK (es:A7 (Ac × Ah)) (t:CD):AR:=!t.plain && decide (es.size > 1)
noncomputable def GY (t:CD):Ae->Ae
 | 0=>0
 | i+1=>t.place.getD i 0+1
noncomputable def SIt (w:AA) (h:AC) (I tp a:Ad) (es:A7 (Ac × Ah)) (ep:Ae) (t:CD) (out:Ab Ah) (i:Ae):Prop :=
 ∃first,(∃o,h.get? I=Aa o/\o.cls=.type "set_iterator"/\o.data=.fields #[first,rawInt i,.ref a,rawInt es.size,rawInt ep]) /\
  ((Dw w=Af/\first=rawInt 0/\out=(pickOrder (w.params.setOrder a ep) es).toList.map (·.2)) \/
   (Dw w=As/\HK es t=Af/\first=.ref tp/\∃ps:Ab Ae,(∃o n,h.get? tp=Aa o/\o.data=.seq (ps.map fun (p:Ae)=>rawInt p).toArray n)/\ps.Perm (Bz es.size)/\out=ps.map fun p=>(es.getD p (0,B6)).2) \/
   (Dw w=As/\HK es t=As/\C4 t/\first=rawInt (GY t i)/\out=es.toList.map (·.2)))
theorem SIt.perm {w:AA} {h:AC} {I tp a:Ad} {es:A7 (Ac × Ah)} {ep:Ae} {t:CD} {out:Ab Ah} {i:Ae} (x:SIt w h I tp a es ep t out i):out.Perm (es.toList.map (·.2)):=by
 obtain ⟨_,_,⟨_,_,e⟩ | ⟨_,_,_,ps,_,p,e⟩ | ⟨_,_,_,_,e⟩⟩:=x
 ·rw [e]
  exact (Ry _ _).map _
 ·rw [e]
  have q:=p.map fun p=>(es.getD p (0,B6)).2
  refine q.trans (.of_eq ?_)
  apply G0
  ·simp
  ·intro i h1 h2
   have hi:i < es.size:=by simpa using h1
   simp [FH,hi]
 ·rw [e]
section
variable {prog:AN} {w:AA} {A:AV} {E:Ah->Ai->Prop} {s:Ai} {a:Ad} {es:A7 (Ac × Ah)} {ep:Ae} {t:CD}
theorem Aad:entryFor table "set.__iter__"=Aa C9.«frozenset.__iter__» :=
 entryFor_alias (id':="frozenset.__iter__") (by kernel_rfl) (by first | rfl | decide +kernel | (unfold VI;simp +decide [VJ])) (by decide +kernel) (by kernel_rfl)
theorem IV:Slot "set_iterator" "__next__" "set_iterator.__next__" :=
 .of (owner:="set_iterator") (n:="__next__") (by rw [MD,M7];kernel_rfl) (by decide +kernel) (by decide +kernel) (by decide +kernel)
  (by first | exact .inl (by decide +kernel) | exact .inr (by decide +kernel)) (by rw [MA];kernel_rfl)
theorem Sc:entryFor table "set_iterator.__next__"=Aa C9.«set_iterator.__next__»:=entryFor_of_tree (by kernel_rfl)
theorem Sa (a:Ah):argsOk "set_iterator.__next__" ⟨[a],[]⟩:=by
 unfold argsOk
 kernel_rfl
theorem FE {Q:(A7 (Ac × Ah) × Ae × CD)->Ai->Prop} (x:CH s.heap a es ep t) (hf:t.fits es.size=Af) (h:Q (es,ep,t) s):Ar (A1 prog w) A (setState a) Q E s:=by
 obtain ⟨o,ho,_,hd⟩:=x
 exact Wo ho hd hf h
theorem Aac {Q:Ah->Ai->Prop} (x:CH s.heap a es ep t) (hf:t.fits es.size=Af) (hz:es.size<=A5) (hw:Dw w=Af\/C4 t)
 (h:∀(h':AC) (d:Hb) (I tp:Ad) (out:Ab Ah),(∀b o,s.heap.get? b=Aa o->h'.get? b=Aa o)->s.heap.objs.size<=I->s.heap.objs.size<=tp->tp≠I->I < h'.objs.size->SIt w h' I tp a es ep t out 0->Q (.ref I) { s with heap:=h',drawn:=d }) :
 Ar (A1 prog w) A (pyIter (.ref a)) Q E s:=by
 have hT:=x.typeIs
 refine Px hT Vz (Ey Vz hT Aad ?_ (PySem.F.args_set_iter_1 _))
 unfold C9.«frozenset.__iter__»
 refine Al (m:=Builtin.Frozenset.slot0 "__iter__" ⟨[.ref a],[]⟩) (Eh (a:=a) rfl ?_)
 refine Al ?_
 unfold Builtin.Frozenset.sizeOf
 refine Al ?_
 unfold setEntries
 refine Al (FE x hf (A0 (A0 ?_)))
 dsimp only
 refine Al ?_
 unfold setDrawn
 refine Al (FE x hf ?_)
 dsimp only
 refine Al ?_
 unfold setsByText
 refine Al (JB (A0 ?_))
 refine A0 ?_
 show Ar _ _ (if (!Dw w && HK es t)=Af then _ else _) _ _ s
 have fin:∀(s1:Ai) (first:Ah),(∀b o,s.heap.get? b=Aa o->s1.heap.get? b=Aa o)->s.heap.objs.size<=s1.heap.objs.size->(∃d,s1={ s with heap:=s1.heap,drawn:=d }) ->
  (∀h',(∀b o,s1.heap.get? b=Aa o->h'.get? b=Aa o)->h'.get? s1.heap.objs.size=Aa { cls:=.type "set_iterator",data:=.fields #[first,rawInt 0,.ref a,rawInt es.size,rawInt ep] } ->
   ∃tp out,s.heap.objs.size<=tp/\tp≠s1.heap.objs.size/\SIt w h' s1.heap.objs.size tp a es ep t out 0) ->
  Ar (A1 prog w) A.in1 (setEpoch a >>= fun e=>newFields "set_iterator" [first,rawInt 0,A_ a,rawInt es.size,rawInt e] >>= fun v=>ret v)
   (fun fin s'=>∃v,fin=Fin.done (Flow.ret v)/\∃T' r,s'.TypeIs v T'/\typeLookup (Ck T') (Az "__next__")=pure (Aa r)/\Q v s') E s1:=by
  intro s1 first k1 k2 k3 k4
  obtain ⟨d,k3⟩:=k3
  have x1:CH s1.heap a es ep t:=x.at fun o e=>k1 a o e
  refine Al ?_
  unfold setEpoch
  refine Al (FE x1 hf (A0 ?_))
  dsimp only
  refine Al (m:=newFields "set_iterator" [first,rawInt 0,A_ a,rawInt es.size,rawInt ep]) ?_
  unfold newFields
  refine Ez (A0 ⟨_,rfl,"set_iterator",_,⟨_,BE _ rfl,rfl⟩,IV.lookup,?_⟩)
  obtain ⟨tp,out,z1,z3,z2⟩:=k4 (s1.heap.push { cls:=.type "set_iterator",data:=.fields #[first,rawInt 0,.ref a,rawInt es.size,rawInt ep] }) (fun b o e=>Bk _ e) (BE _ rfl)
  have:=h _ d s1.heap.objs.size tp out (fun b o e=>Bk _ (k1 b o e)) k2 z1 z3 (by rw [Kl];exact Fe _) z2
  rw [k3]
  exact this
 cases eb:Dw w with
 | true =>
   rw [Ao (by simp)]
   refine Al (A0 ?_)
   refine fin s (rawInt 0) (fun b o e=>e) (AB _) ⟨s.drawn,rfl⟩ fun h' k e=>⟨s.heap.objs.size+1,_,Ec _,K8 _,rawInt 0,⟨_,e,rfl,rfl⟩,.inl ⟨eb,rfl,rfl⟩⟩
 | false =>
   have wk:C4 t:=hw.resolve_left (by rw [eb];decide)
   cases ed:HK es t with
   | false =>
     rw [Ao (by decide)]
     refine Al (A0 ?_)
     refine fin s (rawInt 0) (fun b o e=>e) (AB _) ⟨s.drawn,rfl⟩ fun h' k e=>⟨s.heap.objs.size+1,_,Ec _,K8 _,rawInt 0,⟨_,e,rfl,rfl⟩,.inr (.inr ⟨eb,ed,wk,rfl,rfl⟩)⟩
   | true =>
     rw [At (by decide)]
     refine Al (Qq es.size (Bz es.size) s (by simp) fun ps d hp=>?_)
     refine Al (wpAny_newTuple ?_ (by rw [Aw,hp.length_eq,DB];exact hz))
     refine fin _ (.ref s.heap.objs.size) (fun b o e=>Bk _ e) (by show s.heap.objs.size<=(s.heap.push _).objs.size;rw [Kl];exact Ec _) ⟨d,rfl⟩ fun h' k e=>⟨s.heap.objs.size,_,AB _,(by show s.heap.objs.size≠(s.heap.push _).objs.size;rw [Kl];exact Bx (Fe _)),.ref s.heap.objs.size,⟨_,e,rfl,rfl⟩,.inr (.inl ⟨eb,ed,rfl,ps,⟨_,_,k _ _ (BE _ rfl),rfl⟩,hp,rfl⟩)⟩
theorem Rh {slot i:Ae} {Q:Ay (Ah × Ae)->Ai->Prop} (b:Dw w=Af) (x:CH s.heap a es ep t) (hf:t.fits es.size=Af)
 (h:Q (((pickOrder (w.params.setOrder a ep) es)[i]?).map fun e=>(e.2,slot)) s):Ar (A1 prog w) A (setNext a slot i ep) Q E s:=by
 unfold setNext
 refine Al (FE x hf ?_)
 dsimp only
 refine Al ?_
 unfold setsByText
 refine Al (JB (A0 ?_))
 refine FZ (fun _=>?_) (fun hab=>A8 b hab)
 refine FZ (fun hab=>A8 hab (by simp)) (fun _=>?_)
 refine Al ?_
 unfold setWalk
 refine Al (FE x hf ?_)
 dsimp only
 refine Al ?_
 unfold setsByText
 refine Al (JB (A0 ?_))
 refine FZ (fun _=>?_) (fun hab=>A8 b hab)
 refine Al (JB (A0 (A0 ?_)))
 exact h
theorem Rg {slot i:Ae} {Q:Ay (Ah × Ae)->Ai->Prop} (b:Dw w=As) (d:HK es t=As) (wk:C4 t) (x:CH s.heap a es ep t) (hf:t.fits es.size=Af)
 (h:Q (match es[Cy t.place slot]?,t.place[Cy t.place slot]? with | some (_,x),Aa j=>Aa (x,j+1) | _,_=>Ag) s):Ar (A1 prog w) A (setNext a slot i ep) Q E s:=by
 unfold setNext
 refine Al (FE x hf ?_)
 dsimp only
 refine Al ?_
 unfold setsByText
 refine Al (JB (A0 ?_))
 refine FZ (fun hab=>A8 (show Dw w=Af from hab) (by rw [b];decide)) (fun _=>?_)
 refine FZ (fun hab=>A8 (show HK es t=Af from hab) (by rw [d];decide)) (fun _=>?_)
 refine Al ?_
 show Ar _ _ (if (!t.led && !es.isEmpty)=Af then _ else _) _ _ s
 rw [Ao (by rw [wk.2];simp)]
 refine A0 ?_
 exact A0 h
theorem Yt {p:Ae} {Q:Ah->Ai->Prop} (x:CH s.heap a es ep t) (hf:t.fits es.size=Af) (hp:p < es.size) (h:Q (es.getD p (0,B6)).2 s):Ar (A1 prog w) A (setNextDrawn a p ep) Q E s:=by
 unfold setNextDrawn
 refine Al (FE x hf ?_)
 dsimp only
 refine FZ (fun hab=>A8 hab (by simp)) (fun _=>?_)
 have e:es[p]?=Aa (es.getD p (0,B6)):=by simp [FH,hp]
 rw [e]
 exact A0 h
theorem FA {I:Ad} {o:A4} {xs:A7 Ah} {k:Ae} {g:Ah} {Q:CZ->Ai->Prop} (ho:s.heap.get? I=Aa o) (hd:o.data=.fields xs) (hk:k < xs.size)
 (h:∀h' o',h'.get? I=Aa o'->o'.cls=o.cls->o'.data=.fields (xs.setIfInBounds k g)->Ep I s.heap h'->Q () { s with heap:=h' }):Ar (A1 prog w) A (setField (.ref I) k g) Q E s:=by
 refine G7 ho hd hk ?_
 exact h _ _ (EC _ ho (Jn (Ev hd _))) (K9 ..) (by rw [Ev hd]) (Hc ..)
theorem Aaj {I tp:Ad} {out:Ab Ah} {i:Ae} {v:Ah} {Q:Ay Ah->Ai->Prop} (x:CH s.heap a es ep t) (hf:t.fits es.size=Af) (y:SIt w s.heap I tp a es ep t out i) (hv:out[i]?=Aa v) (n1:a≠I) (n2:tp≠I)
 (h:∀h',SIt w h' I tp a es ep t out (i+1)->Ep I s.heap h'->Q (Aa v) { s with heap:=h' }):Ar (A1 prog w) A (pyNext (.ref I)) Q E s:=by
 have hp:=y.perm
 obtain ⟨first,⟨o,ho,hc,hd⟩,y⟩:=y
 have hT:s.TypeIs (.ref I) "set_iterator":=⟨o,ho,hc⟩
 unfold pyNext
 refine Al (JC (Hw (name:=Az "__next__") hT IV (Ey IV hT Sc ?_ (Sa _))))
 unfold C9.«set_iterator.__next__»
 refine Al (Eh (a:=(A_ I,[])) rfl ?_)
 refine Al (ME ho hd ?_)
 dsimp only [rawInt]
 refine Al ?_
 unfold setEntries
 refine Al (FE x hf (A0 ?_))
 dsimp only
 rw [Ao (by simp)]
 rcases y with ⟨b1,rfl,b2⟩ | ⟨b1,b2,rfl,ps,⟨ot,nt,hot,hdt⟩,pp,b3⟩ | ⟨b1,b2,b3,rfl,b4⟩
 ·have hi:(pickOrder (w.params.setOrder a ep) es)[i]?.map (·.2)=Aa v:=by
   rw [b2,Bm,Ob] at hv
   exact hv
  cases e:(pickOrder (w.params.setOrder a ep) es)[i]? with
  | none=>rw [e] at hi;cases hi
  | some q =>
    rw [e] at hi
    have hq:q.2=v:=Bp hi
    refine Al (show Ar _ _ (setNext a 0 i ep) _ _ s from Rh b1 x hf ?_)
    rw [e]
    show Ar _ _ (setField (A_ I) 0 (Di (0:Ae) 0) >>= fun _=>setField (A_ I) 1 (Di ((i:Ac)+1) 0) >>= fun _=>ret q.2) _ _ s
    refine Al (FA ho hd (by simp) fun h1 o1 g1 g2 g3 s1=>?_)
    refine Al (FA (s:={ s with heap:=h1 }) g1 g3 (by simp) fun h2 o2 k1 k2 k3 s2=>?_)
    rw [hq]
    exact A0 ⟨_,rfl,A0 (h h2 ⟨rawInt 0,⟨o2,k1,k2.trans (g2.trans hc),by rw [k3];simp [rawInt]⟩,.inl ⟨b1,rfl,b2⟩⟩ (s1.trans s2))⟩
 ·have hl:ps.length=es.size:=by rw [pp.length_eq,DB]
  have hi:i < ps.length:=by
   rw [b3,Bm] at hv
   cases e:ps[i]? with
   | none=>rw [e] at hv;cases hv
   | some q=>exact (List.getElem?_eq_some_iff.mp e).1
  have hv':v=(es.getD ps[i] (0,B6)).2:=by
   rw [b3,Bm,BF hi] at hv
   exact (Bp hv).symm
  have hlt:ps[i] < es.size:=List.mem_range.mp (pp.mem_iff.mp (G1 hi))
  refine Al (m:=seqItems? (A_ tp)) (KP hot hdt ?_)
  dsimp only
  have e:(Mp (ps.map fun (p:Ae)=>rawInt (p:Ac)))[(i:Ac).toNat]?=Aa (Di (ps[i]:Ae) 0):=by simp [hi,rawInt]
  rw [e]
  refine Al (show Ar _ _ (setNextDrawn a ps[i] ep) _ _ s from Yt x hf hlt ?_)
  refine Al (FA ho hd (by simp) fun h1 o1 g1 g2 g3 s1=>?_)
  rw [<- hv']
  refine A0 ⟨_,rfl,A0 ?_⟩
  exact h h1 ⟨.ref tp,⟨o1,g1,g2.trans hc,by rw [g3];simp [rawInt]⟩,.inr (.inl ⟨b1,b2,rfl,ps,⟨ot,nt,(s1.2 tp n2).trans hot,hdt⟩,pp,b3⟩)⟩ s1
 ·have hi:i < es.size:=by
   rw [b4,Bm] at hv
   cases e:es.toList[i]? with
   | none=>rw [e] at hv;cases hv
   | some q =>
     have:=(List.getElem?_eq_some_iff.mp e).1
     simpa using this
  have hv':v=(es[i]).2:=by
   rw [b4,Bm,BF (by simpa using hi)] at hv
   simpa using (Bp hv).symm
  have hpl:t.place.size=es.size:=by
   unfold SetTable.fits at hf
   simp at hf
   exact hf.1
  have hb:Cy t.place (GY t i)=i:=by
   cases i with
   | zero=>exact PL b3.1
   | succ i=>exact PK b3.1 (by omega)
  refine Al (show Ar _ _ (setNext a (GY t i) i ep) _ _ s from Rg b1 b2 b3 x hf ?_)
  rw [hb,Kn hi,Kn (by omega)]
  show Ar _ _ (setField (A_ I) 0 (Di ((t.place[i]'(by omega)+1:Ae)) 0) >>= fun _=>setField (A_ I) 1 (Di ((i:Ac)+1) 0) >>= fun _=>ret (es[i]).2) _ _ s
  refine Al (FA ho hd (by simp) fun h1 o1 g1 g2 g3 s1=>?_)
  refine Al (FA (s:={ s with heap:=h1 }) g1 g3 (by simp) fun h2 o2 k1 k2 k3 s2=>?_)
  rw [<- hv']
  have es':GY t (i+1)=t.place[i]'(by omega)+1:=by
   show t.place.getD i 0+1=_
   rw [Ja,Kn (by omega)]
   rfl
  refine A0 ⟨_,rfl,A0 (h h2 ⟨rawInt (GY t (i+1)),⟨o2,k1,k2.trans (g2.trans hc),?_⟩,.inr (.inr ⟨b1,b2,b3,rfl,b4⟩)⟩ (s1.trans s2))⟩
  rw [k3,es']
  simp [rawInt]
theorem NR {Q:Ay Ah->Ai->Prop} {I:Ad} {h0:AC} (hh:A.handled=Ag) (ex:Jf I h0 s.heap) (h:∀h',Jf I h0 h'->Q Ag { s with heap:=h' }) :
 Ar (A1 prog w) A.in1 (newExc (.type "StopIteration") [] >>= fun e=>(raiseNew e:C2 PySem.Fin)) (fun fin s'=>∃v,fin=Fin.done (Flow.ret v)/\Ar (A1 prog w) A (pure (Aa v)) Q E s')
  (fun e s'=>Ar (A1 prog w) A (isInstance e (.type "StopIteration") >>= fun b=>if b=Af then pure Ag else throw e) Q E s') s:=by
 refine Al ?_
 simp only [newExc,newTuple]
 refine Al (Ez ?_ (by size_fits))
 refine Al (m:=firstArgMember _ _) (Eh (a:=B6) (by first | rfl | (simp only [firstArgMember];rfl)) ?_)
 refine Ez ?_ (by size_fits)
 simp only [raiseNew]
 refine Al (Pt ?_)
 rw [show A.in1.handled=Ag from hh]
 refine Al (A0 (P0 ?_))
 refine Al (KN (T:="StopIteration") (b:=Af) ⟨_,BE _ rfl,rfl⟩ Ph ?_)
 exact A0 (h _ ((ex.push _).push _))
theorem Aaa {I tp:Ad} {out:Ab Ah} {Q:Ay Ah->Ai->Prop} (hh:A.handled=Ag) (x:CH s.heap a es ep t) (hf:t.fits es.size=Af) (y:SIt w s.heap I tp a es ep t out es.size)
 (h:∀h',Jf I s.heap h'->Q Ag { s with heap:=h' }):Ar (A1 prog w) A (pyNext (.ref I)) Q E s:=by
 obtain ⟨first,⟨o,ho,hc,hd⟩,y⟩:=y
 have hT:s.TypeIs (.ref I) "set_iterator":=⟨o,ho,hc⟩
 unfold pyNext
 refine Al (JC (Hw (name:=Az "__next__") hT IV (Ey IV hT Sc ?_ (Sa _))))
 unfold C9.«set_iterator.__next__»
 refine Al (Eh (a:=(A_ I,[])) rfl ?_)
 refine Al (ME ho hd ?_)
 dsimp only [rawInt]
 refine Al ?_
 unfold setEntries
 refine Al (FE x hf (A0 ?_))
 dsimp only
 rw [Ao (by simp)]
 rcases y with ⟨b1,rfl,b2⟩ | ⟨b1,b2,rfl,ps,⟨ot,nt,hot,hdt⟩,pp,b3⟩ | ⟨b1,b2,b3,rfl,b4⟩
 ·have hz:(pickOrder (w.params.setOrder a ep) es).size=es.size:=by
   have:=(Ry (w.params.setOrder a ep) es).length_eq
   simpa using this
  refine Al (show Ar _ _ (setNext a 0 es.size ep) _ _ s from Rh b1 x hf ?_)
  rw [LH (by omega)]
  show Ar _ _ (setField (A_ I) 2 B6 >>= fun _=>newExc (.type "StopIteration") [] >>= fun e=>raiseNew e) _ _ s
  refine Al (FA ho hd (by simp) fun h1 o1 g1 g2 g3 s1=>?_)
  exact NR (s:={ s with heap:=h1 }) hh s1.extBut fun h' e=>h h' e
 ·have hl:ps.length=es.size:=by rw [pp.length_eq,DB]
  refine Al (m:=seqItems? (A_ tp)) (KP hot hdt ?_)
  dsimp only
  have e:(Mp (ps.map fun (p:Ae)=>rawInt (p:Ac)))[(es.size:Ac).toNat]?=Ag:=by simp [hl]
  rw [e]
  refine Al (FA ho hd (by simp) fun h1 o1 g1 g2 g3 s1=>?_)
  refine Al (FA (s:={ s with heap:=h1 }) g1 g3 (by simp) fun h2 o2 k1 k2 k3 s2=>?_)
  exact NR (s:={ s with heap:=h2 }) hh (s1.trans s2).extBut fun h' e=>h h' e
 ·have hpl:t.place.size=es.size:=by
   unfold SetTable.fits at hf
   simp at hf
   exact hf.1
  have hb:Cy t.place (GY t es.size)=es.size:=by
   cases e:es.size with
   | zero=>exact PL b3.1
   | succ i=>exact PK b3.1 (by omega)
  refine Al (show Ar _ _ (setNext a (GY t es.size) es.size ep) _ _ s from Rg b1 b2 b3 x hf ?_)
  rw [hb,LH (AB _)]
  show Ar _ _ (setField (A_ I) 2 B6 >>= fun _=>newExc (.type "StopIteration") [] >>= fun e=>raiseNew e) _ _ s
  refine Al (FA ho hd (by simp) fun h1 o1 g1 g2 g3 s1=>?_)
  exact NR (s:={ s with heap:=h1 }) hh s1.extBut fun h' e=>h h' e
theorem SIt.at {h h':AC} {I tp:Ad} {out:Ab Ah} {i:Ae} (x:SIt w h I tp a es ep t out i) (e1:∀o,h.get? I=Aa o->h'.get? I=Aa o) (e2:∀o,h.get? tp=Aa o->h'.get? tp=Aa o):SIt w h' I tp a es ep t out i:=by
 obtain ⟨f,⟨o,ho,hc⟩,⟨b1,b2⟩ | ⟨b1,b2,b3,ps,⟨ot,nt,hot,hdt⟩,b4⟩ | ⟨b1,b2⟩⟩:=x
 ·exact ⟨f,⟨o,e1 o ho,hc⟩,.inl ⟨b1,b2⟩⟩
 ·exact ⟨f,⟨o,e1 o ho,hc⟩,.inr (.inl ⟨b1,b2,b3,ps,⟨ot,nt,e2 ot hot,hdt⟩,b4⟩)⟩
 ·exact ⟨f,⟨o,e1 o ho,hc⟩,.inr (.inr ⟨b1,b2⟩)⟩
theorem SIt.typeIs {s:Ai} {I tp:Ad} {out:Ab Ah} {i:Ae} (x:SIt w s.heap I tp a es ep t out i):s.TypeIs (.ref I) "set_iterator":=by
 obtain ⟨f,⟨o,ho,hc,_⟩,_⟩:=x
 exact ⟨o,ho,hc⟩
theorem Sd:Slot "set_iterator" "__iter__" "set_iterator.__iter__" :=
 .of (owner:="set_iterator") (n:="__iter__") (by rw [MD,M7];kernel_rfl) (by decide +kernel) (by decide +kernel) (by decide +kernel)
  (by first | exact .inl (by decide +kernel) | exact .inr (by decide +kernel)) (by rw [MA];kernel_rfl)
theorem Aar:entryFor table "set_iterator.__iter__"=Aa C9.«dict_keyiterator.__iter__» :=
 entryFor_alias (id':="dict_keyiterator.__iter__") (by kernel_rfl) (by first | rfl | decide +kernel | (unfold VI;simp +decide [VJ])) (by decide +kernel) (by kernel_rfl)
theorem Aaq (a:Ah):argsOk "set_iterator.__iter__" ⟨[a],[]⟩:=by
 unfold argsOk
 kernel_rfl
theorem Aao {I tp:Ad} {out:Ab Ah} (hh:A.handled=Ag) (hf:t.fits es.size=Af) (n1:a≠I) (n2:tp≠I) :
 Walks prog w A I [I,a,tp] [I] es.size (fun i v=>out[i]?=Aa v) (fun i h=>SIt w h I tp a es ep t out i/\CH h a es ep t) where
 sub:=fun b hb=>by simp at hb;simp [hb]
 frame:=fun _ _ _ st hk=>⟨st.1.at (fun o e=>hk I (by simp) o e) (fun o e=>hk tp (by simp) o e),st.2.at fun o e=>hk a (by simp) o e⟩
 item:=fun i s Q E hi st hQ=>by
  have hl:out.length=es.size:=by rw [st.1.perm.length_eq];simp
  refine Aaj (v:=out[i]) st.2 hf st.1 (by simp [hl,hi]) n1 n2 fun h' it' hs'=>?_
  exact hQ _ h' s.toks (by simp [hl,hi]) ⟨it',st.2.at fun o q=>hs'.extBut a o n1 q⟩ fun b o hb q=>hs'.extBut b o (fun h=>hb (by simp [h])) q
 done:=fun s Q E st hQ=>Aaa hh st.2 hf st.1 fun h' he'=>hQ h' s.toks fun b o hb q=>he' b o (fun h=>hb (by simp [h])) q
 self:=fun i s Q E st hQ=>by
  refine Px st.1.typeIs Sd (Ey Sd st.1.typeIs Aar ?_ (Aaq _))
  show Ar _ _ (ret (.ref I)) _ _ s
  exact A0 ⟨_,rfl,"set_iterator",_,st.1.typeIs,IV.lookup,hQ⟩
theorem Aab {r:Ad} {Q:AR->Ai->Prop} (hT:s.TypeIs (.ref r) "set") (h:Q As s):Ar (A1 prog w) A (LL (.ref r)) Q E s:=by
 unfold LL
 refine Al (MF hT PySem.F.slot_set_len.lookup ?_)
 generalize hid:("set.__len__":CN)=id0
 wp_delta
 rw [show splitId id0=Aa ("set","__len__") from by subst hid;decide +kernel]
 subst hid
 refine Al (KN (T:="set") (b:=Af) hT (by rw [MA];kernel_rfl) ?_)
 refine FZ (fun hab=>A8 hab (by decide)) (fun _=>?_)
 refine FZ (fun _=>?_) (fun hab=>A8 (by decide +kernel) hab)
 refine Al (P1 hT ?_)
 exact A0 h
theorem XD {out:Ab Ah} {acc:A7 Ah} (hl:out.length=es.size) (h:ItemsOf (fun i v=>out[i]?=Aa v) acc es.size):acc.toList=out:=by
 obtain ⟨h1,h2⟩:=h
 apply K0
 intro i
 by_cases hi:i < acc.size
 ·have:=h2 i acc[i] (by simp [hi])
  rw [this]
  simp [hi]
 ·rw [Hf (by simpa using Vg hi),Hf (by omega)]
theorem Z' {l:Ab Ac} {R:Ab Ah->Ai->Prop} (x:DG prog w s.heap a l) (hh:A.handled=Ag)
 (h:∀(h':AC) (tk:Ae) (d:Hb) (vs:Ab Ah) (ms:Ab Ac),Cf vs ms->ms.Perm l->(∀b o,s.heap.get? b=Aa o->h'.get? b=Aa o)->s.heap.objs.size < h'.objs.size->R vs { s with heap:=h',toks:=tk,drawn:=d }) :
 Ar (A1 prog w) A (collect (.ref a)) R E s:=by
 obtain ⟨o,es,ep,t,ms,ho,hex,hd,hel,hi,hp,hb,hf,hw⟩:=x
 have raw:CH s.heap a es ep t:=⟨o,ho,hex,hd⟩
 have hz:=Pf hb
 have hlt:a < s.heap.objs.size:=A' ho
 unfold collect
 refine Al (Pz (FX entry_proto_collect' ?_))
 rw [G' Vw _]
 show Ar _ A.in1 (newList [] >>= fun l=>again (.builtin "list.__iadd__" ⟨[l,.ref a],[]⟩)) _ _ s
 refine Al (Ez ?_)
 refine A0 ⟨Hu Mv _,FX entry_list_iadd' ?_⟩
 rw [G' Mv _]
 have hS₁:(s.heap.push { cls:=.type "list",data:=.seq ([]:Ab Ah).toArray }).get? s.heap.objs.size=Aa { cls:=.type "list",data:=.seq #[] }:=BE _ rfl
 show Ar _ A.in1 (Ha (.ref s.heap.objs.size) (.ref a) (.ref s.heap.objs.size)) _ _ _
 have raw1:CH (s.heap.push { cls:=.type "list",data:=.seq ([]:Ab Ah).toArray }) a es ep t:=raw.at fun o e=>Bk _ e
 unfold Ha
 refine Al (P1 (T:="set") (CH.typeIs (s:={ s with heap:=s.heap.push { cls:=.type "list",data:=.seq ([]:Ab Ah).toArray } }) raw1) ?_)
 have h1:LM (.ref s.heap.objs.size) (.ref a)=As:=by simp [LM,DC hlt]
 simp only [h1,show (Ck "set" == Ck "list")=As by decide,show (Ck "set" == Ck "tuple")=As by decide,Us,Eo,Dj]
 refine Al (Aac (s:={ s with heap:=s.heap.push { cls:=.type "list",data:=.seq ([]:Ab Ah).toArray } }) raw1 hf hz hw fun h2 d I tp out k2 gI gtp n2 ltI it=>?_)
 have sz1:(s.heap.push { cls:=.type "list",data:=.seq ([]:Ab Ah).toArray }).objs.size=s.heap.objs.size+1:=Kl _ _
 have gI':s.heap.objs.size+1<=I:=by rw [<- sz1];exact gI
 have gtp':s.heap.objs.size+1<=tp:=by rw [<- sz1];exact gtp
 have raw2:CH h2 a es ep t:=raw1.at fun o e=>k2 a o e
 have hS₂:=k2 _ _ hS₁
 have hSf:s.heap.objs.size ∉ [I,a,tp]:=by
  simp only [FO,Cw,MB,JA]
  exact ⟨Bx (Cg (Fe _) gI'),DC hlt,Bx (Cg (Fe _) gtp')⟩
 have n1:a≠I:=Bx (Cg (Hm hlt) gI')
 have hl:out.length=es.size:=by rw [it.perm.length_eq];simp
 obtain ⟨ms',i',p'⟩:=Nm it.perm hi
 have W:=(Aao (prog:=prog) (w:=w) (A:=A.in1) (out:=out) (ep:=ep) hh hf n1 n2).toS
 have key:∀(h3:AC) (c₁ tk:Ae),SIt w h3 I tp a es ep t out 0->CH h3 a es ep t->(∀b o,b≠s.heap.objs.size->h2.get? b=Aa o->h3.get? b=Aa o)->h3.get? s.heap.objs.size=Aa { cls:=.type "list",data:=.seq #[] c₁ } ->
  codeAny (A1 prog w) A (.builtin "list.extend.loop" ⟨[.ref s.heap.objs.size,.ref I,.ref s.heap.objs.size],[]⟩)
   (wants (fun v s'=>v=.ref s.heap.objs.size/\∃h' tk' c',s'={ s with heap:=h',toks:=tk',drawn:=d }/\(∀b o,s.heap.get? b=Aa o->h'.get? b=Aa o)/\h'.get? s.heap.objs.size=Aa { cls:=.type "list",dict:=Ag,data:=.seq out.toArray c',slots:=#[] }) (fun _ _=>B5))
   { s with heap:=h3,toks:=tk,drawn:=d }:=by
  intro h3 c₁ tk it3 raw3 k3 hS₃
  refine VQ W hz _ hSf _ es.size 0 _ #[] c₁ rfl (BQ _) ⟨it3,raw3⟩ hS₃ (ItemsOf.nil _) fun s' acc' c' hm hS' hacc=>?_
  have ea:acc'=out.toArray:=by rw [<- XD hl hacc]
  refine ⟨rfl,s'.heap,s'.toks,c',?_,fun b o e=>?_,by rw [<- ea];exact hS'⟩
  ·have:=Moved.eq_with (wr:=s.heap.objs.size :: [I]) hm
   rw [this]
  ·have lb:b < s.heap.objs.size:=A' e
   refine hm.heap b o ?_ (k3 b o (Bx lb) (k2 b o (Bk _ e)))
   simp only [FO,Cw,MB,JA]
   exact ⟨Bx lb,Bx (Cg (Hm lb) gI')⟩
 refine Al (Du (Aab (CH.typeIs (s:={ s with heap:=h2,drawn:=d }) raw2) ?_))
 have oth:∀(h3:AC) (g:A4->A4) b o,b≠s.heap.objs.size->h3.get? b=Aa o->(h3.update s.heap.objs.size g).get? b=Aa o:=fun h3 g b o hb e=>(FJ _ _ (AM hb)).trans e
 refine FZ (fun _=>?_) (fun _=>A0 ⟨Hu Vv _,Eg (key h2 0 _ it raw2 (fun b o _ e=>e) hS₂) ?_⟩)
 ·refine Al (Hy ?_)
  refine Al ?_
  show Ar _ _ (updateSeq s.heap.objs.size (·.push .none) >>= fun _=>updateSeq s.heap.objs.size (·.pop)) _ _ _
  refine Al (P2 hS₂ rfl ?_)
  have hS₃:=EC (CY (·.push B6)) hS₂ rfl
  refine P2 (hz:=by seq_fits) hS₃ rfl ?_
  have hS₄:=EC (CY (·.pop)) hS₃ rfl
  have k4:∀b o,b≠s.heap.objs.size->h2.get? b=Aa o->((h2.update s.heap.objs.size (CY (·.push B6))).update s.heap.objs.size (CY (·.pop))).get? b=Aa o:=fun b o hb e=>oth _ _ b o hb (oth _ _ b o hb e)
  have nI:I≠s.heap.objs.size:=DC (Cg (Fe _) gI')
  have ntp:tp≠s.heap.objs.size:=DC (Cg (Fe _) gtp')
  refine A0 ⟨Hu Vv _,Eg (key _ _ _ (it.at (fun o e=>k4 I o nI e) (fun o e=>k4 tp o ntp e)) (raw2.at fun o e=>k4 a o (Bx hlt) e) k4 hS₄) ?_⟩
  intro q s₂ y
  cases q with
  | error e=>exact y.elim
  | ok fl =>
    cases fl with
    | ret v =>
      obtain ⟨rfl,h',tk',c',rfl,hk,hS'⟩:=y
      show Ar _ A (load s.heap.objs.size >>= _) _ _ _
      refine Al (KO hS' ?_)
      exact A0 (h h' tk' d out ms' i' (p'.trans hp) hk (A' hS'))
    | _=>exact y.elim
 ·intro q s₂ y
  cases q with
  | error e=>exact y.elim
  | ok fl =>
    cases fl with
    | ret v =>
      obtain ⟨rfl,h',tk',c',rfl,hk,hS'⟩:=y
      show Ar _ A (load s.heap.objs.size >>= _) _ _ _
      refine Al (KO hS' ?_)
      exact A0 (h h' tk' d out ms' i' (p'.trans hp) hk (A' hS'))
    | _=>exact y.elim
theorem Aax {l:Ab Ac} {R:Ah->Ai->Prop} (x:DG prog w s.heap a l) (hh:A.handled=Ag) (h64:l.length < 64)
 (h:∀(h':AC) (tk:Ae) (d:Hb) (L:Ad) (c:Ae) (out:A7 Ah) (ns:Ab Ac),Cf out.toList ns->ns.Perm l->ns.Pairwise (·<=·)->(∀b o,s.heap.get? b=Aa o->h'.get? b=Aa o)->s.heap.objs.size<=L ->
  h'.get? L=Aa (seqObj "list" out c)->R (.ref L) { s with heap:=h',toks:=tk,drawn:=d }) :
 Ar (A1 prog w) A (call (.builtin "sorted") [.ref a]) R E s:=by
 refine Uy kind_sorted plain_sorted entry_sorted (args_sorted1 _) ?_
 unfold C9.«sorted»
 refine Al (m:=checkCount "sorted" 1 1 _) (A0 ?_)
 refine Al (Z' (A:=A.in1) x hh fun h' tk d vs ms iv pm hk ge=>?_)
 have hl:vs.length < 64:=by rw [iv.length,pm.length_eq];exact h64
 refine Al (Pw ?_ (by rw [Fi];omega))
 have ho:(h'.push (seqObj "list" vs.toArray 0)).get? h'.objs.size=Aa (seqObj "list" vs.toArray 0):=BE _ rfl
 refine Al (Du (Ey slot_list_sort ⟨_,ho,rfl⟩ entry_list_sort (list_sort_tree (s:={ s with heap:=h'.push (seqObj "list" vs.toArray 0),toks:=tk,drawn:=d }) ho iv hl fun out ns i1 i2 i3=>⟨_,rfl,?_⟩) (args_list_sort _)))
 obtain ⟨e,he⟩:=sortedHeap_at (out:=out) ho
 refine A0 ⟨_,rfl,h _ tk d _ e out ns i1 (i2.trans pm) i3 (fun b o q=>?_) (EG ge) he⟩
 have k1:(h'.push (seqObj "list" vs.toArray 0)).get? b=Aa o:=Bk _ (hk b o q)
 rw [sortedHeap_old (Bx (A' (hk b o q))) (A' k1)]
 exact k1
end
end L2
namespace L2
open PySem PySem.W PySem.Spec PyProof.Rows
theorem Qw (val:Ae->Ac):∀i,(firstMet val i).Nodup
 | 0=>by rw [firstMet_zero];exact Hi
 | i+1=>by
   rw [firstMet_succ]
   unfold Hv
   have ih:=Qw val i
   split
   ·exact ih
   ·rename_i c
    refine List.nodup_append.mpr ⟨ih,by simp,fun a ha b hb e=>?_⟩
    have:b=val i:=by simpa using hb
    subst this
    exact c (List.any_eq_true.mpr ⟨a,ha,by simp [e]⟩)
theorem ZD (ns:Ab Ac):(Bz ns.length).map (fun i=>ns.getD i 0)=ns:=by
 apply G0
 ·simp
 ·intro i h1 h2
  simp [h2]
theorem WX {ns:Ab Ac} {z:Ac}:z∈firstMet (fun i=>ns.getD i 0) ns.length↔z∈ns:=by
 have e:=firstMet_any (fun i=>ns.getD i 0) ns.length z
 rw [ZD] at e
 constructor
 ·intro h
  have a:(firstMet (fun i=>ns.getD i 0) ns.length).any (· == z)=Af:=List.any_eq_true.mpr ⟨z,h,by simp⟩
  rw [e] at a
  obtain ⟨y,hy,ey⟩:=List.any_eq_true.mp a
  have:y=z:=by simpa using ey
  exact this ▸ hy
 ·intro h
  have a:ns.any (· == z)=Af:=List.any_eq_true.mpr ⟨z,h,by simp⟩
  rw [<- e] at a
  obtain ⟨y,hy,ey⟩:=List.any_eq_true.mp a
  have:y=z:=by simpa using ey
  exact this ▸ hy
theorem QS:∀{l:Ab Ac},l.Pairwise (·<=·)->l.Nodup->l.Pairwise (· < ·)
 | [],_,_=>.nil
 | x :: l,h,n=>by
   rw [Hj] at h ⊢
   rw [FP] at n
   exact ⟨fun y hy=>by
    have a:=h.1 y hy
    have b:x≠y:=fun e=>n.1 (e ▸ hy)
    omega,QS h.2 n.2⟩
section
variable {X:Cx} {e:A3} {te:TE} {p p2 pos pos2:Pos}
theorem Inv.draw {pins:Ab (Ad × A4)} {σ:St} {H:Hp} {s:Ai} (I:Inv X pins σ H s) (d:Hb):Inv X pins σ H { s with drawn:=d } :=
 ⟨I.ok,I.os,I.bare,I.base,I.loc,I.cell,I.free,I.freeC,I.pin,I.hok,I.len⟩
noncomputable def AaZ (K:A6) (te:TE):TE:=fun σ H Q=>te σ H fun x H1=>∃(a:Ad) (ns:Ab Ac),x=.ref a/\SqL K H1 a (ns.map V.int)/\ns.length < 64 /\
 ∀(l:Ad) (ms:Ab Ac),ms.Pairwise (· < ·)->(∀z,z∈ms↔z∈ns)->H1 l=Ag->Q (.ref l) (upd H1 l (.lst (ms.map V.int)))
theorem YR (hc:X.calm=Af) (hg:Gl X "sorted") (hm:X.mg "sorted"=Ag) (hg2:Gl X "set") (hm2:X.mg "set"=Ag) (he:PE X e te)
 (hs:Bh [e] X.env=[(As,eval e X.env)]:=by rfl)
 (hs2:Bh [(.Call (.Name "set" p2) [e] [] pos2:A3)] X.env=[(As,eval (.Call (.Name "set" p2) [e] [] pos2) X.env)]:=by rfl) :
 PE X (.Call (.Name "sorted" p) [.Call (.Name "set" p2) [e] [] pos2] [] pos) (AaZ X.K te):=by
 intro pins s σ H Q I h
 refine EL (Dx I hg hm boot_sorted ?_ (by decide) (by decide))
 refine callWith_builtin1 ?_ hs2 rfl
 rw [hs2]
 refine E_ ?_
 refine EL (Dx I hg2 hm2 boot_set ?_ (by decide) (by decide))
 refine callWith_type1 ?_ hs rfl
 rw [hs]
 refine E_ (thn (he pins s σ H _ I h) fun u s1 hq_=>?_)
 obtain ⟨x,H1,I1,r1,a,ns,hx,hq,h64,q⟩:=hq_
 subst hx
 cases r1
 refine FI ?_
 obtain ⟨its,rv,pl,hz⟩:=I1.list hq
 have hi:=Ft rv
 have hlen:its.length=ns.length:=hi.length
 refine Aak (items:=its.toArray) (ns:=ns) (I1.ok.hd hc) pl.isList (by simpa using hi) (by rw [BB,hlen];unfold scanBound;omega) fun h2 tk2 hS k2=>?_
 refine FI ?_
 have ez:its.toArray.size=ns.length:=by rw [BB];exact hlen
 rw [ez] at hS
 have l64:(firstMet (fun i=>ns.getD i 0) ns.length).length < 64:=by
  have:=firstMet_length_le (fun i=>ns.getD i 0) ns.length
  omega
 have lt2:s1.heap.objs.size < h2.objs.size:=by
  obtain ⟨o,_,_,_,_,ho,_⟩:=hS
  exact A' ho
 refine Aax (s:={ s1 with heap:=h2,toks:=tk2 }) hS (I1.ok.hd hc) l64 fun h3 tk3 d L c out ms i1 i2 i3 k3 gL hL=>?_
 have kp:∀b o,s1.heap.get? b=Aa o->h3.get? b=Aa o:=fun b o q=>k3 b o (k2 b o (A' q) q)
 have ge:s1.heap.objs.size<=L:=CK (EG lt2) gL
 refine ⟨.ref L,_,(I1.laid (t':=tk3) kp ge (show BD X.prog X.w _ h3 _ (.lst (ms.map V.int)) from ⟨?_,out.toList,c,N_ i1,hL⟩)).draw d,rfl,q L ms (QS i3 (i2.nodup_iff.mpr (Qw _ _))) (fun z=>i2.mem_iff.trans WX) (I1.hok.fresh ge)⟩
 rw [Aw,i2.length_eq,Fi]
 omega
end
end L2
namespace L2
open PySem PySem.Spec PyProof.Rows
section
variable {X:Cx} {pins:Ab (Ad × A4)} {σ:St} {H:Hp} {s:Ai} {h':AC}
theorem Inv.laidTurned {t':Ae} {fp:Ab Ad} {a:Ad} {o:HO} (I:Inv X pins σ H s) (k:∀b u,b ∉ fp->s.heap.get? b=Aa u->h'.get? b=Aa u) (hf:∀b∈fp,Fk X pins H b) (hp:s.heap.objs.size<=a)
 (new:BD X.prog X.w (upd H a o) h' a o):Inv X pins σ (upd H a o) { s with heap:=h',toks:=t' }:=by
 have nin:∀b u,H b=Aa u->b ∉ fp:=fun b u e z=>by rw [(hf b z).1] at e;cases e
 have hn:H a=Ag:=I.hok.fresh hp
 refine I.step (g':=s.gens) (d':=s.drawn) (ch:=fp) (fun b hb=>?_) (fun b o _ _ hc e _=>k b o hc e) (fun b o _ _ hc e _=>⟨o.slots,k b o hc e⟩)
  (fun b u _ q n=>by rw [AF (Bx (Cg (A' q) hp))];exact n)
  (fun b o hc e=>⟨o,k b o hc e⟩) (fun b xs q=>by rw [AF (DX q hn)];exact q) (fun b u xs q=>by rw [AF (DX q hn)];exact q) (fun b ps q=>⟨#[],by rw [AF (DX q hn),q];simp⟩) (fun m hm=>?_) (fun b u e=>?_) I.bare
 ·obtain ⟨_,f1,_,f3,f4,f5⟩:=hf b hb
  exact ⟨f3,f1,f4,f5⟩
 ·obtain ⟨o,es,ep,ho,r⟩:=hm
  exact ⟨o,es,ep,k _ o (fun z=>(hf _ z).2.1 rfl) ho,r⟩
 ·by_cases hb:b=a
  ·subst hb;rw [Ap] at e;cases e;exact new
  ·rw [AF hb] at e
   refine (I.hok b u e).stay (fun c v hc q=>k c v ?_ q) (fun c q=>by rw [AF (DX q hn)];exact q) fun c xs q=>by rw [AF (DX q hn)];exact q
   rcases hc with z | z
   ·rw [z];exact nin b u e
   ·exact nin c _ z
end
noncomputable def Ite (K:A6) (a:Ad):It :=
 ⟨fun i H=>∃xs x,SqL K H a xs/\xs[i]?=Aa x,fun i H x H'=>∃T y,x=.ref T/\H T=Ag/\H'=upd H T (.tup [.int (i:Ac),y])/\∀xs,SqL K H a xs->xs[i]?=Aa y,fun i H=>∃xs,SqL K H a xs/\xs.length<=i⟩
theorem Abl {P:AN} {w:AA} {K:A6} {es:Ab A3} {k:Ae} {pos:Pos} (a e it:Ad) (hne:e≠it) :
 Fn P w K (.Tuple es k pos) (Ite K a) [e,it] e (fun i h=>(∃old,Gx h e it (i:Ae) old)/\h.IsListIter it a i) where
 mem:=by simp
 obj:=fun i h st b hb=>by
  obtain ⟨⟨old,he⟩,o,e1,c,d⟩:=st
  rcases List.mem_cons.mp hb with z | z
  ·subst z
   exact ⟨_,he,fun v z=>by cases (show Kr _=Kq v from z)⟩
  ·have z':b=it:=by simpa using z
   subst z'
   exact ⟨o,e1,fun v z=>by rw [d] at z;cases z⟩
 keep:=fun i h h' st kk=>by
  obtain ⟨⟨old,he⟩,st⟩:=st
  exact ⟨⟨old,kk e (by simp) _ he⟩,st.at fun o q=>kk it (by simp) o q⟩
 item:=by
  intro X hP hw hK hc i pins s σ H E I hf st hg
  subst hP hw hK
  obtain ⟨xs,x,hq,hx⟩:=hg
  obtain ⟨its,rv,p,hz⟩:=I.list hq
  obtain ⟨u,hu,ru⟩:=rv.get hx
  obtain ⟨⟨old,he⟩,hit⟩:=st
  refine wpAny_pyNext_enum_item he hit p.isList (x:=u) (by simpa using hu) hne fun h1 ho hit1 hT hsz hk=>⟨_,rfl,?_⟩
  refine Pu ho fun h2 he2 sb=>?_
  have fr:H s.heap.objs.size=Ag:=I.hok.fresh (AB _)
  have lte:e < s.heap.objs.size:=A' he
  have lti:it < s.heap.objs.size:=by obtain ⟨o,q,_⟩:=id hit;exact A' q
  refine ⟨.ref s.heap.objs.size,upd H s.heap.objs.size (.tup [.int (i:Ac),x]),?_,rfl,⟨_,x,rfl,fr,rfl,fun ys hy=>by rw [I.list_inj hy hq];exact hx⟩,⟨⟨_,by simpa using he2⟩,hit1.at fun o q=>(sb.2 it (AM hne)).trans q⟩,fun b hb=>?_⟩
  ·refine I.laidTurned (fp:=[e,it]) (t':=s.toks+1) (fun b o hb q=>(sb.2 b (fun z=>hb (by simp [z]))).trans (hk b o (fun z=>hb (by simp [z])) (fun z=>hb (by simp [z])) q)) hf (AB _) ?_
   refine ⟨by show 2<=A5;decide,[.int i s.toks,u],.cons ⟨_,rfl⟩ (.cons ru .nil),⟨_,(sb.2 _ (DC lte)).trans hT,rfl,_,rfl⟩⟩
  ·rw [AF (fun z=>?_)]
   ·exact (hf b hb).1
   ·rcases List.mem_cons.mp hb with q | q
    ·rw [q] at z;exact A8 lte (by rw [z];exact CQ _)
    ·have q':b=it:=by simpa using q
     rw [q'] at z;exact A8 lti (by rw [z];exact CQ _)
 done:=by
  intro X hP hw hK hc i pins s σ H E I hf st hg
  subst hP hw hK
  obtain ⟨xs,hq,hx⟩:=hg
  obtain ⟨its,rv,p,hz⟩:=I.list hq
  obtain ⟨f0,f1,f2,f3,f4,f5⟩:=hf it (by simp)
  obtain ⟨⟨old,he⟩,hit⟩:=st
  have hl:=rv.length
  exact wpAny_pyNext_enum_end (I.ok.hd hc) he hit p.isList (by simp;omega) fun h' eb=>⟨rfl,I.turned (t':=s.toks) (fun b o hb e=>eb b o hb e) f0 f1 f3 f4 f5⟩
 self:=fun _ _ _ _ _ st h=>by
  obtain ⟨⟨old,he⟩,_⟩:=st
  exact JD he h
section
variable {X:Cx}
noncomputable def Xx (K:A6) (ta:TA):TI:=fun σ H R=>ta σ H fun vs H1=>∃a,vs=[.ref a]/\(∃xs,SqL K H1 a xs)/\R (Ite K a) H1
theorem YX {l:A3} {ta:TA} {p pos pt:Pos} {es:Ab A3} {k:Ae} (hg:Gl X "enumerate") (hm:X.mg "enumerate"=Ag) (ha:PA X [l] ta) (hs:Bh [l] X.env=[(As,eval l X.env)]:=by rfl) :
 PI X (.Tuple es k pt) (.Call (.Name "enumerate" p) [l] [] pos) (Xx X.K ta):=by
 intro pins s σ H R I h
 refine Call_ (Dx I hg hm Pd (Jq (thn (ha pos pins s σ H _ I h) fun us s1 ⟨vs,H1,I1,r1,q1⟩=>?_) hs rfl))
 obtain ⟨a,e,⟨xs,hq⟩,q⟩:=q1
 subst e
 cases r1 with
 | cons r rr =>
   cases rr
   cases r
   obtain ⟨its,rv,pl,hz⟩:=I1.list hq
   refine call_enumerate_list pl.isList fun h' he hit hsz hk=>?_
   refine JD (s:={ s1 with heap:=h' }) he ?_
   refine ⟨s1.heap.objs.size+1,[s1.heap.objs.size+1,s1.heap.objs.size],_,_,H1,rfl,I1.kept (t':=s1.toks) hk,Abl a _ _ (K8 _),⟨⟨_,he⟩,hit⟩,fun b hb=>?_,q⟩
   have ge:s1.heap.objs.size<=b:=by
    rcases List.mem_cons.mp hb with z | z
    ·rw [z];exact Ec _
    ·have z':b=s1.heap.objs.size:=by simpa using z
     rw [z'];exact AB _
   exact I1.fpOk ge (I1.hok.fresh ge)
end
theorem WZ {K:A6} {a:Ad} {xs:Ab V} {g:TG} {tb:TS} {D:CF} {σ:St} {H:Hp} (Pv:Ae->St->Hp->Prop) (h0:Pv 0 σ H) (hl:∀i σ H,i<=xs.length->Pv i σ H->SqL K H a xs)
 (hs:∀i x T σ H,xs[i]?=Aa x->Pv i σ H->H T=Ag->g (.ref T) σ (upd H T (.tup [.int (i:Ac),x])) fun σ2 H2=>tb { D with nx:=Pv (i+1),ct:=Pv (i+1),bk:=D.nx } σ2 H2) (hd:∀σ H,Pv xs.length σ H->D.nx σ H) :
 ∃W:Ae->Ae->St->Hp->Prop,(∃m,W 0 m σ H)/\∀i m σ H,W i m σ H ->
  ((Ite K a).stop i H/\D.nx σ H)\/((Ite K a).go i H/\∃N:St->Hp->Prop,(∀σ' H',N σ' H'->∃m',m' < m/\W (i+1) m' σ' H')/\∀x H',(Ite K a).yld i H x H'->g x σ H' fun σ2 H2=>tb { D with nx:=N,ct:=N,bk:=D.nx } σ2 H2):=by
 refine ⟨fun i m σ H=>m=xs.length - i/\i<=xs.length/\Pv i σ H,⟨xs.length,by simp,BQ _,h0⟩,?_⟩
 rintro i m σ H ⟨rfl,hi,p⟩
 have q:=hl i σ H hi p
 by_cases hlt:i < xs.length
 ·refine .inr ⟨⟨xs,xs[i],q,by simp [hlt]⟩,Pv (i+1),fun σ' H' p'=>⟨xs.length - (i+1),by omega,rfl,hlt,p'⟩,fun x H' y=>?_⟩
  obtain ⟨T,y,rfl,hT,rfl,hy⟩:=y
  exact hs i y T σ H (hy xs q) p hT
 ·have e:i=xs.length:=by omega
  subst e
  exact .inl ⟨⟨xs,q,AB _⟩,hd σ H p⟩
section
variable {X:Cx}
theorem Ud:∀{bs:Ab AR} {us:Ab Ah},AW (bs.map V.bl) us->us=bs.map EK
 | [],_,.nil=>rfl
 | _ :: _,_,.cons r rr=>by
   cases r
   rw [Ud rr]
   rfl
theorem Wx (bs:Ab AR):(Bz bs.length).all (fun i=>bs.getD i As)=bs.all id:=by
 rw [Jd,Ot,Ot]
 constructor
 ·intro h b hb
  obtain ⟨i,hi,rfl⟩:=List.mem_iff_getElem.mp hb
  have:=h i (List.mem_range.mpr hi)
  simpa [BP,hi] using this
 ·intro h i hi
  have hi':=List.mem_range.mp hi
  have:=h _ (G1 hi')
  simpa [BP,hi'] using this
theorem Abi {P:AN} {w:AA} {A:AV} {bs:Ab AR}:TruthOf P w A (fun i v=>(bs.map EK).toArray[i]?=Aa v) (fun i=>bs.getD i As):=by
 intro i v s Q E hP hQ
 have hP':(bs.map EK)[i]?=Aa v:=by simpa using hP
 rw [Bm] at hP'
 cases e:bs[i]? with
 | none=>rw [e] at hP';cases hP'
 | some b =>
   rw [e] at hP'
   have:EK b=v:=Bp hP'
   subst this
   refine Hz ?_
   have e2:bs.getD i As=b:=by rw [BP,e];rfl
   dsimp only at hQ
   rw [e2] at hQ
   exact hQ
theorem W4 (hc:X.calm=Af) {K:A6} (hK:X.K=K:=by rfl):Dk X (.builtin "all") (fun xs H Q=>∃(a:Ad) (bs:Ab AR),xs=[.ref a]/\SqL K H a (bs.map V.bl)/\Q (.bl (bs.all id)) H):=by
 subst hK
 intro pins s σ H xs us Q I r h
 obtain ⟨a,bs,rfl,hq,q⟩:=h
 obtain ⟨u,rfl,rx⟩:=EY r
 cases rx
 obtain ⟨its,rv,pl,hz⟩:=I.list hq
 have ei:=Ud rv
 subst ei
 have lt:a < s.heap.objs.size:=by obtain ⟨o,q,_⟩:=pl.isList;exact A' q
 refine call_all_walk (JE pl.isList ?_)
 refine ⟨_,_,_,_,_,_,_,rfl,Walks.list (A:=X.A.in1) (I.ok.hd hc) s.heap.objs.size a (Bx lt) (bs.map EK).toArray,⟨⟨_,BE _ rfl,rfl,rfl⟩,pl.isList.at fun o q=>Bk _ q⟩,Abi,fun h' tk hk=>?_⟩
 rw [BB,Aw,Wx]
 exact ⟨.bl _,H,I.kept (t':=tk) fun b o q=>hk b o (by simpa using Bx (A' q)) (Bk _ q),rfl,q⟩
end
end L2
namespace L2
open PySem PySem.Spec PyProof.Rows
noncomputable def Kj (n:Ae) (wi:TI) (g:TG) (tt:TT) (te:TE):TE:=fun σ H Q=>wi σ H fun J H1=>∀D,H1 D=Ag->∃W:Ae->Ae->Ab V->Hp->Prop,(∃m,W 0 m [] (upd H1 D (.lst [])))/\∀i m ys H2,W i m ys H2 ->
 H2 D=Aa (.lst ys)/\((J.stop i H2/\Q (.ref D) H2)\/(J.go i H2/\ys.length < A5/\∀x H3,J.yld i H2 x H3->∀os:St,os.length=n->g x (σ++os) H3 fun σ4 H4=>(∃os':St,σ4=σ++os'/\os'.length=n)/\tt σ4 H4 fun b H5=>if b=Af then te σ4 H5 fun y H6=>H6 D=Aa (.lst ys)/\∃m',m' < m/\W (i+1) m' (ys++[y]) (upd H6 D (.lst (ys++[y])))
  else ∃m',m' < m/\W (i+1) m' ys H5))
structure E1 (N Nc:Ab Ak) (xs:Ab Ak) (sc fsc:B1):Prop where
 kind:sc.kind=.function
 cell:∀y∈sc.names,y.2≠.cell
 nm:∀y∈sc.names,y.2=.local->sc.names.lookup y.1=Aa .local
 own:∀x∈xs,sc.names.lookup x=Aa .local
 fr:∀y∈sc.names,y.2=.free->fsc.names.lookup y.1=Aa .cell\/fsc.names.lookup y.1=Aa .free
 len:Nc.length=N.length+xs.length
 nd:Nc.Nodup
 last:Nc.drop N.length=xs
 slot:((Bz N.length).all fun i=>match Nc[i]? with
  | some y=>(match sc.names.lookup y with | some .free=>N[i]? == Aa y | some .local=>As | some .cell=>As | _=>Af)
  | none=>Af)=Af
theorem E1.at {N Nc:Ab Ak} {xs:Ab Ak} {sc fsc:B1} (C:E1 N Nc xs sc fsc) {i:Ae} {y:Ak} (hi:i < N.length) (h:Nc[i]?=Aa y):sc.names.lookup y≠Aa .local/\sc.names.lookup y≠Aa .cell/\(sc.names.lookup y=Aa .free->N[i]?=Aa y):=by
 have q:=List.all_eq_true.mp C.slot i (List.mem_range.mpr hi)
 rw [h] at q
 dsimp only at q
 cases e:sc.names.lookup y with
 | none=>exact ⟨fun z=>(nomatch z),fun z=>(nomatch z),fun z=>(nomatch z)⟩
 | some k =>
   rw [e] at q
   cases k with
   | «local»=>exact A8 (show As=Af from q) B8
   | cell=>exact A8 (show As=Af from q) B8
   | free=>exact ⟨fun z=>(nomatch z),fun z=>(nomatch z),fun _=>by simpa using q⟩
   | _=>exact ⟨fun z=>(nomatch z),fun z=>(nomatch z),fun z=>(nomatch z)⟩
theorem HS {X:Cx} {N Nc xs:Ab Ak} {sc fsc:B1} {cl:Ab (Ak × Ad)} {s:Ai} {H:Hp} {ex:Ab Ad} {x:Ak} {px:Pos} {j n:Ae} (cn:E1 N Nc xs sc fsc) (hj:xs[j]?=Aa x) (hn:n=N.length+j):PG (X.inComp Nc sc cl s H ex) (.Name x px) (CU n):=by
 have own:(relabel sc X.env).names.lookup x=Aa .local:=by
  have e:=Nv X.env sc.names x
  rw [cn.own x (Br hj)] at e
  exact e
 refine Ci (X:=X.inComp Nc sc cl s H ex) cn.nd ?_ (.inl own) (.inr own)
 show Nc[n]?=Aa x
 rw [hn,<- L',cn.last]
 exact hj
theorem XX {prog:AN} {w:AA} {A:AV} {R:Jv->Ai->Prop} {s:Ai} {elt tg iter:A3} {ifs:Ab A3} {scope:B1} {pos:Pos} {it acc:Ah} {env:BK} (I:Ae->Ai->Prop)
 (turn:∀n s,I n s->Ar (A1 prog w) A (pyNext it) (fun r s₁=>match r with
  | none=>R (.ok .next) s₁
  | some v=>Ar (A1 prog w) A (letOwnedTupleGo tg it v) (fun _ z=>Ar (A1 prog w) A (assign tg env v) (fun _ s₂ =>
   Ar (A1 prog w) A (forIn ifs Af fun c r=>if r=Af then do let ok <- isTrue c env (eval c env);pure (Fa ok) else pure (Fa r)) (fun ok s₃ =>
    if ok=Af then Ar (A1 prog w) A (eval elt env) (fun x s₄=>Ar (A1 prog w) A (call (.builtin "list.append") [acc,x]) (fun _ s₅=>∃m,m < n/\I m s₅) (fun _ _=>B5) s₄) (fun _ _=>B5) s₃
    else ∃m,m < n/\I m s₃) (fun _ _=>B5) s₂) (fun _ _=>B5) z) (fun _ _=>B5) s₁) (fun _ _=>B5) s)
 (n:Ae) (h:I n s):codeAny (A1 prog w) A (.compLoop (.ListComp elt [⟨tg,iter,ifs,0⟩] scope pos) 0 it acc env) R s:=by
 refine codeAny_loop rfl I (fun k z y=>?_) n h
 show Ar _ A ((compTurn (.ListComp elt [⟨tg,iter,ifs,0⟩] scope pos) 0 it acc env).onRaise fun x=>do noteFrame x env;theTreesLotGoes x) _ _ z
 refine wpAny_noted ?_
 rw [compTurn_list]
 refine Al (MG (Al (E9 (turn k z y) fun r s₁ q1=>?_)))
 cases r with
 | none=>exact A0 q1
 | some v =>
   refine Al (E9 q1 fun _ z q2=>Al (E9 q2 fun _ s₂ q3=>Al (E9 q3 fun ok s₃ q4=>?_)))
   cases ok with
   | false=>exact A0 ⟨rfl,q4⟩
   | true=>exact Al (Al (E9 q4 fun x s₄ q5=>Al (E9 q5 fun _ s₅ q6=>A0 (A0 ⟨rfl,q6⟩))))
noncomputable def Cx.inCompG (X:Cx) (Nc:Ab Ak) (sc:B1) (fn:Ak->AR) (ce:Ae->Ab (Ak × Ad)->Ab (Ak × Ad)) (cl:Ab (Ak × Ad)) (s:Ai) (H:Hp) (ex:Ab Ad):Cx :=
 { X with N:=Nc,s₀:=s,H₀:=H,env:=compEnvC sc (ce s.heap.objs.size cl) s.heap.objs.size X.env,outer:=X.stack,stack:=X.stack,ex:=ex,fn:=fn,pn:=[],xe:=fun _ _=>B5 }
noncomputable def K_ (n:Ae) (g:TG) (tt:TT) (te:TE) (σ:St) (Q:VK) (J:It) (H1:Hp):Prop:=∀D,H1 D=Ag->∃W:Ae->Ae->Ab V->Hp->Prop,(∃m,W 0 m [] (upd H1 D (.lst [])))/\∀i m ys H2,W i m ys H2 ->
 H2 D=Aa (.lst ys)/\((J.stop i H2/\Q (.ref D) H2)\/(J.go i H2/\ys.length < A5/\∀x H3,J.yld i H2 x H3->∀os:St,os.length=n->g x (σ++os) H3 fun σ4 H4=>(∃os':St,σ4=σ++os'/\os'.length=n)/\tt σ4 H4 fun b H5=>if b=Af then te σ4 H5 fun y H6=>H6 D=Aa (.lst ys)/\∃m',m' < m/\W (i+1) m' (ys++[y]) (upd H6 D (.lst (ys++[y])))
  else ∃m',m' < m/\W (i+1) m' ys H5))
structure HA (N Nc:Ab Ak) (n:Ae) (sc fsc:B1) (fn:Ak->AR) (ce:Ae->Ab (Ak × Ad)->Ab (Ak × Ad)):Prop where
 kind:sc.kind=.function
 nm:∀y∈sc.names,y.2=.local->sc.names.lookup y.1=Aa .local
 cell:∀y,sc.names.lookup y=Aa .cell↔fn y=Af
 fr:∀y∈sc.names,y.2=.free->fsc.names.lookup y.1=Aa .cell\/fsc.names.lookup y.1=Aa .free
 len:Nc.length=N.length+n
 slot:∀{i:Ae} {y:Ak},i < N.length->Nc[i]?=Aa y->sc.names.lookup y≠Aa .local/\sc.names.lookup y≠Aa .cell/\(sc.names.lookup y=Aa .free->N[i]?=Aa y)
 new:∀{M:DR} {A:AV} {E:Ah->Ai->Prop} {s:Ai} {gl:Ad} {cl:Ab (Ak × Ad)} {qual:Ak} {outer:BK} {Q:BK->Ai->Prop},
  (∀h₁:AC,h₁.Ns s.heap.objs.size (fun _=>Ag)->(∀b o,s.heap.get? b=Aa o->h₁.get? b=Aa o)->(∀y c,fn y=Af->(ce s.heap.objs.size cl).lookup y=Aa c->h₁.IsCell c Ag)->Q (newEnv sc s.heap.objs.size gl (ce s.heap.objs.size cl) qual Ag .none (Aa outer) builtinsNs) { s with heap:=h₁ }) ->
  Ar M A (newFunctionEnv sc gl cl [] qual Ag .none (Aa outer)) Q E s
 d1:∀{k:Ae} {cl:Ab (Ak × Ad)} {y:Ak} {c:Ad},(ce k cl).lookup y=Aa c->(fn y=Af/\k < c)\/(fn y=As/\cl.lookup y=Aa c)
 d2:∀{k:Ae} {cl:Ab (Ak × Ad)} {y:Ak},fn y=As->(ce k cl).lookup y=cl.lookup y
 d3:∀{k:Ae} {cl:Ab (Ak × Ad)} {y:Ak},fn y=Af->∃c,(ce k cl).lookup y=Aa c
 d4:∀{y z:Ak},fn y=Af->fn z=Af->y=z
section
variable {X:Cx} {elt iter:A3} {tg:A3} {g:TG} {pos:Pos} {ifs:Ab A3} {sc fsc:B1} {N Nc:Ab Ak} {wi:TI} {tt:TT} {te:TE} {k0:Ae} {fn:Ak->AR} {ce:Ae->Ab (Ak × Ad)->Ab (Ak × Ad)} {Bd:St->VK->It->Hp->Prop}
theorem Qf (hE:X.env.scope=fsc) (hXN:X.N=N) (cn:HA N Nc k0 sc fsc fn ce) (hc:X.calm=Af)
 (hg:∀cl s H ex,PG (X.inCompG Nc sc fn ce cl s H ex) tg g) (ht:∀cl s H ex,Ek (X.inCompG Nc sc fn ce cl s H ex) ifs tt) (he:∀cl s H ex,PE (X.inCompG Nc sc fn ce cl s H ex) elt te)
 {cl:Ab (Ak × Ad)} (clS:∀y c,cl.lookup y=Aa c->X.env.cells.lookup y=Aa c) (clH:∀y∈sc.names,y.2=.free->∃c,cl.lookup y.1=Aa c)
 {pins:Ab (Ad × A4)} {σ:St} {H2:Hp} {s2:Ai} {it:Ad} {fp:Ab Ad} {tn:Ae->AC->Prop} {J:It} {Q:VK} {E:Ah->Ai->Prop}
 (I2:Inv X pins σ H2 s2) (T:Fn X.prog X.w X.K tg J fp it tn) (st2:tn 0 s2.heap) (f2:∀b∈fp,Fk X pins H2 b)
 (h2:K_ k0 g tt te σ Q J H2) :
 Ar (A1 X.prog X.w) X.A (newList []) (fun acc s₃=>Ar (A1 X.prog X.w) X.A (newFunctionEnv sc X.env.globals cl [] X.env.qual Ag .none (Aa X.env)) (fun cenv s₄ =>
  codeAny (A1 X.prog X.w) X.A (.compStart (.ListComp elt [⟨tg,iter,ifs,0⟩] sc pos) 0 (.ref it) acc { cenv with scope:=relabel sc X.env })
   (fun r s'=>r=.ok .next/\∃D H',acc=.ref D/\Inv X pins σ H' s'/\Q (.ref D) H'/\MJ X pins H' cenv.locals/\∃m,s'.heap.Ns cenv.locals m) s₄) E s₃) E s2:=by
 refine Ez (cn.new fun h₁ hns₁ old hcell₁=>?_)
 dsimp only at hns₁ old hcell₁ ⊢
 have hD:H2 s2.heap.objs.size=Ag:=I2.hok.fresh (AB _)
 obtain ⟨W,⟨m0,w0⟩,turn⟩:=h2 s2.heap.objs.size hD
 have I3:Inv X pins σ (upd H2 s2.heap.objs.size (.lst [])) { s2 with heap:=s2.heap.push { cls:=.type "list",dict:=Ag,data:=.seq ([]:Ab Ah).toArray } } :=
  I2.laid (t':=s2.toks) (fun b u e=>Bk _ e) (AB _) ⟨BQ _,[],0,.nil,BE _ rfl⟩
 generalize hs3:({ s2 with heap:=s2.heap.push { cls:=.type "list",dict:=Ag,data:=.seq ([]:Ab Ah).toArray } }:Ai)=s3 at I3
 have eh:s3.heap=s2.heap.push { cls:=.type "list",dict:=Ag,data:=.seq ([]:Ab Ah).toArray }:=by rw [<- hs3]
 have e2:({ s2 with heap:=h₁ }:Ai)={ s3 with heap:=h₁,toks:=s3.toks }:=by rw [<- hs3]
 generalize hH3:upd H2 s2.heap.objs.size (.lst [])=H3 at I3 w0
 rw [<- eh] at hns₁ old hcell₁ ⊢
 rw [e2]
 have below2:∀b,b∈fp->b < s3.heap.objs.size:=fun b hb=>by
  obtain ⟨o,e,_⟩:=T.obj _ _ st2 b hb
  have:s2.heap.objs.size<=s3.heap.objs.size:=by rw [eh,Er];exact Ec _
  exact Cg (A' e) this
 have old2:∀b o,s2.heap.get? b=Aa o->s3.heap.get? b=Aa o:=fun b o e=>by rw [eh];exact Bk _ e
 have fpFree:∀b∈fp,H3 b=Ag:=fun b hb=>by
  rw [<- hH3,AF (fun z=>?_)]
  ·exact (f2 b hb).1
  ·obtain ⟨o,e,_⟩:=T.obj _ _ st2 b hb
   have:=A' e
   rw [z] at this
   exact CQ _ this
 have rl:∀y,(relabel sc X.env).names.lookup y=(sc.names.lookup y).map fun k=>if (k == FR && X.env.scope.kind == .function && X.env.kindOf y == Aa .cell) then Hk else k:=fun y=>Nv X.env sc.names y
 have freeOf:∀y,sc.names.lookup y=Aa .free->∃c,cl.lookup y=Aa c:=fun y e=>clH (y,.free) (Ff e) rfl
 have isFree:∀y,((relabel sc X.env).names.lookup y=Aa .cell\/(relabel sc X.env).names.lookup y=Aa .free)->sc.names.lookup y=Aa .free\/fn y=Af:=fun y h=>by
  rw [rl y] at h
  cases e:sc.names.lookup y with
  | none=>rw [e] at h;rcases h with z | z <;> exact A8 z (by simp)
  | some k =>
    rw [e] at h
    cases k with
    | free=>exact .inl rfl
    | cell=>exact .inr ((cn.cell y).mp e)
    | _=>rcases h with z | z <;> exact A8 z (by simp)
 have ltC:∀y c,cl.lookup y=Aa c->c < s3.heap.objs.size:=fun y c e=>by
  obtain ⟨v,q⟩:=I3.cell y c (clS y c e)
  exact q.lt
 have exC:∀b∈fp,∀y c,(ce s3.heap.objs.size cl).lookup y=Aa c->c≠b:=fun b hb y c h z=>by
  rcases cn.d1 h with ⟨_,e2⟩ | ⟨_,e2⟩
  ·exact CQ _ (OE (below2 b hb) (z ▸ e2))
  ·exact (f2 b hb).2.2.2.2.1 y c (clS y c e2) z
 have exOk:∀b∈fp,b≠s3.heap.objs.size/\b ∉ frs X.stack:=fun b hb=>by
  obtain ⟨g0,g1,g2,g3,g4,g5⟩:=f2 b hb
  refine ⟨Bx (below2 b hb),fun z=>?_⟩
  rcases List.mem_cons.mp (I2.stkSub b z) with z | z
  ·exact g1 z
  ·exact g2 z
 have hCnew:X.s₀.heap.objs.size<=s3.heap.objs.size:=I3.sz
 have hCcell:∀y c,X.env.cells.lookup y=Aa c->c≠s3.heap.objs.size:=fun y c e z=>by
  obtain ⟨v,q⟩:=I3.cell y c e
  have:=q.lt
  rw [z] at this
  exact CQ _ this
 have hCpin:∀p∈X.pn++pins,p.1≠s3.heap.objs.size:=fun p hp z=>by
  have:=A' (I3.pin p hp).1
  rw [z] at this
  exact CQ _ this
 have okc:(X.inCompG Nc sc fn ce cl s3 H3 fp).Ok:=by
  refine ⟨I3.ok.mod,cn.kind,I3.ok.glob,I3.ok.blt,AB _,fun y z c h1 h2=>?_,fun y hy=>?_,fun y c hf e=>?_,I3.ok.hd,I3.ok.frames,.inl rfl,
   fun b hb=>⟨(exOk b hb).1,exC b hb⟩,fun b o e=>I3.bs b o e,CK I3.ok.bsz I3.sz,fun b o e hb=>?_,fun b hb=>(exOk b hb).2,I3.stack,I3.stkFree⟩
  ·rcases cn.d1 h1 with ⟨e1,k1⟩ | ⟨e1,k1⟩ <;> rcases cn.d1 h2 with ⟨f1,k2⟩ | ⟨f1,k2⟩
   ·exact cn.d4 e1 f1
   ·exact A8 (ltC z c k2) (Nat.lt_asymm k1)
   ·exact A8 (ltC y c k1) (Nat.lt_asymm k2)
   ·exact I3.ok.inj y z c (clS y c k1) (clS z c k2)
  ·cases e:fn y with
   | true=>exact cn.d3 e
   | false =>
     rcases isFree y hy with f | f
     ·obtain ⟨c,hc⟩:=freeOf y f
      exact ⟨c,(cn.d2 e).trans hc⟩
     ·exact A8 f (by rw [e];exact B8)
  ·rcases cn.d1 e with ⟨_,k⟩ | ⟨f,_⟩
   ·exact EG k
   ·exact A8 (f.symm.trans hf) B8
  obtain ⟨g0,g1,g2,g3,g4,g5⟩:=f2 b hb
  rcases g3 with z | z
  ·exact I3.ok.noex b o e z
  ·exact A8 (A' (I3.ok.bs b o e).1) (Nat.not_lt.mpr z)
 have hlen:σ.length=N.length:=by rw [I3.len,hXN]
 have Ic:Inv (X.inCompG Nc sc fn ce cl s3 H3 fp) [] (σ++Ct k0 Ag) H3 { s3 with heap:=h₁,toks:=s3.toks }:=by
  refine ⟨okc,rfl,I3.bare,Un.kept old,⟨_,hns₁,fun i y v h1 h2 h3=>?_⟩,fun y c e=>?_,I3.hok.fresh (AB _),fun y c e=>?_,fun p hp=>A8 (show p∈([]:Ab (Ad × A4)) from hp) (by simp),I3.hok.kept old,?_⟩
  ·have hi:i < σ.length:=by
    by_cases hi:i < σ.length
    ·exact hi
    ·rw [Jj (Nat.not_lt.mp hi)] at h2
     rw [Oz] at h2
     split at h2 <;> cases h2
   rw [K6 hi] at h2
   have hi':i < N.length:=by rw [<- hlen];exact hi
   obtain ⟨n1,n2,n3⟩:=cn.slot hi' h1
   have hf:sc.names.lookup y=Aa .free:=by
    rcases h3 with z | z
    ·exfalso
     have z':(relabel sc X.env).names.lookup y=Aa .local:=z
     rw [rl y] at z'
     cases e:sc.names.lookup y with
     | none=>rw [e] at z';simp at z'
     | some k =>
       rw [e] at z'
       cases k with
       | «local»=>exact n1 e
       | cell=>exact n2 e
       | free =>
         simp only [FS,Vm] at z'
         split at z' <;> cases z'
       | _=>simp at z'
    ·exact (isFree y z).resolve_right fun f=>n2 ((cn.cell y).mpr f)
   have nf:fn y=As:=by
    cases e:fn y with
    | false=>rfl
    | true=>exact A8 ((cn.cell y).mpr e) n2
   have hN:X.N[i]?=Aa y:=by rw [hXN];exact n3 hf
   obtain ⟨m,hn,hl⟩:=I3.loc
   have hv:fsc.names.lookup y=Aa .cell\/fsc.names.lookup y=Aa .free:=cn.fr (y,.free) (Ff hf) rfl
   have hv':X.env.scope.names.lookup y=Aa .cell\/X.env.scope.names.lookup y=Aa .free:=by rw [hE];exact hv
   obtain ⟨u,ru,lk⟩:=hl i y v hN h2 (.inr hv')
   refine ⟨u,ru,.inr ⟨?_,?_⟩⟩
   ·show (relabel sc X.env).names.lookup y=Aa .cell\/(relabel sc X.env).names.lookup y=Aa .free
    rw [rl y,hf]
    simp only [FS,Vm]
    split
    ·exact .inl rfl
    ·exact .inr rfl
   ·rcases lk with ⟨kl,_⟩ | ⟨_,c,hc,hcell⟩
    ·exfalso
     have kl':X.env.scope.names.lookup y=Aa .local:=kl
     rw [kl'] at hv'
     rcases hv' with z | z <;> cases z
    ·obtain ⟨d,hd⟩:=freeOf y hf
     have ed:=clS y d hd
     rw [hc] at ed
     cases ed
     exact ⟨c,(cn.d2 nf).trans hd,hcell.keeps old⟩
  ·rcases cn.d1 e with ⟨f,_⟩ | ⟨_,k⟩
   ·exact ⟨Ag,hcell₁ y c f e⟩
   ·obtain ⟨v,q⟩:=I3.cell y c (clS y c k)
    exact ⟨v,q.keeps old⟩
  ·rcases cn.d1 e with ⟨_,k⟩ | ⟨_,k⟩
   ·exact I3.hok.fresh (EG k)
   ·exact I3.freeC y c (clS y c k)
  ·show (σ++Ct k0 Ag).length=Nc.length
   rw [B9,hlen,cn.len,Fc]
 have stc:tn 0 ({ s3 with heap:=h₁,toks:=s3.toks }:Ai).heap:=T.keep _ _ _ st2 fun b _ o e=>old b o (old2 b o e)
 have fpc:∀{pins':Ab (Ad × A4)} {H':Hp},pins'=[]->(∀b∈fp,H' b=Ag)->∀b∈fp,Fk (X.inCompG Nc sc fn ce cl s3 H3 fp) pins' H' b:=fun {pins' H'} hp hn b hb=>by
  subst hp
  exact ⟨hn b hb,(exOk b hb).1,(exOk b hb).2,.inl hb,exC b hb,fun p hp=>A8 (show p∈([]:Ab (Ad × A4)) from hp) (by simp)⟩
 have loop:∀s₄:Ai,s₄={ s3 with heap:=h₁,toks:=s3.toks } ->
  codeAny (A1 X.prog X.w) X.A (.compLoop (.ListComp elt [⟨tg,iter,ifs,0⟩] sc pos) 0 (.ref it) (.ref s2.heap.objs.size) (compEnvC sc (ce s3.heap.objs.size cl) s3.heap.objs.size X.env))
   (fun r s'=>r=.ok .next/\∃D H',(A_ s2.heap.objs.size)=.ref D/\Inv X pins σ H' s'/\Q (.ref D) H'/\MJ X pins H' s3.heap.objs.size/\∃m,s'.heap.Ns s3.heap.objs.size m) s₄:=by
  rintro s₄ rfl
  refine XX (fun n s'=>∃(i:Ae) (o:St) (H':Hp) (ys:Ab V),o.length=k0/\Inv (X.inCompG Nc sc fn ce cl s3 H3 fp) [] (σ++o) H' s'/\tn i s'.heap/\(∀b∈fp,H' b=Ag)/\W i n ys H') ?_ m0 ⟨0,_,H3,[],Fc ..,Ic,stc,fpFree,w0⟩
  rintro n s' ⟨i,o,H',ys,lo,I',st',fr',w'⟩
  obtain ⟨hDl,tw⟩:=turn i n ys H' w'
  rcases tw with ⟨stop,q⟩ | ⟨go,hz,step⟩
  ·
   refine thn (T.done (X.inCompG Nc sc fn ce cl s3 H3 fp) rfl rfl rfl hc i [] s' _ H' _ I' (fpc rfl fr') st' stop) fun r s5 hq_=>?_
   obtain ⟨hr,I5⟩:=hq_
   subst hr
   have Ix:Inv X pins σ H' s5:=I3.call' (ch:=fp) I5.os I5.base I5.hok I5.bare fun b hb=>by
    obtain ⟨g0,g1,g2,g3,g4,g5⟩:=f2 b hb
    exact ⟨g3,g1,g4,g5⟩
   have hCf:H' s3.heap.objs.size=Ag:=I5.free
   obtain ⟨m,hn,_⟩:=I5.loc
   exact ⟨rfl,s2.heap.objs.size,H',rfl,Ix,q,⟨hCf,fun z=>CQ _ (by have:=I3.lt;rw [<- z] at this;exact this),hCnew,hCcell,hCpin⟩,m,hn⟩
  ·
   refine thn (T.item (X.inCompG Nc sc fn ce cl s3 H3 fp) rfl rfl rfl hc i [] s' _ H' _ I' (fpc rfl fr') st' go) fun r s5 hq_=>?_
   obtain ⟨u,hr,h4⟩:=hq_
   subst hr
   dsimp only
   refine E9 h4 fun _ s6 hq_=>?_
   obtain ⟨xv,H5,I5,r5,y5,st5,fr5⟩:=hq_
   have I5':=I5.pinned (fpc rfl fr5) (T.obj _ _ st5)
   have again:∀{o':St} {H7:Hp} {s7:Ai} {m':Ae} {ys':Ab V},o'.length=k0->Inv (X.inCompG Nc sc fn ce cl s3 H3 fp) ([]++Kb fp s6.heap) (σ++o') H7 s7->m' < n->W (i+1) m' ys' H7 ->
    ∃m,m < n/\∃(i:Ae) (o:St) (H':Hp) (ys:Ab V),o.length=k0/\Inv (X.inCompG Nc sc fn ce cl s3 H3 fp) [] (σ++o) H' s7/\tn i s7.heap/\(∀b∈fp,H' b=Ag)/\W i m ys H':=fun {o' H7 s7 m' ys'} lo' I7 hm w7=>by
    refine ⟨m',hm,i+1,o',H7,ys',lo',I7.unpinned,T.keep _ _ _ st5 fun b hb o e=>(I7.pin (b,o) (Ea _ (Ea _ (Lm hb e)))).1,fun b hb=>?_,w7⟩
    obtain ⟨o',e,d⟩:=T.obj _ _ st5 b hb
    exact (I7.pin (b,o') (Ea _ (Ea _ (Lm hb e)))).2.1
   refine E9 (hg cl s3 H3 fp _ s6 _ H5 xv u _ I5' r5 (step xv _ y5 o lo)) fun _ s7 hq_=>?_
   obtain ⟨σ7,H7,I7,⟨o7,e7,lo7⟩,q7⟩:=hq_
   subst e7
   refine E9 (ht cl s3 H3 fp _ s7 _ _ _ I7 q7) fun b s8 hq_=>?_
   obtain ⟨H8,I8,q8⟩:=hq_
   cases b with
   | false =>
     rw [Ao B8] at q8 ⊢
     obtain ⟨m',hm,w8⟩:=q8
     exact again lo7 I8 hm w8
   | true =>
     rw [At rfl] at q8 ⊢
     refine E9 (he cl s3 H3 fp _ s8 _ H8 _ I8 q8) fun y s9 hq_=>?_
     obtain ⟨yv,H9,I9,r9,hD9,m',hm,w9⟩:=hq_
     refine E9 (EN _ s9 _ H9 (.ref s2.heap.objs.size) [yv] (.ref s2.heap.objs.size) [y] (fun v H=>v=.non/\H=upd H9 s2.heap.objs.size (.lst (ys++[yv]))) I9 rfl (.cons r9 .nil) ⟨_,ys,yv,rfl,rfl,hD9,hz,rfl,rfl⟩) fun _ s10 hq_=>?_
     obtain ⟨v10,H10,I10,r10,e10,e11⟩:=hq_
     subst e11
     exact again lo7 I10 hm w9
 exact codeAny_compStart_list (loop _ rfl) (T.self _ 0 _ _ _ stc (loop _ rfl))
theorem Qg (I:∀y,(X.env.kindOf y=Aa .cell\/X.env.kindOf y=Aa .free)->∃c,X.env.cells.lookup y=Aa c) (hE:X.env.scope=fsc) (cn:HA N Nc k0 sc fsc fn ce):∀y∈sc.names,y.2=.free->∃c,X.env.cells.lookup y.1=Aa c:=fun y hy hf=>by
 refine I y.1 ?_
 show X.env.scope.names.lookup y.1=Aa .cell\/X.env.scope.names.lookup y.1=Aa .free
 rw [hE]
 exact cn.fr y hy hf
theorem Rs (hE:X.env.scope=fsc) (hXN:X.N=N) (cn:HA N Nc k0 sc fsc fn ce) (hc:X.calm=Af) (hi:PI X tg iter wi) (hb:∀{σ:St} {Q:VK} {J:It} {H1:Hp},σ.length=N.length->Bd σ Q J H1->K_ k0 g tt te σ Q J H1)
 (hg:∀cl s H ex,PG (X.inCompG Nc sc fn ce cl s H ex) tg g) (ht:∀cl s H ex,Ek (X.inCompG Nc sc fn ce cl s H ex) ifs tt) (he:∀cl s H ex,PE (X.inCompG Nc sc fn ce cl s H ex) elt te)
 (hs:∀v,Fg iter X.env v=pure v:=by intro _;rfl):PE X (.ListComp elt [⟨tg,iter,ifs,0⟩] sc pos) (fun σ H Q=>wi σ H (Bd σ Q)):=by
 intro pins s σ H Q I h
 obtain ⟨cl,hcl,clS,clH⟩:=Qb (env:=X.env) (sc:=sc) (Qg I.ok.has hE cn)
 rw [eval_ListComp]
 refine We (use:=Ag) rfl hs hcl cn.kind cn.nm (thn (hi pins s σ H _ I h) fun v s1 h1=>thn h1 fun itv s2 h2=>?_)
 obtain ⟨it,fp,tn,J,H2,rfl,I2,T,st2,f2,h2⟩:=h2
 refine thn (Qf (pos:=pos) (iter:=iter) hE hXN cn hc hg ht he clS clH I2 T st2 f2 (hb (by rw [I2.len,hXN]) h2)) fun acc s3 h3=>thn h3 fun cenv s4 h4=>Eg h4 fun r s' h5=>?_
 obtain ⟨rfl,D,H',rfl,I',q,cloc,m,hn⟩:=h5
 exact ⟨m,hn,fun h' k=>⟨.ref D,H',I'.sameBut cloc k,rfl,q⟩⟩
theorem RD {j:Ae} {y:Ak} {py spos:Pos} (hE:X.env.scope=fsc) (hXN:X.N=N) (cn:HA N Nc k0 sc fsc fn ce) (hc:X.calm=Af) (hnd:X.N.Nodup) (hj:X.N[j]?=Aa y) (hy:X.env.scope.names.lookup y=Aa .local) (hi:PI X tg iter wi) (hb:∀{σ:St} {Q:VK} {J:It} {H1:Hp},σ.length=N.length->Bd σ Q J H1->K_ k0 g tt te σ Q J H1)
 (hg:∀cl s H ex,PG (X.inCompG Nc sc fn ce cl s H ex) tg g) (ht:∀cl s H ex,Ek (X.inCompG Nc sc fn ce cl s H ex) ifs tt) (he:∀cl s H ex,PE (X.inCompG Nc sc fn ce cl s H ex) elt te)
 (hsw:swapsWith (.ListComp elt [⟨tg,iter,ifs,0⟩] sc pos) (Aa (.Name y py)) spos.line X.env=pure Af)
 (hs:∀v,Fg iter X.env v=pure v:=by intro _;rfl):PS X (.Assign [.Name y py] (.ListComp elt [⟨tg,iter,ifs,0⟩] sc pos) spos) (IY (fun σ H Q=>wi σ H (Bd σ Q)) (CU j)):=by
 intro pins s σ H D I h
 obtain ⟨cl,hcl,clS,clH⟩:=Qb (env:=X.env) (sc:=sc) (Qg I.ok.has hE cn)
 rw [exec_Assign_Name_used _ _ _ _ hsw]
 refine Al (MG (Al ?_))
 show Ar _ X.A (do let _ <- comprehension (.ListComp elt [⟨tg,iter,ifs,0⟩] sc pos) sc X.env _ (newList []) As (eval iter X.env) (Aa (assign (.Name y py) X.env))) _ _ s
 refine Al (thn (We (Q:=fun _ s'=>SP X pins D .next s') rfl hs hcl cn.kind cn.nm (thn (hi pins s σ H _ I h) fun v s1 h1=>thn h1 fun itv s2 h2=>?_)) fun _ s' hq=>A0 (A0 hq))
 obtain ⟨it,fp,tn,J,H2,rfl,I2,T,st2,f2,h2⟩:=h2
 refine thn (Qf (pos:=pos) (iter:=iter) (Q:=fun x H1=>CU j x σ H1 D.nx) hE hXN cn hc hg ht he clS clH I2 T st2 f2 (hb (by rw [I2.len,hXN]) h2)) fun acc s3 h3=>thn h3 fun cenv s4 h4=>Eg h4 fun r s' h5=>?_
 obtain ⟨rfl,D',H',rfl,I',q,cloc,m,hn⟩:=h5
 refine Wd (T2 (v:=.ref D') I' hnd hj (.inl hy) rfl (fun s6 I6 sb=>?_) (.inr hy))
 obtain ⟨a,k,ha⟩:=sb
 refine ⟨m,hn.sameBut k (fun z=>?_),fun h' k'=>⟨_,H',I6.sameBut cloc k',q⟩⟩
 rcases ha with ha | ha
 ·exact cloc.ne (z.trans ha)
 ·exact cloc.cells _ _ ha z.symm
end
theorem E1.g {N Nc xs:Ab Ak} {sc fsc:B1} (c:E1 N Nc xs sc fsc):HA N Nc xs.length sc fsc (fun _=>As) (fun _ cl=>cl) :=
 ⟨c.kind,c.nm,fun y=>⟨fun h=>A8 rfl (c.cell (y,.cell) (Ff h)),(fun h=>nomatch h)⟩,c.fr,c.len,c.at,fun h=>wpAny_newFunctionEnv c.cell (by intro y hy;simp at hy) (fun h₁ a b=>h h₁ a (fun _ _ e=>(b.2 _ (Bx (A' e))).trans (Bk _ e)) (fun _ _ h=>nomatch h)) c.kind,
  fun h=>.inr ⟨rfl,h⟩,fun _=>rfl,(fun h=>nomatch h),(fun h=>nomatch h)⟩
section
variable {X:Cx} {elt iter:A3} {xs:Ab Ak} {tg:A3} {g:TG} {pos:Pos} {ifs:Ab A3} {sc fsc:B1} {N Nc:Ab Ak} {wi:TI} {tt:TT} {te:TE}
theorem YN (hE:X.env.scope=fsc) (hXN:X.N=N) (cn:E1 N Nc xs sc fsc) (hc:X.calm=Af) (hi:PI X tg iter wi)
 (hg:∀cl s H ex,PG (X.inComp Nc sc cl s H ex) tg g) (ht:∀cl s H ex,Ek (X.inComp Nc sc cl s H ex) ifs tt) (he:∀cl s H ex,PE (X.inComp Nc sc cl s H ex) elt te)
 (hs:∀v,Fg iter X.env v=pure v:=by intro _;rfl):PE X (.ListComp elt [⟨tg,iter,ifs,0⟩] sc pos) (Kj xs.length wi g tt te) :=
 Rs hE hXN cn.g hc hi (fun _ h=>h) hg ht he hs
theorem Zo {j:Ae} {y:Ak} {py spos:Pos} (hE:X.env.scope=fsc) (hXN:X.N=N) (cn:E1 N Nc xs sc fsc) (hc:X.calm=Af) (hnd:X.N.Nodup) (hj:X.N[j]?=Aa y) (hy:X.env.scope.names.lookup y=Aa .local) (hi:PI X tg iter wi)
 (hg:∀cl s H ex,PG (X.inComp Nc sc cl s H ex) tg g) (ht:∀cl s H ex,Ek (X.inComp Nc sc cl s H ex) ifs tt) (he:∀cl s H ex,PE (X.inComp Nc sc cl s H ex) elt te)
 (hsw:swapsWith (.ListComp elt [⟨tg,iter,ifs,0⟩] sc pos) (Aa (.Name y py)) spos.line X.env=pure Af)
 (hs:∀v,Fg iter X.env v=pure v:=by intro _;rfl):PS X (.Assign [.Name y py] (.ListComp elt [⟨tg,iter,ifs,0⟩] sc pos) spos) (IY (Kj xs.length wi g tt te) (CU j)) :=
 RD hE hXN cn.g hc hnd hj hy hi (fun _ h=>h) hg ht he hsw hs
end
theorem HB.ns {N Nc:Ab Ak} {x:Ak} {sc fsc:B1} (c:HB N Nc x sc fsc):E1 N Nc [x] sc fsc:=⟨c.kind,c.cell,c.nm,fun y m=>by rw [List.mem_singleton.mp m];exact c.own,c.fr,c.len,c.nd,by
 have l:=c.len
 refine K0 fun i=>?_
 rw [L']
 cases i with
 | zero=>exact c.last
 | succ i=>rw [Hf (by omega),Hf (by show 1<=i+1;omega)],c.slot⟩
section
variable {X:Cx} {elt iter:A3} {x:Ak} {px pos:Pos} {ifs:Ab A3} {sc fsc:B1} {N Nc:Ab Ak} {wi:TI} {tt:TT} {te:TE}
theorem Qe {J:It} {σ:St} {H1:Hp} {Q:VK} {n:Ae} (hn:n=σ.length) (h:∀D,H1 D=Ag->∃W:Ae->Ae->Ab V->Hp->Prop,(∃m,W 0 m [] (upd H1 D (.lst [])))/\∀i m ys H2,W i m ys H2 ->
 H2 D=Aa (.lst ys)/\((J.stop i H2/\Q (.ref D) H2)\/(J.go i H2/\ys.length < A5/\∀x H3,J.yld i H2 x H3->tt (σ++[Aa x]) H3 fun b H4=>if b=Af then te (σ++[Aa x]) H4 fun y H5=>H5 D=Aa (.lst ys)/\∃m',m' < m/\W (i+1) m' (ys++[y]) (upd H5 D (.lst (ys++[y])))
  else ∃m',m' < m/\W (i+1) m' ys H4))) :
 K_ 1 (CU n) tt te σ Q J H1:=by
 intro D hD
 obtain ⟨W,w0,w1⟩:=h D hD
 refine ⟨W,w0,fun i m ys H2 w=>?_⟩
 obtain ⟨a,b⟩:=w1 i m ys H2 w
 refine ⟨a,b.imp id fun ⟨c,d,e⟩=>⟨c,d,fun x H3 y os ho=>?_⟩⟩
 match os,ho with
 | [o],_ =>
   have e2:(σ++[o]).set n (Aa x)=σ++[Aa x]:=by rw [hn];exact Aae
   show (∃os':St,(σ++[o]).set n (Aa x)=σ++os'/\os'.length=1)/\_
   rw [e2]
   exact ⟨⟨[Aa x],rfl,rfl⟩,e x H3 y⟩
theorem D3 (hE:X.env.scope=fsc) (hXN:X.N=N) (cn:HB N Nc x sc fsc) (hc:X.calm=Af) (hi:PI X (.Name x px) iter wi)
 (ht:∀cl s H ex,Ek (X.inComp Nc sc cl s H ex) ifs tt) (he:∀cl s H ex,PE (X.inComp Nc sc cl s H ex) elt te)
 (hs:∀v,Fg iter X.env v=pure v:=by intro _;rfl):PE X (.ListComp elt [⟨.Name x px,iter,ifs,0⟩] sc pos) (T8 wi tt te) :=
 Rs hE hXN cn.ns.g hc hi (fun e h=>Qe (n:=N.length) e.symm h) (fun cl s H ex=>HS (j:=0) cn.ns rfl rfl) ht he hs
theorem Gm {j:Ae} {y:Ak} {py spos:Pos} (hE:X.env.scope=fsc) (hXN:X.N=N) (cn:HB N Nc x sc fsc) (hc:X.calm=Af) (hnd:X.N.Nodup) (hj:X.N[j]?=Aa y) (hy:X.env.scope.names.lookup y=Aa .local) (hi:PI X (.Name x px) iter wi)
 (ht:∀cl s H ex,Ek (X.inComp Nc sc cl s H ex) ifs tt) (he:∀cl s H ex,PE (X.inComp Nc sc cl s H ex) elt te)
 (hsw:swapsWith (.ListComp elt [⟨.Name x px,iter,ifs,0⟩] sc pos) (Aa (.Name y py)) spos.line X.env=pure Af)
 (hs:∀v,Fg iter X.env v=pure v:=by intro _;rfl):PS X (.Assign [.Name y py] (.ListComp elt [⟨.Name x px,iter,ifs,0⟩] sc pos) spos) (IY (T8 wi tt te) (CU j)) :=
 RD hE hXN cn.ns.g hc hnd hj hy hi (fun e h=>Qe (n:=N.length) e.symm h) (fun cl s H ex=>HS (j:=0) cn.ns rfl rfl) ht he hsw hs
end
section
variable {X:Cx} {elt iter:A3} {xs:Ab Ak} {tg:A3} {g:TG} {pos:Pos} {ifs:Ab A3} {sc fsc:B1} {N Nc:Ab Ak} {wi:TI} {tt:TT} {te:TE}
end
theorem JP {K:A6} {a:Ad} {zs:Ab V} {tt:TT} {te:TE} {σ:St} {H1:Hp} {Q:Ad->Hp->Prop} {n m:Ae} (hn:n=σ.length) (hm:m=σ.length+1) (hz:zs.length<=A5) (Pv:Ad->Ae->Ab V->Hp->Prop)
 (h0:∀D,H1 D=Ag->Pv D 0 [] (upd H1 D (.lst []))) (hD:∀D i ys H,Pv D i ys H->H D=Aa (.lst ys)/\ys.length<=i) (hl:∀D i ys H,H1 D=Ag->Pv D i ys H->SqL K H a zs)
 (hs:∀D i x ys H (K1:VK) (K2:Hp->Prop),H1 D=Ag->zs[i]?=Aa x->Pv D i ys H->(∀y H5,H5 D=Aa (.lst ys)->Pv D (i+1) (ys++[y]) (upd H5 D (.lst (ys++[y])))->K1 y H5)->(∀H4,Pv D (i+1) ys H4->K2 H4) ->
  ∃t v w,x=.ref t/\SqT K H t [v,w]/\tt (σ++[Aa v,Aa w]) H fun b H4=>if b=Af then te (σ++[Aa v,Aa w]) H4 K1 else K2 H4)
 (hd:∀D ys H,H1 D=Ag->Pv D zs.length ys H->Q D H) :
 ∀D,H1 D=Ag->∃W:Ae->Ae->Ab V->Hp->Prop,(∃m,W 0 m [] (upd H1 D (.lst [])))/\∀i k ys H2,W i k ys H2 ->
  H2 D=Aa (.lst ys)/\(((Itl K a).stop i H2/\Q D H2)\/((Itl K a).go i H2/\ys.length < A5/\∀x H3,(Itl K a).yld i H2 x H3->∀os:St,os.length=2->HJ K 2 (EM (CU n) (EM (CU m) JT)) x (σ++os) H3 fun σ4 H4=>(∃os':St,σ4=σ++os'/\os'.length=2)/\tt σ4 H4 fun b H5=>if b=Af then te σ4 H5 fun y H6=>H6 D=Aa (.lst ys)/\∃m',m' < k/\W (i+1) m' (ys++[y]) (upd H6 D (.lst (ys++[y])))
   else ∃m',m' < k/\W (i+1) m' ys H5)):=by
 intro D hDn
 subst hn hm
 refine ⟨fun i m ys H=>m=zs.length - i/\i<=zs.length/\Pv D i ys H,⟨zs.length,rfl,BQ _,h0 D hDn⟩,?_⟩
 rintro i m ys H2 ⟨rfl,hi,p⟩
 obtain ⟨e,l⟩:=hD D i ys H2 p
 have q:=hl D i ys H2 hDn p
 refine ⟨e,?_⟩
 by_cases hlt:i < zs.length
 ·refine .inr ⟨⟨zs,zs[i],q,by simp [hlt]⟩,Hl l (Cg hlt hz),fun x H3 y os ho=>?_⟩
  obtain ⟨e1,y⟩:=y
  subst e1
  obtain ⟨t,v,w,rfl,ht,q5⟩:=hs D i x ys _ (fun y H6=>H6 D=Aa (.lst ys)/\∃m',m' < zs.length - i/\m'=zs.length - (i+1)/\i+1<=zs.length/\Pv D (i+1) (ys++[y]) (upd H6 D (.lst (ys++[y])))) (fun H5=>∃m',m' < zs.length - i/\m'=zs.length - (i+1)/\i+1<=zs.length/\Pv D (i+1) ys H5) hDn (y zs q) p (fun y H5 h5 p5=>⟨h5,zs.length - (i+1),by omega,rfl,hlt,p5⟩) fun H4 p4=>⟨zs.length - (i+1),by omega,rfl,hlt,p4⟩
  match os,ho with
  | [o1,o2],_ =>
    have e2:((σ++[o1,o2]).set σ.length (Aa v)).set (σ.length+1) (Aa w)=σ++[Aa v,Aa w]:=by
     rw [OB _ _ (AB _),Ho,OB _ _ (Ec _)]
     rw [show (EE σ+1) - EE σ=1 by omega]
     rfl
    refine ⟨t,[v,w],rfl,ht,rfl,v,[w],rfl,w,[],rfl,rfl,?_⟩
    refine ⟨⟨[Aa v,Aa w],e2,rfl⟩,?_⟩
    rw [e2]
    exact q5
 ·have ei:i=zs.length:=by omega
  subst ei
  exact .inl ⟨⟨zs,q,AB _⟩,hd D ys H2 hDn p⟩
section
variable {X:Cx} {elt iter:A3} {x1 x2 x3:Ak} {p1 p2 p3 pt pos:Pos} {k:Ae} {ifs:Ab A3} {sc fsc:B1} {N Nc:Ab Ak} {wi:TI} {tt:TT} {te:TE}
theorem Lq (hE:X.env.scope=fsc) (hXN:X.N=N) (cn:E1 N Nc [x1,x2] sc fsc) (hc:X.calm=Af) (hi:PI X (.Tuple [.Name x1 p1,.Name x2 p2] k pt) iter wi)
 (ht:∀cl s H ex,Ek (X.inComp Nc sc cl s H ex) ifs tt) (he:∀cl s H ex,PE (X.inComp Nc sc cl s H ex) elt te) (hs:∀v,Fg iter X.env v=pure v:=by intro _;rfl) :
 PE X (.ListComp elt [⟨.Tuple [.Name x1 p1,.Name x2 p2] k pt,iter,ifs,0⟩] sc pos) (Kj 2 wi (HJ X.K 2 (EM (CU N.length) (EM (CU (N.length+1)) JT))) tt te) :=
 YN hE hXN cn hc hi (fun cl s H ex=>Fz (X:=X.inComp Nc sc cl s H ex) hc (CV (HS (j:=0) cn rfl rfl) (CV (HS (j:=1) cn rfl rfl) F0))) ht he hs
theorem Zn {j:Ae} {y:Ak} {py spos:Pos} (hE:X.env.scope=fsc) (hXN:X.N=N) (cn:E1 N Nc [x1,x2] sc fsc) (hc:X.calm=Af) (hnd:X.N.Nodup) (hj:X.N[j]?=Aa y) (hy:X.env.scope.names.lookup y=Aa .local) (hi:PI X (.Tuple [.Name x1 p1,.Name x2 p2] k pt) iter wi)
 (ht:∀cl s H ex,Ek (X.inComp Nc sc cl s H ex) ifs tt) (he:∀cl s H ex,PE (X.inComp Nc sc cl s H ex) elt te)
 (hsw:swapsWith (.ListComp elt [⟨.Tuple [.Name x1 p1,.Name x2 p2] k pt,iter,ifs,0⟩] sc pos) (Aa (.Name y py)) spos.line X.env=pure Af)
 (hs:∀v,Fg iter X.env v=pure v:=by intro _;rfl) :
 PS X (.Assign [.Name y py] (.ListComp elt [⟨.Tuple [.Name x1 p1,.Name x2 p2] k pt,iter,ifs,0⟩] sc pos) spos) (IY (Kj 2 wi (HJ X.K 2 (EM (CU N.length) (EM (CU (N.length+1)) JT))) tt te) (CU j)) :=
 Zo hE hXN cn hc hnd hj hy hi (fun cl s H ex=>Fz (X:=X.inComp Nc sc cl s H ex) hc (CV (HS (j:=0) cn rfl rfl) (CV (HS (j:=1) cn rfl rfl) F0))) ht he hsw hs
end
end L2
namespace L2
open PySem PySem.Spec PyProof.Rows
section
variable {X:Cx}
end
section
variable {X:Cx}
theorem YJ {o e:A3} {es:Ab A3} {to:TE} {t:TA} {name:Ak} {apos cpos:Pos} {T id:CN} {r:V->Ab V->Hp->VK->Prop} (K:A6) (pa:OJ T) (slot:Slot T name id) (hty:typeOf (.builtin id)=pure (.type "method_descriptor")) (hm:MtR X id r) (ho:PE X o to) (ha:PA X (e :: es) t)
 (hK:X.K=K:=by rfl) (hbase:attributeBase o name X.env (eval o X.env)=eval o X.env:=by rfl)
 (hfew:((backTo cpos (Bh (e :: es) X.env)).all (fun x=>!x.1) && (backToKw cpos (keywordEach [] X.env)).all (fun x=>x.1.isSome)
  && decide ((e :: es).length+([]:Ab Gz).length+(if ([]:Ab Gz).isEmpty then 0 else 1) < 30))=Af:=by rfl)
 (hline:(apos.endLine == cpos.line)=Af:=by rfl) (hs:Bh (e :: es) X.env=(As,eval e X.env) :: Bh es X.env:=by rfl) (hplain:(backTo cpos (Bh es X.env)).any (·.1)=As:=by rfl) :
 PE X (.Call (.Attribute o name apos) (e :: es) [] cpos) (tBM K T r to t):=by
 subst hK
 exact DY pa slot hty hm ho ha hbase hfew hline hs hplain
end
theorem Qv:∀ns ms:Ab Ac,KF (ns.map .int) (ms.map .int)=decide (ns=ms)
 | [],[]=>rfl
 | [],_ :: _=>rfl
 | _ :: _,[]=>rfl
 | n :: ns,m :: ms=>by
   show ((n == m) && KF (ns.map .int) (ms.map .int))=_
   rw [Qv ns ms]
   by_cases h:n=m
   ·by_cases k:ns=ms
    ·subst h;subst k;simp
    ·simp [h,k]
   ·simp [h]
theorem QH:∀ns:Ab Ac,KE (ns.map .int)=Af/\Jp (ns.map .int)<=0
 | []=>⟨rfl,AB _⟩
 | n :: ns=>by
   obtain ⟨h1,h2⟩:=QH ns
   refine ⟨?_,?_⟩
   ·show (Af && KE (ns.map .int))=Af
    rw [h1];rfl
   ·show max 0 (Jp (ns.map .int))<=0
    omega
section
variable {X:Cx}
end
end L2
namespace L2
open PySem PySem.Spec PyProof.Rows
namespace CutT
open HT
section
variable {prog:AN} {w:AA} {A:AV} {E:Ah->Ai->Prop} {s:Ai}
end
end CutT
theorem Qh {K:A6} {a:Ad} {xs:Ab V} {tt:TT} {te:TE} {σ:St} {H1:Hp} {Q:Ad->Hp->Prop} (hn:xs.length<=A5) (Pv:Ad->Ae->Ab V->Hp->Prop)
 (h0:∀D,H1 D=Ag->Pv D 0 [] (upd H1 D (.lst []))) (hD:∀D i ys H,Pv D i ys H->H D=Aa (.lst ys)/\ys.length<=i) (hl:∀D i ys H,H1 D=Ag->Pv D i ys H->SqT K H a xs)
 (hs:∀D i x ys H (K1:VK) (K2:Hp->Prop),H1 D=Ag->xs[i]?=Aa x->Pv D i ys H->(∀y H5,H5 D=Aa (.lst ys)->Pv D (i+1) (ys++[y]) (upd H5 D (.lst (ys++[y])))->K1 y H5)->(∀H4,Pv D (i+1) ys H4->K2 H4) ->
  tt (σ++[Aa x]) H fun b H4=>if b=Af then te (σ++[Aa x]) H4 K1 else K2 H4)
 (hd:∀D ys H,H1 D=Ag->Pv D xs.length ys H->Q D H) :
 ∀D,H1 D=Ag->∃W:Ae->Ae->Ab V->Hp->Prop,(∃m,W 0 m [] (upd H1 D (.lst [])))/\∀i m ys H2,W i m ys H2 ->
  H2 D=Aa (.lst ys)/\(((Itt K a).stop i H2/\Q D H2)\/((Itt K a).go i H2/\ys.length < A5/\∀x H3,(Itt K a).yld i H2 x H3->tt (σ++[Aa x]) H3 fun b H4=>if b=Af then te (σ++[Aa x]) H4 fun y H5=>H5 D=Aa (.lst ys)/\∃m',m' < m/\W (i+1) m' (ys++[y]) (upd H5 D (.lst (ys++[y])))
   else ∃m',m' < m/\W (i+1) m' ys H4)):=by
 intro D hDn
 refine ⟨fun i m ys H=>m=xs.length - i/\i<=xs.length/\Pv D i ys H,⟨xs.length,rfl,BQ _,h0 D hDn⟩,?_⟩
 rintro i m ys H2 ⟨rfl,hi,p⟩
 obtain ⟨e,l⟩:=hD D i ys H2 p
 have q:=hl D i ys H2 hDn p
 refine ⟨e,?_⟩
 by_cases hlt:i < xs.length
 ·refine .inr ⟨⟨xs,xs[i],q,by simp [hlt]⟩,Hl l (Cg hlt hn),fun x H3 y=>?_⟩
  obtain ⟨e1,y⟩:=y
  subst e1
  exact hs D i x ys _ _ _ hDn (y xs q) p (fun y H5 h5 p5=>⟨h5,xs.length - (i+1),by omega,rfl,hlt,p5⟩) fun H4 p4=>⟨xs.length - (i+1),by omega,rfl,hlt,p4⟩
 ·have ei:i=xs.length:=by omega
  subst ei
  exact .inl ⟨⟨xs,q,AB _⟩,hd D ys H2 hDn p⟩
end L2
namespace L2
open PySem PySem.Spec PyProof.Rows
section
variable {prog:AN} {w:AA} {A:AV} {E:Ah->Ai->Prop} {s:Ai}
theorem X5 {T newId:CN} {self a:Ah} {rest:Ab Ah} {kw:Ab (Ak × Ah)} (fl:typeLookup (.type T) "__init__"=pure (Aa (.builtin "object.__init__")))
 (fm:Bind.madeBy (.type T)=pure (Aa newId)) (fn:(Aa newId != Aa "object.__new__")=Af) :
 Jm (C9.«object.__init__» ⟨self :: a :: rest,kw⟩) (fun _ R s=>s.TypeIs self T/\R (.ok (.ret .none)) s):=by
 refine Meets.of_wp fun prog w A R s y=>?_
 obtain ⟨hT,fq⟩:=y
 repeat (any_goals (first | assumption | wp_step))
 exact ⟨_,rfl,fq⟩
theorem Abt {T newId initId:CN} {Bn Bi:C9} {args:Ab Ah} {kw:Ab (Ak × Ah)} {S:PySem.Spec} {Q Q₁:Ah->Ai->Prop} (ft:TypeCalled T newId initId)
 (ct:checkTypeCall T ⟨args,kw⟩=pure ()) (cn:checkBuiltinCall newId ⟨.type T :: args,kw⟩=pure ()) (eN:entryFor table newId=Aa Bn) (eI:entryFor table initId=Aa Bi) (g:Jm (Bn ⟨.type T :: args,kw⟩) S)
 (h:S A.in1 (wants Q₁ E) s)
 (nxt:∀o z,Q₁ o z->z.TypeIs o T/\argsOk initId ⟨o :: args,kw⟩/\∃Si,Jm (Bi ⟨o :: args,kw⟩) Si/\Si A.in1 (wants (fun r s₂=>r=.none/\Q o s₂) E) z) :
 Ar (A1 prog w) A (call (.type T) args kw) Q E s:=by
 obtain ⟨c,tl,hmro⟩:=ft.mro
 have hmade:=ft.made
 have hsub:=ft.sub
 refine KL (Pe ?_)
 show Ar _ _ (callAny (.type T) _) _ _ _
 refine A0 ⟨U1 _ (by decide +kernel),FX F.entry_type_call ?_⟩
 rw [Uk (Wc T args kw) (units_type_call_type T args kw)]
 have h1:=ft.notType
 have h2:=ft.canCreate
 repeat (any_goals (first | assumption | wp_step))
 refine Eg (M9 ft.plain eN (Eh cn (g prog w A.in1 _ s h))) fun r z hr=>?_
 cases r with
 | error e=>exact hr
 | ok fl =>
   cases fl with
   | ret obj =>
     obtain ⟨hT,hok,Si,gi,hsi⟩:=nxt _ _ hr
     have hli:=ft.init.lookup
     have hbi:=ft.init.bind obj
     repeat (any_goals (first | assumption | wp_step))
     refine Eg (M9 ft.init.plain eI (ft.init.check _ _ _ _ _ _ _ _ hT hok (gi prog w A.in1 _ z hsi))) fun r₂ s₂ hr₂=>?_
     cases r₂ with
     | error e=>exact hr₂
     | ok fl₂ =>
       cases fl₂ with
       | ret r =>
         obtain ⟨rfl,hq⟩:=hr₂
         repeat (any_goals (first | assumption | wp_step))
       | _=>exact hr₂.elim
   | _=>exact hr.elim
theorem Aa5 (l:Ad) (items:A7 Ah) (n:Ae) (dct:Ay Ad) (sl:A7 (Ay Ah)) (t:BX) :
 Jm (C9.«enumerate.__new__» ⟨[.type "enumerate",.ref l],[("start",.int 1 t)]⟩) (fun _ R s=>s.heap.get? l=Aa { cls:=.type "list",dict:=dct,data:=.seq items n,slots:=sl } /\
  R (.ok (.ret (.ref (s.heap.push { cls:=.type "list_iterator",data:=.fields #[.ref l,.int 0 0] }).objs.size)))
    { s with heap:=(s.heap.push { cls:=.type "list_iterator",data:=.fields #[.ref l,.int 0 0] }).push { cls:=.type "enumerate",data:=.fields #[.none,.bool As,.ref s.heap.objs.size,rawInt 1,.none,.none] } }) :=
 .of_wp fun prog w A R s y=>by
  obtain ⟨hp,g,d,tk,os⟩:=s
  obtain ⟨hl,y⟩:=y
  have fs:=sub_enumerate
  have fL:Heap.IsList (Shared.heap ⟨hp,g,d,tk,os⟩) l items:=⟨_,hl,rfl,n,rfl⟩
  wp_walk using LF hl
  refine wpAny_stack_any fun st=>A0 ?_
  have fx:Builtin.SmallTypes.indexObject "enumerate.__new__" (.int 1 t)=pure (.int 1 t):=rfl
  split
  ·rename_i c _ _ _ _ _
   cases (c == Ck "enumerate")
   ·wp_walk using Eh fx,JE fL
    exact ⟨_,rfl,y⟩
   ·wp_walk using Eh fx,JE fL
    exact ⟨_,rfl,y⟩
  ·wp_walk using Eh fx,JE fL
   exact ⟨_,rfl,y⟩
theorem Abs (a:Ah) (t:BX):checkTypeCall "enumerate" ⟨[a],[("start",.int 1 t)]⟩=pure ():=by kernel_rfl
theorem Ys (a:Ah) (t:BX):checkBuiltinCall "enumerate.__new__" ⟨[.type "enumerate",a],[("start",.int 1 t)]⟩=pure ():=by kernel_rfl
theorem X4 (o a:Ah) (t:BX):argsOk "object.__init__" ⟨[o,a],[("start",.int 1 t)]⟩:=by
 first | exact trivial | kernel_rfl | (unfold argsOk;kernel_rfl)
theorem WB {l:Ad} {items:A7 Ah} {t:BX} {Q:Ah->Ai->Prop} (hL:s.heap.IsList l items)
 (h:∀h',Gx h' (s.heap.objs.size+1) s.heap.objs.size 1 .none->h'.IsListIter s.heap.objs.size l 0->h'.objs.size=s.heap.objs.size+2->(∀b o,s.heap.get? b=Aa o->h'.get? b=Aa o)->Q (.ref (s.heap.objs.size+1)) { s with heap:=h' }) :
 Ar (A1 prog w) A (call (.type "enumerate") [.ref l] [("start",.int 1 t)]) Q E s:=by
 obtain ⟨⟨c,dct,dt,sl⟩,hl,hc,n,hd⟩:=hL
 replace hc:c=.type "list":=hc
 replace hd:dt=.seq items n:=hd
 subst hc hd
 refine Abt (Q₁:=fun o z=>z.TypeIs o "enumerate"/\Q o z) U5 (Abs _ _) (Ys _ _) U7 F.entry_object_init (Aa5 l items n dct sl t) ⟨hl,?_⟩
  fun o z y=>⟨y.1,X4 o _ _,_,X5 F.called_enumerate.init.lookup F.called_enumerate.made (by decide),y.1,rfl,y.2⟩
 have hz:(s.heap.push { cls:=.type "list_iterator",data:=.fields #[.ref l,.int 0 0] }).objs.size=s.heap.objs.size+1:=Er ..
 show _/\_
 rw [hz]
 have he:Gx ((s.heap.push { cls:=.type "list_iterator",data:=.fields #[.ref l,.int 0 0] }).push { cls:=.type "enumerate",data:=.fields #[.none,.bool As,.ref s.heap.objs.size,rawInt 1,.none,.none] }) (s.heap.objs.size+1) s.heap.objs.size 1 .none:=by
  have e:=BE (s.heap.push { cls:=.type "list_iterator",data:=.fields #[.ref l,.int 0 0] }) (o:={ cls:=.type "enumerate",data:=.fields #[.none,.bool As,.ref s.heap.objs.size,rawInt 1,.none,.none] }) rfl
  rw [hz] at e
  exact e
 exact ⟨⟨_,he,rfl⟩,h _ he ⟨_,Bk _ (BE _ rfl),rfl,rfl⟩ (by rw [Er,hz]) fun b o x=>Bk _ (Bk _ x)⟩
end
section
variable {M:DR} {A:AV} {E:Ah->Ai->Prop} {s:Ai} {env:BK}
theorem Ab3 {pos:Pos} {T:CN} {e:A3} {kws:Ab Gz} {Q:Ah->Ai->Prop}
 (h:Ar M A (spliced (backTo pos (Bh [e] env))) (fun vs z=>Ar M A (evalAll ((backToKw pos (keywordEach kws env)).map (·.2))) (fun us y=>Ar M A (call (.type T) vs (((backToKw pos (keywordEach kws env)).filterMap (·.1)).zip us)) Q E y) E z) E s)
 (he:backTo pos (Bh [e] env)=(As,eval e env) :: backTo pos (Bh [] env)) (hp:(backTo pos (Bh [e] env)).any (·.1)=As)
 (ha:(backToKw pos (keywordEach kws env)).all (·.1.isSome)=Af) (hk:(backToKw pos (keywordEach kws env)).any (·.1.isNone)=As) :
 Ar M A (callWith pos (.type T) [] (backTo pos (Bh [e] env)) (backToKw pos (keywordEach kws env))) Q E s:=by
 unfold callWith
 have y:Ar M A (evalArgs (.type T) Af (backTo pos (Bh [e] env)) (backToKw pos (keywordEach kws env))) (fun a z=>Ar M A (call (.type T) ([]++a.pos) a.kw) Q E z) E s:=by
  rw [he] at h ⊢
  exact evalArgs_kwB ha h
 refine Al (Du (DE y (fun a z q=>Al (MG ?_)) fun _ _ x=>x))
 simp only [hp,hk,Us]
 refine Al (A0 (Al ?_))
 exact DE q (fun r z hr=>Al (Du (wpAny_point (A0 hr)))) fun _ _ x=>x
end
noncomputable def JH (K:A6) (a:Ad):It :=
 ⟨fun i H=>∃xs x,SqL K H a xs/\xs[i]?=Aa x,fun i H x H'=>∃T y,x=.ref T/\H T=Ag/\H'=upd H T (.tup [.int ((i:Ac)+1),y])/\∀xs,SqL K H a xs->xs[i]?=Aa y,fun i H=>∃xs,SqL K H a xs/\xs.length=i⟩
theorem Qr {prog:AN} {w:AA} {A:AV} (hh:A.handled=Ag) (it l:Ad) (hne:l≠it) (items:A7 Ah) :
 Draws prog w A it [it,l] (items.size+1) (fun i v=>items[i - 1]?=Aa v) (fun i h=>1<=i/\h.IsListIter it l (i - 1)/\h.IsList l items) where
 live:=fun _ _ st=>let ⟨o,ho,_⟩:=st.2.1;⟨o,ho⟩
 frame:=fun _ _ _ st hk=>⟨st.1,st.2.1.at fun o e=>hk it (by simp) o e,st.2.2.at fun o e=>hk l (by simp) o e⟩
 item:=fun i s Q E hi st hQ=>by
  obtain ⟨h1,h2,h3⟩:=st
  have lt:i - 1 < items.size:=by omega
  refine wpAny_nextOf_list_item h2 h3 (x:=items[i - 1]) (by simp [lt]) fun h' hit' hs'=>?_
  have e:i+1 - 1=i - 1+1:=by omega
  exact hQ _ h' s.toks (by simp [lt]) ⟨by omega,by rw [e];exact hit',h3.extBut hs'.extBut hne⟩ hs'
 done:=fun s Q E st hE=>wpAny_nextOf_list_end hh st.2.1 st.2.2 (by simp) hE
theorem Abm {P:AN} {w:AA} {K:A6} {es:Ab A3} {k:Ae} {pos:Pos} (a e it:Ad) (hne:e≠it) (hea:e≠a) (hai:a≠it) :
 Fn P w K (.Tuple es k pos) (JH K a) [e,it] e (fun i h=>(∃old,Gx h e it ((i+1:Ae):Ac) old)/\h.IsListIter it a i) where
 mem:=by simp
 obj:=fun i h st b hb=>by
  obtain ⟨⟨old,he⟩,o,e1,c,d⟩:=st
  rcases List.mem_cons.mp hb with z | z
  ·subst z
   exact ⟨_,he,fun v z=>by cases (show Kr _=Kq v from z)⟩
  ·have z':b=it:=by simpa using z
   subst z'
   exact ⟨o,e1,fun v z=>by rw [d] at z;cases z⟩
 keep:=fun i h h' st kk=>by
  obtain ⟨⟨old,he⟩,st⟩:=st
  exact ⟨⟨old,kk e (by simp) _ he⟩,st.at fun o q=>kk it (by simp) o q⟩
 item:=by
  intro X hP hw hK hc i pins s σ H E I hf st hg
  subst hP hw hK
  obtain ⟨xs,x,hq,hx⟩:=hg
  obtain ⟨its,rv,p,hz⟩:=I.list hq
  obtain ⟨u,hu,ru⟩:=rv.get hx
  obtain ⟨⟨old,he⟩,hit⟩:=st
  have hlt:i+1 < its.toArray.size+1:=by
   have:=(List.getElem?_eq_some_iff.mp hu).1
   rw [BB]
   omega
  refine Wm (Qr (A:=X.A.in1) (I.ok.hd hc) it a hai its.toArray) (i:=i+1) he ⟨by omega,hit,p.isList⟩ hlt hne (by simp [hne,hea]) fun v h1 tk pv ho st1 hT hsz hk=>⟨_,rfl,?_⟩
  have ev:v=u:=by
   have pv':its.toArray[i+1 - 1]?=Aa v:=pv
   rw [Nat.add_sub_cancel] at pv'
   have:its[i]?=Aa v:=by simpa using pv'
   rw [hu] at this
   exact (Bp this).symm
  subst ev
  refine Pu ho fun h2 he2 sb=>?_
  have fr:H s.heap.objs.size=Ag:=I.hok.fresh (AB _)
  have lte:e < s.heap.objs.size:=A' he
  have lti:it < s.heap.objs.size:=by obtain ⟨o,q,_⟩:=id hit;exact A' q
  have hit1:h1.IsListIter it a (i+1):=st1.2.1
  refine ⟨.ref s.heap.objs.size,upd H s.heap.objs.size (.tup [.int ((i:Ac)+1),x]),?_,rfl,⟨_,x,rfl,fr,rfl,fun ys hy=>by rw [I.list_inj hy hq];exact hx⟩,⟨⟨_,by simpa using he2⟩,hit1.at fun o q=>(sb.2 it (AM hne)).trans q⟩,fun b hb=>?_⟩
  ·refine I.laidTurned (fp:=[e,it]) (t':=tk+1) (fun b o hb q=>(sb.2 b (fun z=>hb (by simp [z]))).trans (hk b o (fun z=>hb (by simp [z])) (fun z=>hb (by simp [z])) q)) hf (AB _) ?_
   refine ⟨by show 2<=A5;decide,[.int ((i+1:Ae):Ac) tk,v],.cons ⟨tk,by simp⟩ (.cons ru .nil),⟨_,(sb.2 _ (DC lte)).trans hT,rfl,_,rfl⟩⟩
  ·rw [AF (fun z=>?_)]
   ·exact (hf b hb).1
   ·rcases List.mem_cons.mp hb with q | q
    ·rw [q] at z;exact A8 lte (by rw [z];exact CQ _)
    ·have q':b=it:=by simpa using q
     rw [q'] at z;exact A8 lti (by rw [z];exact CQ _)
 done:=by
  intro X hP hw hK hc i pins s σ H E I hf st hg
  subst hP hw hK
  obtain ⟨xs,hq,hx⟩:=hg
  obtain ⟨its,rv,p,hz⟩:=I.list hq
  obtain ⟨f0,f1,f2,f3,f4,f5⟩:=hf it (by simp)
  obtain ⟨⟨old,he⟩,hit⟩:=st
  have hl:=rv.length
  have ei:i=its.toArray.size:=by rw [BB];omega
  subst ei
  exact wpAny_pyNext_enum_endD (Qr (A:=X.A.in1) (I.ok.hd hc) it a hai its.toArray) he ⟨by omega,hit,p.isList⟩ fun h' eb=>⟨rfl,I.turned (t':=s.toks) (fun b o hb e=>eb b o hb e) f0 f1 f3 f4 f5⟩
 self:=fun _ _ _ _ _ st h=>by
  obtain ⟨⟨old,he⟩,_⟩:=st
  exact JD he h
section
variable {X:Cx}
noncomputable def Xy (K:A6) (te:TE):TI:=fun σ H R=>te σ H fun v H1=>∃a,v=.ref a/\(∃xs,SqL K H1 a xs)/\R (JH K a) H1
theorem YY {l:A3} {te:TE} {p pos pt kp:Pos} {cst:A3} {es:Ab A3} {k:Ae} (hg:Gl X "enumerate") (hm:X.mg "enumerate"=Ag) (he:PE X l te) (hc:PE X cst (tC (.int 1)))
 (h1:backTo pos (Bh [l] X.env)=(As,eval l X.env) :: backTo pos (Bh [] X.env):=by rfl) (h2:(backTo pos (Bh [l] X.env)).any (·.1)=As:=by rfl)
 (h3:(backToKw pos (keywordEach [⟨Aa "start",cst,kp⟩] X.env)).all (·.1.isSome)=Af:=by rfl) (h4:(backToKw pos (keywordEach [⟨Aa "start",cst,kp⟩] X.env)).any (·.1.isNone)=As:=by rfl)
 (h5:(backToKw pos (keywordEach [⟨Aa "start",cst,kp⟩] X.env)).filterMap (·.1)=[("start":Ak)]:=by rfl) :
 PI X (.Tuple es k pt) (.Call (.Name "enumerate" p) [l] [⟨Aa "start",cst,kp⟩] pos) (Xy X.K te):=by
 intro pins s σ H R I h
 refine EL (Dx I hg hm Pd ?_ (by decide) (by decide))
 refine Ab3 ?_ h1 h2 h3 h4
 rw [h1]
 refine E_ (thn (he pins s σ H _ I h) fun u s1 hq_=>?_)
 obtain ⟨x,H1,I1,r1,a,hx,⟨xs,hq⟩,q⟩:=hq_
 subst hx
 cases r1
 refine FI ?_
 refine kws_cons (thn (hc pins s1 σ H1 (fun v H'=>v=.int 1/\H'=H1) I1 ⟨rfl,rfl⟩) fun v s2 hq_=>?_)
 obtain ⟨y,H2,I2,r2,e1,e2⟩:=hq_
 refine kws_nil ?_
 subst e1 e2
 obtain ⟨t,rfl⟩:=r2
 rw [h5]
 show Ar (A1 X.prog X.w) X.A (call (.type "enumerate") [.ref a] [("start",.int 1 t)]) _ _ s2
 obtain ⟨its,rv,pl,hz⟩:=I2.list hq
 have lta:a < s2.heap.objs.size:=by obtain ⟨o,q,_⟩:=pl.isList;exact A' q
 refine WB pl.isList fun h' hen hit hsz hk=>?_
 refine JD (s:={ s2 with heap:=h' }) hen ?_
 refine ⟨s2.heap.objs.size+1,[s2.heap.objs.size+1,s2.heap.objs.size],_,_,H2,rfl,I2.kept (t':=s2.toks) hk,Abm a _ _ (K8 _) (DC (Hm lta)) (Bx lta),⟨⟨_,hen⟩,hit⟩,fun b hb=>?_,q⟩
 have ge:s2.heap.objs.size<=b:=by
  rcases List.mem_cons.mp hb with z | z
  ·rw [z];exact Ec _
  ·have z':b=s2.heap.objs.size:=by simpa using z
   rw [z'];exact AB _
 exact I2.fpOk ge (I2.hok.fresh ge)
end
theorem W_ {K:A6} {a:Ad} {xs:Ab V} {g:TG} {tb:TS} {D:CF} {σ:St} {H:Hp} (Pv:Ae->St->Hp->Prop) (h0:Pv 0 σ H) (hl:∀i σ H,i<=xs.length->Pv i σ H->SqL K H a xs)
 (hs:∀i x T σ H,xs[i]?=Aa x->Pv i σ H->H T=Ag->g (.ref T) σ (upd H T (.tup [.int ((i:Ac)+1),x])) fun σ2 H2=>tb { D with nx:=Pv (i+1),ct:=Pv (i+1),bk:=D.nx } σ2 H2) (hd:∀σ H,Pv xs.length σ H->D.nx σ H) :
 ∃W:Ae->Ae->St->Hp->Prop,(∃m,W 0 m σ H)/\∀i m σ H,W i m σ H ->
  ((JH K a).stop i H/\D.nx σ H)\/((JH K a).go i H/\∃N:St->Hp->Prop,(∀σ' H',N σ' H'->∃m',m' < m/\W (i+1) m' σ' H')/\∀x H',(JH K a).yld i H x H'->g x σ H' fun σ2 H2=>tb { D with nx:=N,ct:=N,bk:=D.nx } σ2 H2):=by
 refine ⟨fun i m σ H=>m=xs.length - i/\i<=xs.length/\Pv i σ H,⟨xs.length,by simp,BQ _,h0⟩,?_⟩
 rintro i m σ H ⟨rfl,hi,p⟩
 have q:=hl i σ H hi p
 by_cases hlt:i < xs.length
 ·refine .inr ⟨⟨xs,xs[i],q,by simp [hlt]⟩,Pv (i+1),fun σ' H' p'=>⟨xs.length - (i+1),by omega,rfl,hlt,p'⟩,fun x H' y=>?_⟩
  obtain ⟨T,y,rfl,hT,rfl,hy⟩:=y
  exact hs i y T σ H (hy xs q) p hT
 ·have e:i=xs.length:=by omega
  subst e
  exact .inl ⟨⟨xs,q,rfl⟩,hd σ H p⟩
end L2
namespace L2
open PySem PySem.Spec PyProof.Rows
noncomputable def Itd (lo:Ac) (n:Ae):It:=⟨fun i _=>i < n,fun i H x H'=>H'=H/\x=.int (lo - i),fun i _=>n<=i⟩
theorem Se (a b:Ac):LN a b (-1)=((a - b).toNat:Ac):=by
 unfold LN
 rw [Ao (by decide),show -(-1:Ac)=1 by decide,Int.ediv_one]
 split <;> omega
theorem Aau {a b:Ac} (ha:-(2 ^ 60)<=a) (ha':a < 2 ^ 60) (hb:-(2 ^ 60)<=b) (hb':b < 2 ^ 60):Uw a b (-1)=Af:=by
 unfold Uw
 rw [Se]
 simp only [Builtin.Range.rangeFitsLong,Oc,Bool.or_eq_true,G6,beq_iff_eq,show ¬ ((-1:Ac) > 0) by decide,Dj]
 omega
theorem Abk {P:AN} {w:AA} {K:A6} {tg:A3} (it:Ad) (lo:Ac) (n:Ae):Fn P w K tg (Itd lo n) [it] it (fun i h=>LV h it (lo+(i:Ae)*(-1)) ((n:Ac) - (i:Ae)) (-1)) where
 mem:=by simp
 obj:=fun i h st b hb=>by
  have e:b=it:=by simpa using hb
  subst e
  exact ⟨_,st,fun v z=>by
   have z':Kr _=Kq v:=z
   cases z'⟩
 keep:=fun i h h' st k=>k it (by simp) _ st
 item:=by
  intro X hP hw hK hc i pins s σ H E I hf st hg
  subst hP hw hK
  obtain ⟨f0,f1,f2,f3,f4,f5⟩:=hf it (by simp)
  have W:=Walks.range (prog:=X.prog) (w:=X.w) (I.ok.hd hc) it lo (-1) n
  refine W.item i s _ _ hg st fun v h' tk hv st' kk=>?_
  obtain ⟨t,rfl⟩:=hv
  have I1:Inv X pins σ H { s with heap:=h',toks:=tk }:=I.turned (fun b o hb e=>kk b o (by simpa using hb) e) f0 f1 f3 f4 f5
  refine ⟨_,rfl,Ld (s:={ s with heap:=h',toks:=tk }) (n:="range_iterator") st' rfl rfl (by decide) ⟨.int (lo - i),H,I1,⟨t,?_⟩,⟨rfl,rfl⟩,st',fun b hb=>(hf b hb).1⟩⟩
  rw [show lo+(i:Ac)*(-1)=lo - i by omega]
 done:=by
  intro X hP hw hK hc i pins s σ H E I hf st hg
  subst hP hw hK
  obtain ⟨f0,f1,f2,f3,f4,f5⟩:=hf it (by simp)
  exact Wn (I.ok.hd hc) st (by have:n<=i:=hg;omega) fun h' eb=>⟨rfl,I.turned (t':=s.toks) (fun b o hb e=>eb b o hb e) f0 f1 f3 f4 f5⟩
 self:=fun _ _ _ _ _ st h=>Wl st h
section
variable {X:Cx} {tg:A3}
theorem WR {pins:Ab (Ad × A4)} {σ:St} {H:Hp} {s:Ai} {R:It->Hp->Prop} {E:Ah->Ai->Prop} {lo hi:Ac} {t u v:BX} {tk:Ae} (I:Inv X pins σ H s) (h1:-(2 ^ 60)<=lo) (h2:lo < 2 ^ 60) (h3:-(2 ^ 60)<=hi) (h4:hi < 2 ^ 60)
 (q:R (Itd lo (lo - hi).toNat) H):Ar (A1 X.prog X.w) X.A (pyIter (.ref s.heap.objs.size)) (PIE X pins σ tg R) E { s with heap:=s.heap.push { cls:=.type "range",data:=.fields #[.int lo t,.int hi u,.int (-1) v] },toks:=tk }:=by
 refine Wk (Os ..) (Aau h1 h2 h3 h4) ?_
 have I1:Inv X pins σ H { s with heap:=s.heap.push { cls:=.type "range",data:=.fields #[.int lo t,.int hi u,.int (-1) v] },toks:=tk }:=I.kept fun b o e=>Bk _ e
 refine ⟨(s.heap.push { cls:=.type "range",data:=.fields #[.int lo t,.int hi u,.int (-1) v] }).objs.size,[(s.heap.push { cls:=.type "range",data:=.fields #[.int lo t,.int hi u,.int (-1) v] }).objs.size],_,_,H,rfl,
  I1.kept (t':=tk) fun b o e=>Bk _ e,Abk _ lo (lo - hi).toNat,?_,fun b hb=>?_,q⟩
 ·have e1:lo+((0:Ae):Ac)*(-1)=lo:=by simp
  have e2:(((lo - hi).toNat:Ae):Ac) - ((0:Ae):Ac)=LN lo hi (-1):=by rw [Se];omega
  show LV _ _ (lo+((0:Ae):Ac)*(-1)) ((((lo - hi).toNat:Ae):Ac) - ((0:Ae):Ac)) (-1)
  rw [e1,e2]
  exact BE _ rfl
 ·have e:b=(s.heap.push { cls:=.type "range",data:=.fields #[.int lo t,.int hi u,.int (-1) v] }).objs.size:=by simpa using hb
  subst e
  exact I1.fpOk (AB _) (I1.hok.fresh (AB _))
noncomputable def X2 (ta:TA):TI:=fun σ H R=>ta σ H fun vs H1=>∃i j:Ac,vs=[.int i,.int j,.int (-1)]/\(-(2 ^ 60)<=i/\i < 2 ^ 60/\-(2 ^ 60)<=j/\j < 2 ^ 60)/\R (Itd i (i - j).toNat) H1
theorem YW {a b c:A3} {ta:TA} {p pos:Pos} (hg:Gl X "range") (hm:X.mg "range"=Ag) (ha:PA X [a,b,c] ta) (hs:Bh [a,b,c] X.env=[(As,eval a X.env),(As,eval b X.env),(As,eval c X.env)]:=by rfl) (hs2:Bh [b,c] X.env=[(As,eval b X.env),(As,eval c X.env)]:=by rfl) :
 PI X tg (.Call (.Name "range" p) [a,b,c] [] pos) (X2 ta):=by
 intro pins s σ H R I h
 refine Call_ (Dx I hg hm M6 (Jq (thn (ha pos pins s σ H _ I h) fun us s1 ⟨vs,H1,I1,r1,q1⟩=>?_) (by rw [hs,hs2]) (by rw [hs2];rfl)))
 obtain ⟨i,j,e,⟨q1,q2,q3,q4⟩,q⟩:=q1
 subst e
 cases r1 with
 | cons r rr =>
   cases rr with
   | cons r' rr =>
     cases rr with
     | cons r'' rr =>
       cases rr
       obtain ⟨t,rfl⟩:=r
       obtain ⟨t',rfl⟩:=r'
       obtain ⟨t'',rfl⟩:=r''
       exact call_range_3 (by decide) (WR I1 q1 q2 q3 q4 q) (.inl (PyProof.noPylong_small (by omega)))
theorem WY {lo:Ac} {n:Ae} {g:TG} {tb:TS} {D:CF} {σ:St} {H:Hp} (Pv:Ae->St->Hp->Prop) (h0:Pv 0 σ H)
 (hs:∀i σ H,i < n->Pv i σ H->g (.int (lo - i)) σ H fun σ2 H2=>tb { D with nx:=Pv (i+1),ct:=Pv (i+1),bk:=D.nx } σ2 H2) (hd:∀σ H,Pv n σ H->D.nx σ H) :
 ∃W:Ae->Ae->St->Hp->Prop,(∃m,W 0 m σ H)/\∀i m σ H,W i m σ H ->
  ((Itd lo n).stop i H/\D.nx σ H)\/((Itd lo n).go i H/\∃N:St->Hp->Prop,(∀σ' H',N σ' H'->∃m',m' < m/\W (i+1) m' σ' H')/\∀x H',(Itd lo n).yld i H x H'->g x σ H' fun σ2 H2=>tb { D with nx:=N,ct:=N,bk:=D.nx } σ2 H2):=by
 refine ⟨fun i m σ H=>m=n - i/\i<=n/\Pv i σ H,⟨n,by simp,BQ _,h0⟩,?_⟩
 rintro i m σ H ⟨rfl,hi,p⟩
 by_cases hlt:i < n
 ·refine .inr ⟨hlt,Pv (i+1),fun σ' H' p'=>⟨n - (i+1),by omega,rfl,hlt,p'⟩,fun x H' y=>?_⟩
  obtain ⟨e,y⟩:=y
  subst e y
  exact hs i σ _ hlt p
 ·have e:i=n:=by omega
  subst e
  exact .inl ⟨AB _,hd σ H p⟩
end
end L2
namespace L2
open PySem PySem.Spec PyProof.Rows
section
variable {prog:AN} {w:AA} {A:AV} {E:Ah->Ai->Prop} {s:Ai}
theorem Abh {j t:Ad} {i:Ae} {xs:A7 Ah} {x:Ah} {Q:Ah->Ai->Prop} (ji:s.heap.IsTupleIter j t i) (jt:s.heap.IsTuple t xs) (jx:xs[i]?=Aa x)
 (q:∀h',h'.IsTupleIter j t (i+1)->Ep j s.heap h'->Q x { s with heap:=h' }):Ar (A1 prog w) A (LO (.ref j)) Q E s:=by
 obtain ⟨o,jo,jc,jd⟩:=id ji
 obtain ⟨u,ju,_,n,je⟩:=jt
 unfold LO;refine Al (Hw (name:=Az "__next__") ji.typeIs LU (Ey LU ji.typeIs U9 ?_ (U4 _)))
 refine Al (m:=field (.ref j) 0) (FY jo jd (x:=.ref t) rfl ?_)
 show Ar _ _ (if (A_ t == .none)=Af then _ else _) _ _ s;rw [Ao (show ¬ (A_ t == .none)=Af from B8)]
 refine Al (m:=field (.ref j) 1) (FY jo jd (x:=.int i 0) rfl ?_)
 refine Al (m:=seqItems? (.ref t)) (KP ju je ?_)
 simp only [jx,Ce]
 refine Al (G7 jo jd (by simp) (A0 ⟨x,rfl,A0 (q _ ⟨_,EC _ jo (Jn (Ev jd _)),(K9 ..).trans jc,?_⟩ (Hc ..))⟩))
 rw [Ev jd];simp [rawInt]
theorem TQ {j t:Ad} {i:Ae} {xs:A7 Ah} {Q:Ah->Ai->Prop} (hn:A.handled=Ag) (ji:s.heap.IsTupleIter j t i) (jt:s.heap.IsTuple t xs) (jx:xs[i]?=Ag)
 (q:∀h' e,Jf j s.heap h'->(∃o,h'.get? e=Aa o/\o.cls=.type "StopIteration")->E (.ref e) { s with heap:=h' }):Ar (A1 prog w) A (LO (.ref j)) Q E s:=by
 obtain ⟨o,jo,jc,jd⟩:=id ji
 obtain ⟨u,ju,_,n,je⟩:=jt
 unfold LO;refine Al (Hw (name:=Az "__next__") ji.typeIs LU (Ey LU ji.typeIs U9 ?_ (U4 _)))
 refine Al (m:=field (.ref j) 0) (FY jo jd (x:=.ref t) rfl ?_)
 show Ar _ _ (if (A_ t == .none)=Af then _ else _) _ _ s;rw [Ao (show ¬ (A_ t == .none)=Af from B8)]
 refine Al (m:=field (.ref j) 1) (FY jo jd (x:=.int i 0) rfl ?_)
 refine Al (m:=seqItems? (.ref t)) (KP ju je ?_)
 simp only [jx,Ce]
 refine Al (Hy (Al (G7 jo jd (by simp) (Al (m:=newExc (.type "StopIteration") []) ?_))))
 simp only [newExc,newTuple];refine Al (Ez (Al (m:=firstArgMember _ _) (Eh (a:=B6) (by first | rfl | (simp only [firstArgMember];rfl)) (Ez ?_ (by size_fits)))) (by size_fits))
 simp only [raiseNew];refine Al (Pt ?_)
 first | rw [show A.in1.handled=Ag from hn] | rw [hn]
 exact Al (A0 (P0 (q _ _ (((Hc ..).extBut.push _).push _) ⟨_,BE _ rfl,rfl⟩)))
theorem Abe {e j t:Ad} {i:Ae} {k:Ac} {old:Ah} {xs:A7 Ah} {Q:Ay Ah->Ai->Prop} (hn:A.handled=Ag) (je:Gx s.heap e j k old) (ji:s.heap.IsTupleIter j t i) (jt:s.heap.IsTuple t xs) (jx:xs[i]?=Ag)
 (q:∀h',Jf j s.heap h'->Q Ag { s with heap:=h' }):Ar (A1 prog w) A (pyNext (.ref e)) Q E s:=by
 have ty:s.TypeIs (.ref e) "enumerate":=⟨_,je,rfl⟩
 unfold pyNext;refine Al (JC (Hw (name:=Az "__next__") ty UB (Ey UB ty F.entry_enumerate_next ?_ (F.args_enumerate_next_1 _))))
 refine Al (m:=field (.ref e) 2) (FY je rfl (x:=.ref j) rfl (Al (TQ (by simp [hn]) ji jt jx fun h' x y hq_=>?_)))
 obtain ⟨o,z,c⟩:=hq_
 exact Al (KN (T:="StopIteration") (b:=Af) ⟨o,z,c⟩ Ph (A0 (q _ y)))
theorem Abd (hn:A.handled=Ag) (j t:Ad) (hne:t≠j) (xs:A7 Ah):Draws prog w A j [j,t] xs.size (fun i v=>xs[i]?=Aa v) (fun i h=>h.IsTupleIter j t i/\h.IsTuple t xs) where
 live:=fun _ _ z=>let ⟨o,e,_⟩:=z.1;⟨o,e⟩
 frame:=fun _ _ _ z k=>⟨let ⟨o,e,r⟩:=z.1;⟨o,k j (by simp) o e,r⟩,let ⟨o,e,r⟩:=z.2;⟨o,k t (by simp) o e,r⟩⟩
 item:=fun i s Q E hi z q=>Abh z.1 z.2 (x:=xs[i]) (by simp [hi]) fun h' a b=>q _ h' s.toks (by simp [hi]) ⟨a,z.2.extBut b.extBut hne⟩ b
 done:=fun s Q E z q=>TQ hn z.1 z.2 (by simp) q
theorem Abj (t:Ad) (xs:A7 Ah) (n:Ae) (dct:Ay Ad) (sl:A7 (Ay Ah)) :
 Jm (C9.«enumerate.__new__» ⟨[.type "enumerate",.ref t],[]⟩) (fun _ R s=>s.heap.get? t=Aa { cls:=.type "tuple",dict:=dct,data:=.seq xs n,slots:=sl } /\
  R (.ok (.ret (.ref (s.heap.push { cls:=.type "tuple_iterator",data:=.fields #[.ref t,.int 0 0] }).objs.size)))
    { s with heap:=(s.heap.push { cls:=.type "tuple_iterator",data:=.fields #[.ref t,.int 0 0] }).push { cls:=.type "enumerate",data:=.fields #[.none,.bool As,.ref s.heap.objs.size,rawInt 0,.none,.none] } }) :=
 .of_wp fun prog w A R s y=>by
  obtain ⟨hp,g,d,tk,os⟩:=s
  obtain ⟨jl,y⟩:=y
  have fs:=sub_enumerate
  have fL:Heap.IsTuple (Shared.heap ⟨hp,g,d,tk,os⟩) t xs:=⟨_,jl,rfl,n,rfl⟩
  wp_walk using LF jl
  refine wpAny_stack_any fun st=>A0 ?_
  split
  ·rename_i c _ _ _ _ _
   cases (c == Ck "enumerate") <;> (wp_walk using LF jl,Py fL;exact ⟨_,rfl,y⟩)
  ·wp_walk using LF jl,Py fL;exact ⟨_,rfl,y⟩
theorem W5 {t:Ad} {xs:A7 Ah} {Q:Ah->Ai->Prop} (jt:s.heap.IsTuple t xs)
 (q:∀h',Gx h' (s.heap.objs.size+1) s.heap.objs.size 0 .none->h'.IsTupleIter s.heap.objs.size t 0->h'.objs.size=s.heap.objs.size+2->(∀b o,s.heap.get? b=Aa o->h'.get? b=Aa o)->Q (.ref (s.heap.objs.size+1)) { s with heap:=h' }) :
 Ar (A1 prog w) A (call (.type "enumerate") [.ref t]) Q E s:=by
 obtain ⟨⟨c,dct,dt,sl⟩,jl,jc,n,jd⟩:=jt
 cases (show c=.type "tuple" from jc)
 cases (show dt=.seq xs n from jd)
 refine callType_new U5 (by decide) (F.typeCall_enumerate_1 _) (F.newCall_enumerate_1 _) (fun o=>F.args_object_init_2 o _) U7 (Abj t xs n dct sl) ⟨jl,?_⟩
 have z1:(s.heap.push { cls:=.type "tuple_iterator",data:=.fields #[.ref t,.int 0 0] }).objs.size=s.heap.objs.size+1:=Er ..
 generalize eh:s.heap.push { cls:=.type "tuple_iterator",data:=.fields #[.ref t,.int 0 0] }=g1 at z1 ⊢
 have e1:Gx (g1.push { cls:=.type "enumerate",data:=.fields #[.none,.bool As,.ref s.heap.objs.size,rawInt 0,.none,.none] }) (s.heap.objs.size+1) s.heap.objs.size 0 .none:=by
  rw [<- z1];exact BE g1 rfl
 show _/\_;rw [z1]
 refine ⟨⟨_,e1,rfl⟩,q _ e1 ⟨_,Bk _ (by rw [<- eh];exact BE _ rfl),rfl,rfl⟩ (by rw [Er,z1]) fun b o x=>Bk _ (by rw [<- eh];exact Bk _ x)⟩
end
noncomputable def JI (K:A6) (a:Ad):It :=
 ⟨fun i H=>∃xs x,SqT K H a xs/\xs[i]?=Aa x,fun i H x H'=>∃T y,x=.ref T/\H T=Ag/\H'=upd H T (.tup [.int (i:Ac),y])/\∀xs,SqT K H a xs->xs[i]?=Aa y,fun i H=>∃xs,SqT K H a xs/\xs.length<=i⟩
theorem Abn {P:AN} {w:AA} {K:A6} {es:Ab A3} {k:Ae} {pos:Pos} (a e it:Ad) (hne:e≠it) (hea:e≠a) (hia:a≠it) :
 Fn P w K (.Tuple es k pos) (JI K a) [e,it] e (fun i h=>(∃old,Gx h e it (i:Ae) old)/\h.IsTupleIter it a i) where
 mem:=by simp
 obj:=fun i h st b hb=>by
  obtain ⟨⟨old,he⟩,o,e1,c,d⟩:=st
  rcases List.mem_cons.mp hb with z | z
  ·subst z
   exact ⟨_,he,fun v z=>by cases (show Kr _=Kq v from z)⟩
  ·have z':b=it:=by simpa using z
   subst z'
   exact ⟨o,e1,fun v z=>by rw [d] at z;cases z⟩
 keep:=fun i h h' st kk=>by
  obtain ⟨⟨old,he⟩,o,q,r⟩:=st
  exact ⟨⟨old,kk e (by simp) _ he⟩,o,kk it (by simp) o q,r⟩
 item:=by
  intro X hP hw hK hc i pins s σ H E I hf st hg
  subst hP hw hK
  obtain ⟨xs,x,hq,hx⟩:=hg
  obtain ⟨its,rv,p,hz⟩:=I.tuple hq
  obtain ⟨u,hu,ru⟩:=rv.get hx
  obtain ⟨⟨old,he⟩,hit⟩:=st
  have pT:s.heap.IsTuple a its.toArray:=p
  have hi:i < its.toArray.size:=by
   have:=(List.getElem?_eq_some_iff.mp hu).1
   simpa using this
  refine Wm (Abd (by simp [I.ok.hd hc]) it a hia its.toArray) he ⟨hit,pT⟩ hi hne (by simp [hne,hea]) fun x' h1 tk hPx ho hit1 hT hsz hk=>⟨_,rfl,?_⟩
  have ex:x'=u:=by
   have:its.toArray[i]?=Aa u:=by simpa using hu
   rw [this] at hPx
   exact (Bp hPx).symm
  subst ex
  refine Pu ho fun h2 he2 sb=>?_
  have fr:H s.heap.objs.size=Ag:=I.hok.fresh (AB _)
  have lte:e < s.heap.objs.size:=A' he
  have lti:it < s.heap.objs.size:=by obtain ⟨o,q,_⟩:=id hit;exact A' q
  refine ⟨.ref s.heap.objs.size,upd H s.heap.objs.size (.tup [.int (i:Ac),x]),?_,rfl,⟨_,x,rfl,fr,rfl,fun ys hy=>by rw [I.tuple_inj hy hq];exact hx⟩,⟨⟨_,by simpa using he2⟩,?_⟩,fun b hb=>?_⟩
  ·refine I.laidTurned (fp:=[e,it]) (t':=tk+1) (fun b o hb q=>(sb.2 b (fun z=>hb (by simp [z]))).trans (hk b o (fun z=>hb (by simp [z])) (fun z=>hb (by simp [z])) q)) hf (AB _) ?_
   refine ⟨by show 2<=A5;decide,[.int i tk,x'],.cons ⟨_,rfl⟩ (.cons ru .nil),⟨_,(sb.2 _ (DC lte)).trans hT,rfl,_,rfl⟩⟩
  ·obtain ⟨o,q,r⟩:=hit1.1
   exact ⟨o,(sb.2 it (AM hne)).trans q,r⟩
  ·rw [AF (fun z=>?_)]
   ·exact (hf b hb).1
   ·rcases List.mem_cons.mp hb with q | q
    ·rw [q] at z;exact A8 lte (by rw [z];exact CQ _)
    ·have q':b=it:=by simpa using q
     rw [q'] at z;exact A8 lti (by rw [z];exact CQ _)
 done:=by
  intro X hP hw hK hc i pins s σ H E I hf st hg
  subst hP hw hK
  obtain ⟨xs,hq,hx⟩:=hg
  obtain ⟨its,rv,p,hz⟩:=I.tuple hq
  obtain ⟨f0,f1,f2,f3,f4,f5⟩:=hf it (by simp)
  obtain ⟨⟨old,he⟩,hit⟩:=st
  have hl:=rv.length
  exact Abe (I.ok.hd hc) he hit (show s.heap.IsTuple a its.toArray from p) (by simp;omega) fun h' eb=>⟨rfl,I.turned (t':=s.toks) (fun b o hb e=>eb b o hb e) f0 f1 f3 f4 f5⟩
 self:=fun _ _ _ _ _ st h=>by
  obtain ⟨⟨old,he⟩,_⟩:=st
  exact JD he h
section
variable {X:Cx}
noncomputable def Xz (K:A6) (ta:TA):TI:=fun σ H R=>ta σ H fun vs H1=>∃a,vs=[.ref a]/\(∃xs,SqT K H1 a xs)/\R (JI K a) H1
theorem YZ {l:A3} {ta:TA} {p pos pt:Pos} {es:Ab A3} {k:Ae} (hg:Gl X "enumerate") (hm:X.mg "enumerate"=Ag) (ha:PA X [l] ta) (hs:Bh [l] X.env=[(As,eval l X.env)]:=by rfl) :
 PI X (.Tuple es k pt) (.Call (.Name "enumerate" p) [l] [] pos) (Xz X.K ta):=by
 intro pins s σ H R I h
 refine Call_ (Dx I hg hm Pd (Jq (thn (ha pos pins s σ H _ I h) fun us s1 ⟨vs,H1,I1,r1,q1⟩=>?_) hs rfl))
 obtain ⟨a,e,⟨xs,hq⟩,q⟩:=q1
 subst e
 cases r1 with
 | cons r rr =>
   cases rr
   cases r
   obtain ⟨its,rv,pl,hz⟩:=I1.tuple hq
   have pT:s1.heap.IsTuple a its.toArray:=pl
   have la:a < s1.heap.objs.size:=by obtain ⟨o,z,_⟩:=id pT;exact A' z
   refine W5 pT fun h' he hit hsz hk=>?_
   refine JD (s:={ s1 with heap:=h' }) he ?_
   refine ⟨s1.heap.objs.size+1,[s1.heap.objs.size+1,s1.heap.objs.size],_,_,H1,rfl,I1.kept (t':=s1.toks) hk,Abn a _ _ (K8 _) (DC (Hm la)) (Bx la),⟨⟨_,he⟩,hit⟩,fun b hb=>?_,q⟩
   have ge:s1.heap.objs.size<=b:=by
    rcases List.mem_cons.mp hb with z | z
    ·rw [z];exact Ec _
    ·have z':b=s1.heap.objs.size:=by simpa using z
     rw [z'];exact AB _
   exact I1.fpOk ge (I1.hok.fresh ge)
end
theorem W' {K:A6} {a:Ad} {xs:Ab V} {g:TG} {tb:TS} {D:CF} {σ:St} {H:Hp} (Pv:Ae->St->Hp->Prop) (h0:Pv 0 σ H) (hl:∀i σ H,i<=xs.length->Pv i σ H->SqT K H a xs)
 (hs:∀i x T σ H,xs[i]?=Aa x->Pv i σ H->H T=Ag->g (.ref T) σ (upd H T (.tup [.int (i:Ac),x])) fun σ2 H2=>tb { D with nx:=Pv (i+1),ct:=Pv (i+1),bk:=D.nx } σ2 H2) (hd:∀σ H,Pv xs.length σ H->D.nx σ H) :
 ∃W:Ae->Ae->St->Hp->Prop,(∃m,W 0 m σ H)/\∀i m σ H,W i m σ H ->
  ((JI K a).stop i H/\D.nx σ H)\/((JI K a).go i H/\∃N:St->Hp->Prop,(∀σ' H',N σ' H'->∃m',m' < m/\W (i+1) m' σ' H')/\∀x H',(JI K a).yld i H x H'->g x σ H' fun σ2 H2=>tb { D with nx:=N,ct:=N,bk:=D.nx } σ2 H2):=by
 refine ⟨fun i m σ H=>m=xs.length - i/\i<=xs.length/\Pv i σ H,⟨xs.length,by simp,BQ _,h0⟩,?_⟩
 rintro i m σ H ⟨rfl,hi,p⟩
 have q:=hl i σ H hi p
 by_cases hlt:i < xs.length
 ·refine .inr ⟨⟨xs,xs[i],q,by simp [hlt]⟩,Pv (i+1),fun σ' H' p'=>⟨xs.length - (i+1),by omega,rfl,hlt,p'⟩,fun x H' y=>?_⟩
  obtain ⟨T,y,rfl,hT,rfl,hy⟩:=y
  exact hs i y T σ H (hy xs q) p hT
 ·have e:i=xs.length:=by omega
  subst e
  exact .inl ⟨⟨xs,q,AB _⟩,hd σ H p⟩
end L2
namespace L2
open PySem PySem.Spec PyProof.Rows
theorem Nx {α β:Type} (f:α->β):∀(xs:Ab α) (j:Ae),(xs.map f).eraseIdx j=(xs.eraseIdx j).map f
 | [],_=>rfl
 | _ :: _,0=>rfl
 | x :: xs,j+1=>BR (f x :: ·) (Nx f xs j)
section
variable {X:Cx}
end
theorem Ue:∀{xs:Ab V} {us:Ab Ah},xs.length=us.length->(∀(i:Ae) x u,xs[i]?=Aa x->us[i]?=Aa u->Ba x u)->AW xs us
 | [],[],_,_=>.nil
 | [],_ :: _,h,_=>by cases h
 | _ :: _,[],h,_=>by cases h
 | x :: xs,u :: us,h,k=>.cons (k 0 x u rfl rfl) (Ue (Nat.succ.inj h) fun i y v h1 h2=>k (i+1) y v h1 h2)
section
variable {X:Cx} {e:A3} {te:TE} {p p2 pos pos2:Pos}
noncomputable def AaO (te:TE):TE:=fun σ H Q=>te σ H fun x H1=>∃n:Ae,x=.int (n:Ac)/\n < 1000/\∀l,H1 l=Ag->Q (.ref l) (upd H1 l (.lst ((Bz n).map fun i:Ae=>V.int (i:Ac))))
theorem NE (hc:X.calm=Af) (hg:Gl X "list") (hm:X.mg "list"=Ag) (hg2:Gl X "range") (hm2:X.mg "range"=Ag) (he:PE X e te)
 (hs:Bh [e] X.env=[(As,eval e X.env)]:=by rfl)
 (hs2:Bh [(.Call (.Name "range" p2) [e] [] pos2:A3)] X.env=[(As,eval (.Call (.Name "range" p2) [e] [] pos2) X.env)]:=by rfl) :
 PE X (.Call (.Name "list" p) [.Call (.Name "range" p2) [e] [] pos2] [] pos) (AaO te):=by
 intro pins s σ H Q I h
 refine EL (Dx I hg hm boot_list ?_ (by decide) (by decide))
 refine callWith_type1 ?_ hs2 rfl
 rw [hs2]
 refine E_ ?_
 refine EL (Dx I hg2 hm2 M6 ?_ (by decide) (by decide))
 refine callWith_type1 ?_ hs rfl
 rw [hs]
 refine E_ (thn (he pins s σ H _ I h) fun u s1 hq_=>?_)
 obtain ⟨x,H1,I1,r1,n,hx,hn,q⟩:=hq_
 subst hx
 obtain ⟨t,rfl⟩:=r1
 refine FI ?_
 refine call_range_1 ?_
 refine FI ?_
 refine call_list_range (n:=n) (I1.ok.hd hc) (Os ..) (small_one (by omega) (by omega) (by omega) (by omega)) (by rw [rangeSize_one];split <;> omega) (by omega) fun h' tk acc c' kp eS it=>?_
 have kp':∀b o,s1.heap.get? b=Aa o->h'.get? b=Aa o:=fun b o e=>kp b o (Bk _ e)
 have hp:s1.heap.objs.size<=(s1.heap.push { cls:=.type "range",data:=.fields #[.int 0 s1.toks,.int (n:Ac) t,.int 1 (s1.toks+1)] }).objs.size:=by simp [Heap.push]
 have rv:AW ((Bz n).map fun i:Ae=>V.int (i:Ac)) acc.toList:=by
  refine Ue (by simp [it.1]) fun i x u hx hu=>?_
  rw [Bm] at hx
  obtain ⟨t',e⟩:=it.2 i u (by simpa using hu)
  have hi:i < n:=by
   have:=(List.getElem?_eq_some_iff.mp hu).1
   rw [DA,it.1] at this
   exact this
  rw [Oy hi] at hx
  have hx':x=V.int (i:Ac):=(Bp hx).symm
  subst hx'
  exact ⟨t',by rw [e];simp⟩
 have hz:((Bz n).map fun i:Ae=>V.int (i:Ac)).length<=A5:=by rw [Aw,DB];exact EG (DJ (by omega))
 exact ⟨.ref _,_,I1.laid (t':=tk) kp' hp (show BD X.prog X.w _ h' _ (.lst ((Bz n).map fun i:Ae=>V.int (i:Ac))) from ⟨hz,acc.toList,c',rv,by simpa using eS⟩),rfl,q _ (I1.hok.fresh hp)⟩
end
section
variable {prog:AN} {w:AA} {A:AV} {E:Ah->Ai->Prop} {s:Ai}
end
section
variable {X:Cx}
end
end L2
namespace L2
open PySem PySem.Spec PyProof.Rows
section
variable {P:AN} {w:AA} {K:A6} {mg:Ak->Ay Ah} {base:AC}
end
section
variable {X:Cx} {k:Ae} {f:Ad} {fd:AE} {ps:Ab Ak} {sp:Sp} {x:Ak} {p pos:Pos} {e:A3} {es:Ab A3} {t:TA}
end
section
variable {X:Cx}
end
end L2
namespace L2
open PySem PySem.Spec PyProof.Rows
section
variable {prog:AN} {w:AA} {A:AV} {E:Ah->Ai->Prop} {s:Ai}
end
section
variable {X:Cx} {pins:Ab (Ad × A4)} {σ:St} {H:Hp}
end
end L2
namespace L2
open PySem PySem.Spec PyProof.Rows
section
variable {prog:AN} {w:AA} {A:AV} {E:Ah->Ai->Prop} {s:Ai}
end
section
variable {X:Cx}
end
end L2
namespace L2
open PySem PySem.Spec PyProof.Rows
structure JF (K:A6) (x qual:Ak) (st:AD) (f:Ad) (fd:AE):Prop where
 ex:∃(oc:Ah) (od:Ay Ad) (dV kV doc pm:Ah) (an:Ay Ad) (cdv ct:Ah) (osl:A7 (Ay Ah)),
  fd=AK x qual (AQ st) (AJ st) (Aq st) dV kV doc pm an cdv ct/\K.lookup f=Aa ⟨oc,od,.func fd,osl⟩/\AS K cdv qual=Af
 kp:AL K (.ref f)=Af
section
variable {P:AN} {w:AA} {K:A6} {mg:Ak->Ay Ah} {base:AC}
theorem JF.ok {x qual:Ak} {st:AD} {f:Ad} {fd:AE} {N ps:Ab Ak} {k:Ae} {sp:Sp} (F:JF K x qual st f fd) (S:AT N ps (Aq st)) (len:∀vs H Q E,sp vs H Q E->vs.length=ps.length)
 (hbody:∀(cdv:Ah) (A:AV) (outer:Ab BK) (s:Ai) (H:Hp) (vs:Ab V) (Q:VK) (E:XK),Cc k (A.deeper (envOfC qual (Aq st) s.heap.objs.size f cdv))->sp vs H Q E ->
  ∃t,PSs (GC CX0 P w K mg base N qual (Aq st) f cdv A outer s H E).nox (AJ st) t/\t { nx:=fun _ H'=>Q .non H',rt:=Q } (FD N vs) H):AG P w K mg base CX0 (k+1) f fd ps sp:=by
 obtain ⟨oc,od,dV,kV,doc,pm,an,cdv,ct,osl,rfl,lk,hcd⟩:=F.ex
 refine Qx lk hcd S len fun A outer s H vs Q E hr hsp=>?_
 obtain ⟨t,h,q⟩:=hbody cdv A outer s H vs Q E hr hsp
 exact ⟨t,h.nox,q⟩
theorem Qy {x qual:Ak} {st:AD} {f:Ad} {oc:Ah} {od an:Ay Ad} {osl:A7 (Ay Ah)} {dV kV doc pm cdv ct:Ah} (l:K.lookup f=Aa ⟨oc,od,.func (AK x qual (AQ st) (AJ st) (Aq st) dV kV doc pm an cdv ct),osl⟩)
 (c:AS K cdv qual=Af) (k:AL K (.ref f)=Af):JF K x qual st f (AK x qual (AQ st) (AJ st) (Aq st) dV kV doc pm an cdv ct):=⟨⟨oc,od,dV,kV,doc,pm,an,cdv,ct,osl,rfl,l,c⟩,k⟩
end
structure CFn (K:A6) (C:Ad) (m:Ak) (f:Ad):Prop where
 sg:OU K (.ref C) "__getattribute__"=Aa (Aa (.builtin "type.__getattribute__"))
 rd:VA K C (.type "type")=Af
 at_:V4 K (.ref C) (.type "type") m=Aa (.val (.ref f))
section
variable {X:Cx} {CX:CXT} {W:St->XK} {k:Ae} {f C:Ad} {fd:AE} {ps:Ab Ak} {sp:Sp} {dvs:Ab V} {ds:Ab Ah} {E:XK} {x m:Ak} {p pos apos:Pos} {e o:A3} {es:Ab A3} {ta:TE} {t:TA}
theorem YL {pl:C2 AR} (F:AG X.prog X.w X.K X.mg X.base CX k f fd ps sp) (hr:Cc k X.A) (hg:Gl X x) (hm:X.mg x=Aa (.ref C)) (c:CFn X.K C m f) (hk:AL X.K (.ref f)=Af) (hb:AI X.K fd ps ds) (hd:AW dvs ds) (hx:Gc CX X E) (ha:PA X (e :: es) t)
 (hdb:(x == ("__debug__":Ak))=As:=by decide) (hst:Bh (e :: es) X.env=(As,eval e X.env) :: Bh es X.env:=by rfl) (hpl:(backTo pos (Bh es X.env)).any (·.1)=As:=by rfl)
 (ht:eval (.Call (.Attribute (.Name x p) m apos) (e :: es) [] pos) X.env=(do
  let ov <- eval (.Name x p) X.env
  standAt apos.atName
  let (f,first) <- holding [ov] (getMethod ov m pl)
  callWith pos f first (backTo pos (Bh (e :: es) X.env)) (backToKw pos (keywordEach [] X.env))):=by rfl) :
 PE X (.Call (.Attribute (.Name x p) m apos) (e :: es) [] pos) (T7 sp dvs E t):=by
 intro pins s σ H Q I h
 refine OR (pl:=pl) (JX I hg hm ?_ hdb) ht
 refine PySem.W.method_cls I.kIn c.sg (PySem.W.cls_value I.kIn c.rd c.at_ rfl ?_)
 refine Mx (first:=[]) (h₀:=X.base) I.ok.mod.kin hk (thn (ha pos pins _ σ H _ (I.tok _) h) fun us s1 ⟨vs,H1,I1,r,q⟩=>⟨I1.kIn,?_⟩) hst hpl
 exact Lu F hr hb hd hx I1 r q
theorem ND (K:A6) {g:Ak} (he:PE X o ta) (hb:attributeBase o g X.env (eval o X.env)=eval o X.env) (hK:X.K=K:=by rfl):PE X (.Attribute o g pos) (T9 K ta g):=by
 subst hK
 exact B4 he hb
theorem Yp {K:A6} (hK:X.K=K:=by rfl):MtR X "list.count" (fun x vs H Q=>∃(a:Ad) (ns:Ab Ac) (k:Ac),x=.ref a/\vs=[.int k]/\SqL K H a (ns.map V.int)/\Q (.int (ns.count k:Ae)) H):=by
 subst hK
 intro pins s σ H x vs v us Q I rx rv h
 obtain ⟨a,ns,k,rfl,rfl,hq,q⟩:=h
 cases rx
 obtain ⟨u,rfl,t,rfl⟩:=EY rv
 obtain ⟨its,rv,pl,hz⟩:=I.list hq
 exact count_list_ints pl.isList (Ft rv) ⟨.int _,H,I.tok _,⟨_,rfl⟩,q⟩
end
end L2
namespace L2
open PySem PySem.Spec PyProof.Rows
structure KS (N Nc:Ab Ak) (x:Ak) (sc fsc:B1):Prop where
 kind:sc.kind=.function
 one:(sc.names.filter fun y=>y.2 == .cell)=[(x,.cell)]
 nm:∀y∈sc.names,y.2=.local->sc.names.lookup y.1=Aa .local
 own:sc.names.lookup x=Aa .cell
 fr:∀y∈sc.names,y.2=.free->fsc.names.lookup y.1=Aa .cell\/fsc.names.lookup y.1=Aa .free
 len:Nc.length=N.length+1
 nd:Nc.Nodup
 last:Nc[N.length]?=Aa x
 slot:((Bz N.length).all fun i=>match Nc[i]? with
  | some y=>(match sc.names.lookup y with | some .free=>N[i]? == Aa y | some .local=>As | some .cell=>As | _=>Af)
  | none=>Af)=Af
theorem KS.at {N Nc:Ab Ak} {x:Ak} {sc fsc:B1} (C:KS N Nc x sc fsc) {i:Ae} {y:Ak} (hi:i < N.length) (h:Nc[i]?=Aa y):sc.names.lookup y≠Aa .local/\sc.names.lookup y≠Aa .cell/\(sc.names.lookup y=Aa .free->N[i]?=Aa y):=by
 have q:=List.all_eq_true.mp C.slot i (List.mem_range.mpr hi)
 rw [h] at q
 dsimp only at q
 cases e:sc.names.lookup y with
 | none=>exact ⟨fun z=>(nomatch z),fun z=>(nomatch z),fun z=>(nomatch z)⟩
 | some k =>
   rw [e] at q
   cases k with
   | «local»=>exact A8 (show As=Af from q) B8
   | cell=>exact A8 (show As=Af from q) B8
   | free=>exact ⟨fun z=>(nomatch z),fun z=>(nomatch z),fun _=>by simpa using q⟩
   | _=>exact ⟨fun z=>(nomatch z),fun z=>(nomatch z),fun z=>(nomatch z)⟩
theorem MZ:∀(names:Ab (Ak × FQ)) (n:Ae) (acc:Ab (Ak × Ad)),cellsFrom n names acc=cellsFrom n (names.filter fun y=>y.2 == .cell) acc
 | [],_,_=>rfl
 | (y,k) :: r,n,acc=>by
   rw [UQ]
   cases e:k == Hk with
   | true=>simp only [Fh,cellsFrom,e];exact MZ r _ _
   | false=>simp only [Eo,Dj,cellsFrom,e];exact MZ r _ _
theorem NK:∀(names:Ab (Ak × FQ)) (h:AC),pushCells h names=pushCells h (names.filter fun y=>y.2 == .cell)
 | [],_=>rfl
 | (y,k) :: r,h=>by
   rw [UQ]
   cases e:k == Hk with
   | true=>simp only [Fh,pushCells,e];exact NK r _
   | false=>simp only [Eo,Dj,pushCells,e];exact NK r _
theorem Ab4 {M:DR} {A:AV} {E:Ah->Ai->Prop} {s:Ai} {scope:B1} {globals:Ad} {closure:Ab (Ak × Ad)} {qual:Ak} {outer:BK} {x:Ak} {Q:BK->Ai->Prop}
 (one:(scope.names.filter fun y=>y.2 == .cell)=[(x,.cell)])
 (hQ:Q (newEnv scope s.heap.objs.size globals ((x,s.heap.objs.size+1) :: closure) qual Ag .none (Aa outer) builtinsNs) { s with heap:=(s.heap.push { cls:=.type "dict",data:=.dict #[] }).push { cls:=.type "cell",data:=.cell Ag } }) :
 Ar M A (newFunctionEnv scope globals closure [] qual Ag .none (Aa outer)) Q E s:=by
 simp only [newFunctionEnv,Vl,Fh]
 refine Al (wpAny_alloc ?_)
 refine Al (wpAny_layCells _ (fun name kind cells=>by cases hkc:kind == Hk <;> simp [hkc]) _ _ _ _ ?_)
 rw [MZ,NK,one]
 rw [show ({ s with heap:=s.heap.push { cls:=.type "dict",data:=.dict #[] } }:Ai).heap.objs.size=s.heap.objs.size+1 from Er ..]
 rw [K5]
 exact Al (A0 (A0 hQ))
theorem KS.g {N Nc:Ab Ak} {x:Ak} {sc fsc:B1} (c:KS N Nc x sc fsc):HA N Nc 1 sc fsc (fun y=>decide (y=x)) (fun k cl=>(x,k+1) :: cl) :=
 ⟨c.kind,c.nm,fun y=>⟨fun h=>by
  have m:(y,Hk)∈sc.names.filter fun y=>y.2 == .cell:=List.mem_filter.mpr ⟨Ff h,rfl⟩
  rw [c.one] at m
  exact Be (Ms (List.mem_singleton.mp m)).1,fun h=>by rw [DD h];exact c.own⟩,c.fr,c.len,c.at,fun {_ _ _ s} _ _ _ _ _ h=>Ab4 c.one (h _ ((Heap.Ns.new s.heap (.type "dict")).keeps fun b o e=>Bk _ e) (fun b o e=>Bk _ (Bk _ e)) fun y c' f e=>by
   rw [DD f,FN,show (x == x)=Af by simp] at e
   rw [<- Bp e]
   refine ⟨{ cls:=.type "cell",data:=.cell Ag },?_,rfl⟩
   have:=BE (s.heap.push { cls:=.type "dict",data:=.dict #[] }) (o:={ cls:=.type "cell",data:=.cell Ag }) rfl
   rw [Er] at this
   exact this),
  fun {k cl y c'} h=>by
   rw [FN] at h
   cases hb:y == x with
   | true=>rw [hb] at h;exact .inl ⟨Be (by simpa using hb),by rw [<- Bp h];exact Fe _⟩
   | false=>rw [hb] at h;exact .inr ⟨Bo (by simpa using hb),h⟩,
  fun {k cl y} h=>by rw [FN,show (y == x)=As by simpa using Pj h],
  fun {k cl y} h=>⟨k+1,by rw [DD h,FN,show (x == x)=Af by simp]⟩,fun h g=>(DD h).trans (DD g).symm⟩
section
variable {X:Cx} {elt iter:A3} {x:Ak} {px pos:Pos} {ifs:Ab A3} {sc fsc:B1} {N Nc:Ab Ak} {wi:TI} {tt:TT} {te:TE}
end
section
variable {X:Cx} {elt iter:A3} {x:Ak} {px pos:Pos} {ifs:Ab A3} {sc fsc:B1} {N Nc:Ab Ak} {wi:TI} {tt:TT} {te:TE}
end
noncomputable def NN (sc fsc:B1):B1:={ sc with names:=sc.names.map fun (n,k)=>if (k == .free && fsc.kind == .function && fsc.names.lookup n == Aa .cell) then (n,.cell) else (n,k) }
theorem ZM {X:Cx} {sc fsc:B1} (h:X.env.scope=fsc):relabel sc X.env=NN sc fsc:=by
 subst h
 rfl
section
variable {X:Cx} {elt iter:A3} {x y:Ak} {py pos:Pos} {ifs:Ab A3} {sc sc2 fsc:B1} {Nc Nd:Ab Ak} {wi:TI} {tt:TT} {te:TE} {cl:Ab (Ak × Ad)} {s:Ai} {H:Hp} {ex:Ab Ad}
end
theorem Y_ {X:Cx} {tg e:A3} {te:TE} (K:A6) (he:PE X e te) (h:X.K=K:=by rfl):PI X tg e (Q5 K te):=by
 subst h
 exact B_ he
end L2
namespace L2
open PySem PySem.W PySem.Spec PyProof.Rows
section
variable {X:Cx} {pins:Ab (Ad × A4)} {σ:St} {H:Hp} {s:Ai} {c P:Ad} {pos:Pos} {params:Km} {body:A3} {sc:B1} {cl:Ab (Ak × Ad)} {q:Ak} {M:DR} {A:AV} {E:Ah->Ai->Prop} {Q:Ah->Ai->Prop}
end
section
variable {X:Cx} {pins:Ab (Ad × A4)} {σ:St} {H:Hp} {s:Ai} {params:Km} {body:A3} {sc fsc:B1} {cl:Ab (Ak × Ad)} {q x:Ak} {A:AV} {N Nc:Ab Ak} {f c':Ad} {te:TE} {E:Ah->Ai->Prop}
end
section
variable {X:Cx} {pins:Ab (Ad × A4)} {σ:St} {H:Hp}
variable {xs:Ab V} {l f I S:Ad}
end
section
variable {M:DR} {A:AV} {E:Ah->Ai->Prop} {s:Ai} {env:BK}
end
section
variable {X:Cx} {c P:Ad} {e body:A3} {tl tb:TE} {sc fsc:B1} {N Nc:Ab Ak} {x:Ak} {params:Km} {lpos kp p pos:Pos}
end
end L2
namespace L2
open PySem PySem.W PySem.Spec PyProof.Rows
section
variable {prog:AN} {w:AA} {A:AV} {E:Ah->Ai->Prop} {s:Ai}
end
section
variable {prog:AN} {w:AA} {A:AV} {E:Ah->Ai->Prop} {s:Ai}
end
section
variable {X:Cx} {e e2:A3} {te te2:TE} {p p2 p3 pos pos2 pos3 pos4:Pos}
end
end L2
namespace L2
open PySem PySem.W PySem.Spec PyProof.Rows
section
variable {prog:AN} {w:AA} {A:AV} {E:Ah->Ai->Prop} {s:Ai} {Q:AR->Ai->Prop}
end
section
variable {X:Cx}
end
end L2
namespace L2
open PySem PySem.Spec PyProof.Rows
section
variable {prog:AN} {w:AA} {A:AV} {E:Ah->Ai->Prop} {s:Ai} {d:Ad} {es:A7 Gu} {ep:Ae}
end
section
variable {X:Cx}
end
section
variable {prog:AN} {w:AA} {A:AV} {E:Ah->Ai->Prop} {s:Ai}
end
section
variable {X:Cx}
end
end L2
namespace PySem
open Sem (wp)
section
variable {prog:AN} {w:AA} {K:Type} [Je K] (knd:KeyKind prog w K)
variable {knd}
variable {A:AV} {E:Ah->Ai->Prop} {s:Ai}
end
end PySem
namespace L2
open PySem PySem.Spec PyProof.Rows
section
variable {P:AN} {w:AA} {H:Hp} {h:AC} {a:Ad}
end
section
variable {X:Cx} {o i e value:A3} {pos pos' tpos:Pos} {td ty tv:TE}
end
end L2
namespace L2
open PySem PySem.Spec PyProof.Rows
section
variable {prog:AN} {w:AA} {A:AV} {E:Ah->Ai->Prop} {s:Ai}
end
section
variable {prog:AN} {w:AA} {A:AV} {E:Ah->Ai->Prop} {s:Ai}
end
section
variable {X:Cx} {pins:Ab (Ad × A4)} {σ:St} {H:Hp}
end
section
variable {X:Cx} {e:A3} {te:TE} {p p2 pos pos2:Pos}
end
end L2
namespace L2
open PySem PySem.Spec PyProof.Rows
section
variable {X:Cx} {pins:Ab (Ad × A4)} {σ:St} {H:Hp}
end
end L2
namespace L2
open PySem PySem.Spec PyProof.Rows
end L2
namespace L2
open PySem PySem.W PySem.Spec PyProof.Rows
section
variable {O:KeyOrd} {ky:Ae->O.α} {n:Ae} {cmp:Ae->Ae->(AR->Ai->Prop)->Ai->Prop} {J:Ai->Prop}
end
end L2
namespace L2
open PySem PySem.Spec PyProof.Rows
section
variable {X:Cx} {E:XK} {k:Ae} {f:Ad} {fd:AE} {ps:Ab Ak} {sp:Sp} {dvs:Ab V} {ds:Ab Ah} {x:Ak} {p pos:Pos} {e:A3} {es:Ab A3} {t:TA}
end
section
variable {X:Cx} {elt iter:A3} {x:Ak} {px pos:Pos} {ifs:Ab A3} {sc fsc:B1} {N Nc:Ab Ak} {wi:TI} {tt:TT} {te:TE}
end
end L2
namespace L2
open PySem PySem.Spec PyProof.Rows
section
variable {prog:AN} {w:AA} {A:AV} {E:Ah->Ai->Prop} {s:Ai}
end
section
variable {X:Cx} {elt a:A3} {x:Ak} {px pos rp rpos:Pos} {ifs:Ab A3} {sc fsc:B1} {N Nc:Ab Ak} {ta:TA} {tt:TT} {te:TE} {e:Ad}
end
section
variable {P:AN} {w:AA} {K:A6} {mg:Ak->Ay Ah} {base:AC}
end
section
variable {X:Cx} {k:Ae} {f:Ad} {fd:AE} {ps:Ab Ak} {sp:Ad->Sp} {x:Ak} {p pos:Pos} {e:A3} {es:Ab A3} {t:TA} {ev:Ad}
end
end L2
namespace L2
open PySem PySem.W PySem.Spec PyProof.Rows
section
variable {prog:AN} {w:AA} {A:AV} {E:Ah->Ai->Prop} {s:Ai} {κ:SortKind} {a₀:A7 Keyed}
section
variable {a b:A7 Keyed}
end
section
variable {a b:A7 Keyed}
end
end
section
variable {X:Cx}
end
end L2
namespace L2
open PySem PySem.Spec PyProof.Rows
section
variable {X:Cx} {elt iter:A3} {x1 x2:Ak} {p1 p2 pt pos:Pos} {k:Ae} {ifs:Ab A3} {sc sc2 fsc:B1} {Nc Nd:Ab Ak} {wi:TI} {tt:TT} {te:TE} {cl:Ab (Ak × Ad)} {s:Ai} {H:Hp} {ex:Ab Ad}
theorem YM (hE:X.env.scope=fsc) (cn:E1 Nc Nd [x1,x2] sc2 (NN sc fsc)) (hc:X.calm=Af) (hi:PI (X.inComp Nc sc cl s H ex) (.Tuple [.Name x1 p1,.Name x2 p2] k pt) iter wi)
 (ht:∀cl' s' H' ex',Ek ((X.inComp Nc sc cl s H ex).inComp Nd sc2 cl' s' H' ex') ifs tt) (he:∀cl' s' H' ex',PE ((X.inComp Nc sc cl s H ex).inComp Nd sc2 cl' s' H' ex') elt te)
 (hs:∀v,Fg iter (X.inComp Nc sc cl s H ex).env v=pure v:=by intro _;rfl):PE (X.inComp Nc sc cl s H ex) (.ListComp elt [⟨.Tuple [.Name x1 p1,.Name x2 p2] k pt,iter,ifs,0⟩] sc2 pos) (Kj 2 wi (HJ X.K 2 (EM (CU Nc.length) (EM (CU (Nc.length+1)) JT))) tt te) :=
 Lq (X:=X.inComp Nc sc cl s H ex) (fsc:=NN sc fsc) (N:=Nc) (ZM hE) rfl cn hc hi ht he hs
end
theorem WC {X:Cx} (K:A6) (hc:X.calm=Af:=by rfl) (h:X.K=K:=by rfl):Dk X (.builtin "sum") (fun xs H Q=>∃(p:Ad) (ns:Ab Ac),xs=[.ref p]/\SqL K H p (ns.map V.int)/\Q (.int ns.sum) H):=by
 subst h
 exact JN hc
end L2
set_option maxHeartbeats 4000000
namespace Law
open PySem L2
inductive Kd (K:A6) (vs:Ab V) (H:Hp) (Q:VK) (E:XK):Prop
 | mk (p:Ad) (ns:Ab Ac):vs=[.ref p]->SqL K H p (ns.map V.int)->ns.length<=63->(∀H',Q (.bl Af) H')->Kd K vs H Q E
noncomputable def Tu:Sp:=fun vs H Q _=>∃c:Ac,vs=[.int c]/\Q (.bl Af) H
theorem A2 {H:Hp} {p:Ad} (h:H p=Ag) (o:HO):Ax H (upd H p o):=fun b u q=>by rw [AF (DX q h)];exact q
theorem CI (x:Ac) {y:Ac} (h:0 < y):0<=x.fmod y/\x.fmod y < y:=⟨Int.fmod_nonneg_of_pos x h,Int.fmod_lt_of_pos x h⟩
theorem AaB (x:Ac) {y:Ac} {n:Ae} (h:0 < y) (k:Sz n y):Sz n (x.fmod y):=by
 have e:=CI x h
 unfold Sz at k ⊢
 omega
noncomputable def C5 (a b:Ac):Ac:=(ED a b:Ae)
theorem KZ (a:Ac):(if a < 0 then -a else a)=(a.natAbs:Ac):=by
 by_cases h:a < 0
 ·rw [At h];omega
 ·rw [Ao h];omega
theorem Xf (a b:Ac):ED (if a < 0 then -a else a) (if b < 0 then -b else b)=ED a b:=by
 rw [KZ,KZ]
 unfold ED
 rw [Hd,Hd]
theorem Xh {x y:Ac} (hx:0<=x) (hy:0 < y):ED y (x.fmod y)=ED x y:=by
 rw [Oj x (Gv hy)]
 obtain ⟨m,rfl⟩:=UH hx
 obtain ⟨n,rfl⟩:=UH (Gv hy)
 have e:((m:Ac) % (n:Ac))=((m % n:Ae):Ac):=(Int.natCast_emod m n).symm
 rw [e]
 unfold ED
 rw [Hd,Hd,Hd]
 rw [Nat.gcd_comm m n,Nat.gcd_rec n m,Nat.gcd_comm]
theorem Xg {x y:Ac} (hx:0<=x) (hy:0<=y) (h:¬ 0 < y):x=C5 x y:=by
 have e:y=0:=by omega
 subst e
 unfold C5
 rw [Int.gcd_zero]
 omega
theorem Xe (a b:Ac):0<=C5 a b:=Oq _
theorem Qz {a b:Ac} (h:b≠0):C5 a b≠0:=by
 intro e
 have z:ED a b=0:=by unfold C5 at e;omega
 exact h (Int.gcd_eq_zero_iff.mp z).2
noncomputable def Dl (t b:Ac):Ac:=if b < 0 then -(C5 t b) else C5 t b
noncomputable def Dy (t b:Ac):Ac:=t.fdiv (Dl t b)
noncomputable def Db (t b:Ac):Ac:=b.fdiv (Dl t b)
theorem PY {t b:Ac} (h:b≠0):Dl t b≠0:=by
 have e:=Qz (a:=t) h
 unfold Dl
 by_cases c:b < 0
 ·rw [At c];omega
 ·rw [Ao c];exact e
theorem QQ {t b:Ac} (h:b≠0):0 < Db t b:=by
 have g0:C5 t b≠0:=Qz h
 have gn:=Xe t b
 have d:C5 t b ∣ b:=UI ..
 obtain ⟨k,hk⟩:=d
 unfold Db Dl
 by_cases c:b < 0
 ·rw [At c]
  have e:b=-(C5 t b)*(-k):=by rw [Int.neg_mul_neg];exact hk
  have e2:b.fdiv (-(C5 t b))=-k:=by
   conv=>lhs;arg 1;rw [e]
   exact Kt (-k) (by omega)
  rw [e2]
  rcases (by omega:k < 0\/0<=k) with z | z
  ·omega
  ·have:=Op gn z
   omega
 ·rw [Ao c]
  have e2:b.fdiv (C5 t b)=k:=by
   conv=>lhs;arg 1;rw [hk]
   exact Kt k g0
  rw [e2]
  rcases (by omega:0 < k\/k<=0) with z | z
  ·exact z
  ·have:=UK gn z
   omega
theorem W3 {x y:Ac}:Dl x y ∣ x:=by
 have d:C5 x y ∣ x:=Int.gcd_dvd_left ..
 unfold Dl
 by_cases c:y < 0
 ·rw [At c];exact Int.neg_dvd.mpr d
 ·rw [Ao c];exact d
noncomputable def Aay:Sp:=fun vs H Q _=>∃a b:Ac,vs=[.int a,.int b]/\Q (.int (C5 a b)) H
inductive SD (vs:Ab V) (H:Hp) (Q:VK) (E:XK):Prop
 | mk (t b:Ac):vs=[.int t,.int b]->b≠0->Sz 13500 t->Sz 13500 b->(∀(p:Ad) (H':Hp),Ax H H'->H' p=Aa (.tup [.int (Dy t b),.int (Db t b)])->Q (.ref p) H')->SD vs H Q E
theorem Ab2 {i:Ae} {c:Ac} {g:Ac->Ac->V}:∀(σ:St) (H:Hp) (Q Q':AR->Hp->Prop),(∀b H1,Q b H1->Q' b H1)->NU (tOp (rI0 g) (Kk i) (tC (.int c))) σ H Q->NU (tOp (rI0 g) (Kk i) (tC (.int c))) σ H Q':=by
 rintro σ H Q Q' hq ⟨v,e,i,j,e1,e2,k,ek,h⟩
 exact ⟨v,e,i,j,e1,e2,k,ek,hq _ _ h⟩
noncomputable def Hid (u v:TS):Prop:=u=v
theorem Z_ {t u:TS} {D:CF} {σ:St} {H:Hp} (h:∀v,Hid v u->t { D with nx:=v D } σ H):TD t u D σ H:=h u rfl
theorem TY {u v:TS} {D:CF} {σ:St} {H:Hp} (h:Hid u v) (g:v D σ H):u D σ H:=by rw [show u=v from h];exact g
theorem Abu {u v:TS} {D:CF} {r:VK} {b c:St->Hp->Prop} {σ:St} {H:Hp} (h:Hid u v) (g:v D σ H):(CF.mk (u D) r b c).nx σ H:=by show u D σ H;exact TY h g
noncomputable def bit (m:Ac) (i:Ae):AR:=decide (m / 2 ^ i % 2=1)
noncomputable def BU:Ae->(Ae->AR)->Ac
 | 0,_=>0
 | n+1,f=>(if f 0=Af then 1 else 0)+2*BU n (fun i=>f (i+1))
theorem PU (s:Ac) (i:Ae):bit (s / 2) i=bit s (i+1):=by
 unfold bit
 rw [Int.ediv_ediv_of_nonneg (by decide:(0:Ac)<=2)]
 have e:(2:Ac)*2 ^ i=2 ^ (i+1):=by rw [Kv,On]
 rw [e]
theorem PX (s:Ac):bit s 0=decide (s % 2=1):=by
 unfold bit
 rw [Int.pow_zero,Int.ediv_one]
theorem QY:∀n f,0<=BU n f
 | 0,_=>Dr _
 | n+1,f=>by
   have:=QY n (fun i=>f (i+1))
   show 0<=(if f 0=Af then (1:Ac) else 0)+2*BU n (fun i=>f (i+1))
   split <;> omega
theorem QX:∀n f,BU n f < 2 ^ n
 | 0,_=>by show (0:Ac) < 1;decide
 | n+1,f=>by
   have:=QX n (fun i=>f (i+1))
   show (if f 0=Af then (1:Ac) else 0)+2*BU n (fun i=>f (i+1)) < 2 ^ (n+1)
   rw [Kv]
   split <;> omega
theorem Yn (n f):BU (n+1) f / 2=BU n (fun i=>f (i+1)):=by
 show ((if f 0=Af then (1:Ac) else 0)+2*BU n (fun i=>f (i+1))) / 2=_
 split <;> omega
theorem QZ (n f):(BU (n+1) f % 2=1)↔f 0=Af:=by
 show (((if f 0=Af then (1:Ac) else 0)+2*BU n (fun i=>f (i+1))) % 2=1)↔_
 split <;> rename_i h
 ·exact ⟨fun _=>h,fun _=>by omega⟩
 ·exact ⟨fun e=>by omega,fun e=>A8 e h⟩
theorem QW:∀n {f g:Ae->AR},(∀i,i < n->f i=g i)->BU n f=BU n g
 | 0,_,_,_=>rfl
 | n+1,f,g,h=>by
   show (if f 0=Af then (1:Ac) else 0)+2*BU n (fun i=>f (i+1))=(if g 0=Af then (1:Ac) else 0)+2*BU n (fun i=>g (i+1))
   rw [h 0 (by omega),QW n (f:=fun i=>f (i+1)) (g:=fun i=>g (i+1)) fun i hi=>h (i+1) (by omega)]
theorem Ny:∀n f,BU (n+1) f=BU n f+(if f n=Af then 2 ^ n else 0)
 | 0,f=>by
   show (if f 0=Af then (1:Ac) else 0)+2*0=0+(if f 0=Af then (1:Ac) else 0)
   split <;> decide
 | n+1,f=>by
   show (if f 0=Af then (1:Ac) else 0)+2*BU (n+1) (fun i=>f (i+1))=(if f 0=Af then (1:Ac) else 0)+2*BU n (fun i=>f (i+1))+(if f (n+1)=Af then 2 ^ (n+1) else 0)
   rw [Ny n (fun i=>f (i+1)),Kv]
   split <;> split <;> omega
theorem MV:∀n f i,bit (BU n f) i=(decide (i < n) && f i)
 | 0,f,i=>by
   unfold bit
   show decide ((0:Ac) / 2 ^ i % 2=1)=_
   rw [Int.zero_ediv]
   rfl
 | n+1,f,0=>by
   rw [PX]
   by_cases h:f 0=Af
   ·rw [Be ((QZ n f).mpr h),h];rfl
   ·rw [Bo (fun e=>h ((QZ n f).mp e)),Bool.eq_false_iff.mpr h];rfl
 | n+1,f,i+1=>by
   rw [<- PU,Yn,MV n]
   have:decide (i < n)=decide (i+1 < n+1):=by
    by_cases h:i < n
    ·rw [Be h,Be (by omega)]
    ·rw [Bo h,Bo (by omega)]
   rw [this]
noncomputable def hands (n:Ae) (f:Ae->AR):Ab Ac:=((Bz n).filter f).map fun i:Ae=>(i:Ac)
theorem Nk (n:Ae) (f:Ae->AR):hands (n+1) f=if f n=Af then hands n f++[(n:Ac)] else hands n f:=by
 unfold hands
 rw [O8,Jh,Bc]
 by_cases h:f n=Af
 ·rw [At h];simp [h]
 ·rw [Ao h]
  have h':f n=As:=by simpa using h
  simp [h']
theorem Xs (n:Ae) (f:Ae->AR):(hands n f).length<=n:=by
 unfold hands
 rw [Aw]
 exact CK (Mc _ _) (by simp)
theorem Nj {n:Ae} {f:Ae->AR} {z:Ac}:z∈hands n f↔∃i:Ae,i < n/\f i=Af/\z=(i:Ac):=by
 unfold hands
 rw [O2]
 constructor
 ·rintro ⟨i,hi,rfl⟩
  obtain ⟨h1,h2⟩:=List.mem_filter.mp hi
  exact ⟨i,List.mem_range.mp h1,h2,rfl⟩
 ·rintro ⟨i,h1,h2,rfl⟩
  exact ⟨i,List.mem_filter.mpr ⟨List.mem_range.mpr h1,h2⟩,rfl⟩
noncomputable def MW (hs:Ab Ac):Ac:=(hs.map fun h=>(1:Ac)*2 ^ h.toNat).sum
theorem MX:∀n f,MW (hands n f)=BU n f
 | 0,f=>rfl
 | n+1,f=>by
   rw [Nk,Ny]
   by_cases h:f n=Af
   ·rw [At h,At h]
    unfold MW
    rw [Bc,OC]
    have:=MX n f
    unfold MW at this
    rw [this]
    simp
   ·rw [Ao h,Ao h,MX n f]
    omega
noncomputable def ins (x:Ac):Ab Ac->Ab Ac
 | []=>[x]
 | y :: r=>if x < y then x :: y :: r else if x=y then y :: r else y :: ins x r
noncomputable def Df:Ab Ac->Ab Ac
 | []=>[]
 | x :: r=>ins x (Df r)
theorem Nl {x z:Ac}:∀{l:Ab Ac},z∈ins x l↔z=x\/z∈l
 | []=>by unfold ins;simp
 | y :: r=>by
   unfold ins
   split
   ·simp
   ·split
    ·rename_i h;subst h;simp
    ·rw [FO,Nl (l:=r),FO]
     constructor
     ·rintro (h | h | h)
      ·exact .inr (.inl h)
      ·exact .inl h
      ·exact .inr (.inr h)
     ·rintro (h | h | h)
      ·exact .inr (.inl h)
      ·exact .inl h
      ·exact .inr (.inr h)
theorem Q7 {x:Ac}:∀{l:Ab Ac},l.Pairwise (· < ·)->(ins x l).Pairwise (· < ·)
 | [],_=>by unfold ins;simp
 | y :: r,h=>by
   unfold ins
   rw [Hj] at h
   split
   ·rename_i c
    rw [Hj]
    refine ⟨fun z hz=>?_,List.pairwise_cons.mpr h⟩
    rcases List.mem_cons.mp hz with e | e
    ·omega
    ·have:=h.1 z e;omega
   ·split
    ·exact List.pairwise_cons.mpr h
    ·rename_i c d
     rw [Hj]
     refine ⟨fun z hz=>?_,Q7 h.2⟩
     rcases Nl.mp hz with e | e
     ·omega
     ·exact h.1 z e
theorem Ke {z:Ac}:∀{l:Ab Ac},z∈Df l↔z∈l
 | []=>Iff.rfl
 | x :: r=>by
   show z∈ins x (Df r)↔_
   rw [Nl,Ke,FO]
theorem Lv:∀l:Ab Ac,(Df l).Pairwise (· < ·)
 | []=>.nil
 | x :: r=>Q7 (Lv r)
theorem NO:∀{a b:Ab Ac},a.Pairwise (· < ·)->b.Pairwise (· < ·)->(∀z,z∈a↔z∈b)->a=b
 | [],[],_,_,_=>rfl
 | [],y :: b,_,_,h=>nomatch (h y).mpr (Bw ..)
 | x :: a,[],_,_,h=>nomatch (h x).mp (Bw ..)
 | x :: a,y :: b,ha,hb,h=>by
   rw [Hj] at ha hb
   have e:x=y:=by
    rcases List.mem_cons.mp ((h x).mp (Bw ..)) with e | e
    ·exact e
    ·rcases List.mem_cons.mp ((h y).mpr (Bw ..)) with f | f
     ·exact f.symm
     ·have:=ha.1 y f
      have:=hb.1 x e
      omega
   subst e
   rw [NO ha.2 hb.2 fun z=>?_]
   constructor
   ·intro hz
    rcases List.mem_cons.mp ((h z).mp (Bv _ hz)) with e | e
    ·have:=ha.1 z hz;omega
    ·exact e
   ·intro hz
    rcases List.mem_cons.mp ((h z).mpr (Bv _ hz)) with e | e
    ·have:=hb.1 z hz;omega
    ·exact e
theorem Aa4 {ms ns:Ab Ac} (h:ms.Pairwise (· < ·)) (m:∀z,z∈ms↔z∈ns):ms=Df ns:=NO h (Lv ns) fun z=>(m z).trans Ke.symm
theorem NQ:∀l:Ab Ac,(Df l).length<=l.length
 | []=>AB _
 | x :: r=>by
   have ih:=NQ r
   have:∀l:Ab Ac,(ins x l).length<=l.length+1:=by
    intro l
    induction l with
    | nil=>exact AB _
    | cons y l ihl =>
      unfold ins
      split
      ·exact AB _
      ·split
       ·exact Ec _
       ·exact Mr ihl
   exact CK (this (Df r)) (Mr ih)
noncomputable def isR (rs:Ab Ac) (r:Ac) (i:Ae):AR:=decide (rs[i]?=Aa r)
noncomputable def Gq (rs:Ab Ac) (r:Ac):Ac:=BU rs.length (isR rs r)
noncomputable def C8 (rs:Ab Ac):Ab Ac:=((Df rs).filter fun r=>decide (0 < r)).map (Gq rs)
inductive So (K:A6) (vs:Ab V) (H:Hp) (Q:VK) (E:XK):Prop
 | mk (p:Ad) (ns:Ab Ac) (k:Ac):vs=[.ref p,.int k]->SqL K H p (ns.map V.int)->ns.length<=63->0<=k->k<=1000->(∀z:Ac,0<=z->z < 10 ^ 40->Q (.int z) H)->So K vs H Q E
inductive SN (vs:Ab V) (H:Hp) (Q:VK) (E:XK):Prop
 | mk (c b:Ac):vs=[.int c,.int b]->Sz 200 c->Sz 64 b->(∀z:Ac,0<=z->z < 10 ^ 18->Q (.int z) H)->SN vs H Q E
theorem GZ {c:Ac} (h0:0<=c) (h:c < 10 ^ 40):Sz 200 c:=C1 (by omega) (by omega)
theorem Ki {c:Ac} (h0:0<=c) (h:c < 10 ^ 18):Sz 64 c:=C1 (by omega) (by omega)
theorem QU (x:Ac):0<=(x.fmod ((10:Ac) ^ (18:Ac).toNat+3)).fdiv 7/\(x.fmod ((10:Ac) ^ (18:Ac).toNat+3)).fdiv 7 < 10 ^ 18:=by
 have h:=CI x (show (0:Ac) < (10:Ac) ^ (18:Ac).toNat+3 by decide)
 generalize x.fmod ((10:Ac) ^ (18:Ac).toNat+3)=y at h ⊢
 rw [Jg y (by decide)]
 have e:(10:Ac) ^ (18:Ac).toNat=1000000000000000000:=by decide
 rw [e] at h
 omega
theorem Bu {H H':Hp} {l:Ad} {o:HO} (s:Ax H H') (n:H l=Ag):Ax H (upd H' l o):=fun b u e=>by
 rw [AF (DX e n)]
 exact s b u e
theorem ifT {c:AR} {A B:Prop} (e:c=Af) (h:A):if c=Af then A else B:=by rw [At e];exact h
theorem ifF {c:AR} {A B:Prop} (e:c=As) (h:B):if c=Af then A else B:=by rw [Ao (by rw [e];decide)];exact h
theorem Rf {a b:Ac} (h:a≠b):(!decide (V.int a=V.int b))=Af:=by rw [Bo (fun e=>h (V.int.inj e))];rfl
theorem GJ {a b:Ac} (h:a=b):(!decide (V.int a=V.int b))=As:=by rw [h,Be rfl];rfl
theorem HI {a b:Ac} (h:a=b):decide (V.int a=V.int b)=Af:=by rw [h];exact Be rfl
theorem Lc {a b:Ac} (h:a≠b):decide (V.int a=V.int b)=As:=Bo fun e=>h (V.int.inj e)
theorem int_at {ns:Ab Ac} {i:Ae} {x:V} (h:(ns.map V.int)[i]?=Aa x):∃z,ns[i]?=Aa z/\x=.int z:=by
 rw [Bm] at h
 cases e:ns[i]? with
 | none=>rw [e] at h;cases h
 | some z=>rw [e] at h;exact ⟨z,rfl,(Bp h).symm⟩
theorem atN {ns:Ab Ac} {i:Ae} {z:Ac} (h:ns[i]?=Aa z):atI (ns.map V.int) (i:Ac)=Aa (.int z):=Dv (by rw [Bm,h];rfl)
theorem RA {h:Ae} (hh:h < 64):F' 1 (h:Ac):=⟨by omega,by omega,by decide⟩
theorem Wy (x:Ac):LP x 1=x % 2:=PySem.W.kbt_mask x 1
theorem Xw (m:Ac) (h:Ac):decide (V.int (LP (m / 2 ^ h.toNat) 1)=V.int 1)=bit m h.toNat:=by
 unfold bit
 rw [Wy]
 by_cases c:m / 2 ^ h.toNat % 2=1
 ·rw [Be c,Be (BR V.int c)]
 ·rw [Bo c,Bo fun e=>c (V.int.inj e)]
theorem Yl (m:Ac) (i:Ae):m / 2 ^ i % 2=if bit m i=Af then 1 else 0:=by
 have e:m / 2 ^ i % 2=0\/m / 2 ^ i % 2=1:=by omega
 unfold bit
 rcases e with e | e
 ·rw [e];rfl
 ·rw [e];rfl
theorem Ym (m:Ac) (h:Ae):Ko m (1*2 ^ h)=m+2 ^ h*(if (!bit m h)=Af then 1 else 0):=by
 rw [He,PyProof.Rows.bitOr_and,PySem.W.kbt_bit,Yl]
 cases bit m h <;> simp
theorem YC (n:Ae) (f:Ae->AR):Ko (BU n f) (1*2 ^ n)=BU n f+2 ^ n:=by
 rw [Ym,MV,Bo (CQ n)]
 simp
inductive Tv (vs:Ab V) (H:Hp) (Q:VK) (E:XK):Prop
 | mk (m h:Ac):vs=[.int m,.int h]->0<=h->h < 12->Q (.int (Ko m (1*2 ^ h.toNat))) H->Tv vs H Q E
noncomputable def Aa1:Sp:=fun vs H Q _=>∃m:Ac,vs=[.int m]/\0<=m/\m < 4096/\∀(p:Ad) (H':Hp),H p=Ag->Ax H H'->H' p=Aa (.lst ((hands 12 (bit m)).map V.int))->Q (.ref p) H'
inductive Tk (K:A6) (vs:Ab V) (H:Hp) (Q:VK) (E:XK):Prop
 | mk (p:Ad) (rs:Ab Ac) (r:Ac):vs=[.ref p,.int r]->SqL K H p (rs.map V.int)->rs.length<=12->(∀H':Hp,Ax H H'->Q (.int (Gq rs r)) H')->Tk K vs H Q E
inductive SY (vs:Ab V) (H:Hp) (Q:VK) (E:XK):Prop
 | mk (r:Ac):vs=[.int r]->0<=r->r<=1000000000->Q (.bl Af) H->SY vs H Q E
inductive Sh (K:A6) (vs:Ab V) (H:Hp) (Q:VK) (E:XK):Prop
 | mk (p:Ad) (rs:Ab Ac):vs=[.ref p,.int (rs.length:Ae)]->H p=Aa (.lst (rs.map V.int))->rs.length<=12->(∀r∈rs,0<=r/\r<=1000000000)->(∀H':Hp,Ax H H'->Q (.bl Af) H')->Sh K vs H Q E
inductive Th (K:A6) (vs:Ab V) (H:Hp) (Q:VK) (E:XK):Prop
 | mk (p:Ad) (rs:Ab Ac):vs=[.ref p,.int (rs.length:Ae)]->H p=Aa (.lst (rs.map V.int))->rs.length<=12->(∀r∈rs,0<=r/\r<=1000000000)->(∀(t:Ad) (H':Hp),H t=Ag->Ax H H'->H' t=Aa (.tup ((C8 rs).map V.int))->Q (.ref t) H')->Th K vs H Q E
theorem u1 {n:Ae} (h:n+64 < cLine):n+1 < cLine:=by omega
theorem none_of {H H':Hp} {a:Ad} (s:Ax H H') (h:H' a=Ag):H a=Ag:=by
 cases e:H a with
 | none=>rfl
 | some u=>rw [s _ _ e] at h;cases h
abbrev Ls:=Ab (Ad × Ad × Ab Ac × Ac)
abbrev Ds:=Ab (Ab Ac × Ac)
noncomputable def vls (ls:Ls):Ab V:=ls.map fun q=>.ref q.1
noncomputable def An (ls:Ls):Ds:=ls.map fun q=>(q.2.2.1,q.2.2.2)
noncomputable def AO (H:Hp) (ls:Ls):Prop:=∀q∈ls,H q.1=Aa (.tup [.ref q.2.1,.int q.2.2.2])/\H q.2.1=Aa (.tup (q.2.2.1.map V.int))
theorem AO.same {H H':Hp} {ls:Ls} (s:Ax H H') (g:AO H ls):AO H' ls:=fun q m=>⟨s _ _ (g q m).1,s _ _ (g q m).2⟩
theorem AO.sub {H:Hp} {a b:Ls} (g:AO H a) (k:∀q∈b,q∈a):AO H b:=fun q m=>g q (k q m)
theorem AO.append {H:Hp} {a b:Ls} (g:AO H a) (k:AO H b):AO H (a++b):=fun q m=>(List.mem_append.mp m).elim (g q) (k q)
theorem AO.upd {H:Hp} {ls:Ls} {l:Ad} {xs:Ab V} {o:HO} (e:H l=Aa (.lst xs)) (g:AO H ls):AO (upd H l o) ls:=fun q m=>by
 refine ⟨?_,?_⟩
 ·rw [AF (Bq (g q m).1 e (fun z=>by cases z))];exact (g q m).1
 ·rw [AF (Bq (g q m).2 e (fun z=>by cases z))];exact (g q m).2
theorem EZ {ls:Ls} {i:Ae} {x:V} (h:(vls ls)[i]?=Aa x):∃q,ls[i]?=Aa q/\x=.ref q.1/\q∈ls/\ls.take (i+1)=ls.take i++[q]:=by
 unfold vls at h
 rw [Bm] at h
 cases e:ls[i]? with
 | none=>rw [e] at h;cases h
 | some q =>
   rw [e] at h
   refine ⟨q,rfl,(Bp h).symm,Br e,?_⟩
   rw [CA,e]
   rfl
theorem Cr (ls:Ls):(vls ls).length=ls.length:=Aw ..
theorem G_ (a b:Ls):vls (a++b)=vls a++vls b:=Bc ..
theorem Cq (a b:Ls):An (a++b)=An a++An b:=Bc ..
theorem Ll:∀{a b:Ab Ac},HT.lexLt a b=Af->HT.lexLt b a=As
 | [],[],h=>by cases h
 | [],_ :: _,_=>rfl
 | _ :: _,[],h=>by cases h
 | x :: a,y :: b,h=>by
   rw [HT.lexLt_cons] at h ⊢
   by_cases c:x=y
   ·rw [At c] at h
    rw [At c.symm]
    exact Ll h
   ·rw [Ao c] at h
    rw [Ao (AM c)]
    have:=DD h
    exact Bo (by omega)
theorem Nu:∀{a b:Ab Ac},HT.lexLt b a=As->a≠b->HT.lexLt a b=Af
 | [],[],_,n=>A8 rfl n
 | [],_ :: _,_,_=>rfl
 | _ :: _,[],h,_=>by cases h
 | x :: a,y :: b,h,n=>by
   rw [HT.lexLt_cons] at h ⊢
   by_cases c:x=y
   ·rw [At c.symm] at h
    rw [At c]
    exact Nu h fun e=>n (by rw [c,e])
   ·rw [Ao (AM c)] at h
    rw [Ao c]
    have:=Pj h
    exact Be (by omega)
noncomputable def tot:Ds->Ab Ac->Ac
 | [],_=>0
 | q :: r,ts=>(if q.1=ts then q.2 else 0)+tot r ts
theorem IZ (ts:Ab Ac):∀a b:Ds,tot (a++b) ts=tot a ts+tot b ts
 | [],b=>by show tot b ts=0+tot b ts;omega
 | q :: a,b=>by
   show (if q.1=ts then q.2 else 0)+tot (a++b) ts=(if q.1=ts then q.2 else 0)+tot a ts+tot b ts
   rw [IZ ts a b]
   omega
noncomputable def Pos (ds:Ds):Prop:=∀q∈ds,1<=q.2
theorem NW {ts:Ab Ac}:∀{ds:Ds},Pos ds->0<=tot ds ts
 | [],_=>Dr _
 | q :: r,h=>by
   have h1:=h q (Bw ..)
   have h2:=NW (ts:=ts) (ds:=r) fun p m=>h p (Bv _ m)
   show 0<=(if q.1=ts then q.2 else 0)+tot r ts
   split <;> omega
theorem I_ {ts:Ab Ac}:∀{ds:Ds},ts ∉ ds.map (·.1)->tot ds ts=0
 | [],_=>rfl
 | q :: r,h=>by
   rw [BL,FO,JA] at h
   show (if q.1=ts then q.2 else 0)+tot r ts=0
   rw [Ao (fun e=>h.1 e.symm),I_ h.2]
   rfl
theorem TR {ts:Ab Ac}:∀{ds:Ds},Pos ds->ts∈ds.map (·.1)->0 < tot ds ts
 | [],_,m=>nomatch m
 | q :: r,h,m=>by
   have h1:=h q (Bw ..)
   have hr:Pos r:=fun p m=>h p (Bv _ m)
   have h2:=NW (ts:=ts) hr
   show 0 < (if q.1=ts then q.2 else 0)+tot r ts
   by_cases c:q.1=ts
   ·rw [At c];omega
   ·rw [Ao c]
    rcases List.mem_cons.mp m with e | e
    ·exact A8 e.symm c
    ·have:=TR hr e
     omega
structure BY (ds out:Ds):Prop where
 srt:out.Pairwise (fun x y=>HT.lexLt x.1 y.1=Af)
 mem:∀ts n,(ts,n)∈out↔n=tot ds ts/\0 < n
theorem Tz:∀{a b:Ds},a.Pairwise (fun x y=>HT.lexLt x.1 y.1=Af)->b.Pairwise (fun x y=>HT.lexLt x.1 y.1=Af)->(∀q,q∈a↔q∈b)->a=b
 | [],[],_,_,_=>rfl
 | [],y :: b,_,_,h=>nomatch (h y).mpr (Bw ..)
 | x :: a,[],_,_,h=>nomatch (h x).mp (Bw ..)
 | x :: a,y :: b,ha,hb,h=>by
   rw [Hj] at ha hb
   have irr:∀z:Ab Ac × Ac,HT.lexLt z.1 z.1≠Af:=fun z e=>by
    have:=Ll e
    rw [e] at this
    cases this
   have e:x=y:=by
    rcases List.mem_cons.mp ((h x).mp (Bw ..)) with e | e
    ·exact e
    ·rcases List.mem_cons.mp ((h y).mpr (Bw ..)) with f | f
     ·exact f.symm
     ·have p:=ha.1 y f
      have q:=Ll (hb.1 x e)
      rw [p] at q
      cases q
   subst e
   rw [Tz ha.2 hb.2 fun z=>?_]
   constructor
   ·intro hz
    rcases List.mem_cons.mp ((h z).mp (Bv _ hz)) with e | e
    ·exact A8 (ha.1 z hz) (by rw [e];exact irr x)
    ·exact e
   ·intro hz
    rcases List.mem_cons.mp ((h z).mpr (Bv _ hz)) with e | e
    ·exact A8 (hb.1 z hz) (by rw [e];exact irr x)
    ·exact e
theorem BY.uniq {ds es a b:Ds} (h:BY ds a) (k:BY es b) (e:∀ts,tot ds ts=tot es ts):a=b :=
 Tz h.srt k.srt fun ⟨ts,n⟩=>by rw [h.mem,k.mem,e]
theorem GF (ts:Ab Ac):(ts.map BC:Ab Key).map kV=ts.map V.int:=by rw [Fd];rfl
theorem Q6 {a b:Ab Ac} (h:(a.map BC:Ab Key)=b.map BC):a=b:=by
 have e:=BR (Jk kV) h
 rw [GF,GF] at e
 have:∀{a b:Ab Ac},a.map V.int=b.map V.int->a=b:=by
  intro a
  induction a with
  | nil=>intro b h;cases b with | nil=>rfl | cons _ _=>cases h
  | cons x a ih =>
    intro b h
    cases b with
    | nil=>cases h
    | cons y b =>
      injection h with h1 h2
      injection h1 with h1
      rw [h1,ih h2]
 exact this e
theorem Rc {α β:Type} {f:α->β}:∀{l:Ab α},(l.map f).Nodup->l.Nodup
 | [],_=>Hi
 | x :: l,h=>by
   rw [BL,FP] at h
   rw [FP]
   exact ⟨fun m=>h.1 (List.mem_map.mpr ⟨x,m,rfl⟩),Rc h.2⟩
structure VD (kvs:Ab (Ab Key × V)):Prop where
 nd:(kvs.map (·.1)).Nodup
 all:∀q∈kvs,∃(ts:Ab Ac) (n:Ac),q=(ts.map BC,.int n)
theorem Z5 {κ:Type} [Je κ] {kvs:Ab (κ × V)} {k:κ} {v w:V} (h:B7 kvs k=Aa w):(C7 kvs k v).map (·.1)=kvs.map (·.1):=by
 unfold C7
 rw [Gs,h,At (show (Aa w).isSome=Af from rfl),Fd]
 refine Md fun q _=>?_
 show (if q.1=k then (q.1,v) else q).1=q.1
 split <;> rfl
theorem VD.put {kvs:Ab (Ab Key × V)} (h:VD kvs) (ts:Ab Ac) (n:Ac):VD (C7 kvs (ts.map BC) (.int n)):=by
 refine ⟨?_,fun q m=>?_⟩
 ·cases e:B7 kvs (ts.map BC:Ab Key) with
  | none=>exact Yr _ h.nd e
  | some w=>rw [Z5 e];exact h.nd
 ·unfold C7 at m
  split at m
  ·obtain ⟨p,pm,rfl⟩:=List.mem_map.mp m
   split
   ·rename_i e
    exact ⟨ts,n,by rw [e]⟩
   ·exact h.all p pm
  ·rcases List.mem_append.mp m with m | m
   ·exact h.all q m
   ·exact ⟨ts,n,List.mem_singleton.mp m⟩
theorem VD.val {kvs:Ab (Ab Key × V)} (h:VD kvs) {k:Ab Key} {v:V} (e:B7 kvs k=Aa v):∃n:Ac,v=.int n:=by
 unfold B7 at e
 cases c:kvs.find? fun kv=>decide (kv.1=k) with
 | none=>rw [c] at e;cases e
 | some q =>
   rw [c] at e
   obtain ⟨ts,n,rfl⟩:=h.all q (List.mem_of_find?_eq_some c)
   exact ⟨n,(Bp e).symm⟩
theorem VD.keys {kvs:Ab (Ab Key × V)} (h:VD kvs):∃ks:Ab (Ab Ac),kvs.map (·.1)=ks.map (Jk BC)/\ks.length=kvs.length/\ks.Nodup/\∀ts,ts∈ks↔∃n:Ac,B7 kvs (ts.map BC)=Aa (.int n):=by
 have key:∀{l:Ab (Ab Key × V)},(∀q∈l,q∈kvs)->∃ks:Ab (Ab Ac),l.map (·.1)=ks.map (Jk BC)/\ks.length=l.length:=by
  intro l
  induction l with
  | nil=>intro _;exact ⟨[],rfl,rfl⟩
  | cons q r ih =>
    intro sub
    obtain ⟨ks,e1,e2⟩:=ih fun p m=>sub p (Bv _ m)
    obtain ⟨ts,n,eq⟩:=h.all q (sub q (Bw ..))
    exact ⟨ts :: ks,by rw [BL,BL,e1,eq],by rw [BA,BA,e2]⟩
 obtain ⟨ks,e1,e2⟩:=key fun q m=>m
 have mm:∀ts,ts∈ks↔(ts.map BC:Ab Key)∈kvs.map (·.1):=fun ts=>by
  rw [e1]
  constructor
  ·intro m;exact List.mem_map.mpr ⟨ts,m,rfl⟩
  ·intro m
   obtain ⟨us,um,e⟩:=List.mem_map.mp m
   rw [<- Q6 e]
   exact um
 refine ⟨ks,e1,e2,?_,fun ts=>⟨fun m=>?_,fun ⟨n,e⟩=>(mm ts).mpr (Aby e)⟩⟩
 ·have nd:=h.nd
  rw [e1] at nd
  exact Rc nd
 ·cases c:B7 kvs (ts.map BC:Ab Key) with
  | none=>exact A8 ((mm ts).mp m) (Ub c)
  | some v =>
    obtain ⟨n,rfl⟩:=h.val c
    exact ⟨n,rfl⟩
structure DictOf (ds:Ds) (kvs:Ab (Ab Key × V)):Prop where
 vd:VD kvs
 val:∀ts:Ab Ac,B7 kvs (ts.map BC)=if ts∈ds.map (·.1) then Aa (.int (tot ds ts)) else Ag
theorem DictOf.nil:DictOf [] []:=⟨⟨Hi,fun _ m=>A8 m Cw⟩,fun _=>rfl⟩
noncomputable def En (kvs:Ab (Ab Key × V)) (ts:Ab Ac):Ac:=match B7 kvs (ts.map BC:Ab Key) with
 | some (.int n)=>n
 | _=>0
theorem DictOf.put {ds:Ds} {kvs:Ab (Ab Key × V)} (h:DictOf ds kvs) (ts:Ab Ac) (n:Ac):DictOf (ds++[(ts,n)]) (C7 kvs (ts.map BC) (.int (tot ds ts+n))):=by
 refine ⟨h.vd.put ts _,fun us=>?_⟩
 rw [Abz,h.val us,IZ,Bc]
 show (if (us.map BC:Ab Key)=ts.map BC then _ else _)=if us∈ds.map (·.1)++[ts] then Aa (V.int (tot ds us+((if ts=us then n else 0)+0))) else Ag
 by_cases c:us=ts
 ·subst c
  rw [At rfl,At (by simp),At rfl]
  rw [Es]
 ·rw [Ao (fun e=>c (Q6 e)),Ao (AM c)]
  by_cases m:us∈ds.map (·.1)
  ·rw [At m,At (by simp;left;simpa using m)]
   rw [Es,Es]
  ·rw [Ao m,Ao (by simp;exact ⟨by simpa using m,c⟩)]
theorem N2 {α:Type} [Je α]:∀{l p:Ab α},l.Nodup->(∀x∈l,x∈p)->l.length<=p.length
 | [],_,_,_=>BQ _
 | x :: l,p,n,s=>by
   rw [FP] at n
   have m:=s x (Bw ..)
   have ih:=N2 (p:=p.erase x) n.2 fun y hy=>(List.mem_erase_of_ne (fun e:y=x=>n.1 (by rw [<- e];exact hy))).mpr (s y (Bv _ hy))
   rw [List.length_erase_of_mem m] at ih
   have:=List.length_pos_of_mem m
   rw [BA]
   omega
theorem DictOf.len {ds:Ds} {kvs:Ab (Ab Key × V)} (h:DictOf ds kvs) {p:Ab (Ab Ac)} (s:∀q∈ds,q.1∈p):kvs.length<=p.length:=by
 obtain ⟨ks,_,e2,nd,mm⟩:=h.vd.keys
 rw [<- e2]
 refine N2 nd fun ts m=>?_
 obtain ⟨n,e⟩:=(mm ts).mp m
 rw [h.val ts] at e
 by_cases c:ts∈ds.map (·.1)
 ·obtain ⟨q,qm,rfl⟩:=List.mem_map.mp c
  exact s q qm
 ·rw [Ao c] at e;cases e
theorem DictOf.sheet {ds out:Ds} {kvs:Ab (Ab Key × V)} (h:DictOf ds kvs) (p:Pos ds) (srt:out.Pairwise (fun x y=>HT.lexLt x.1 y.1=Af)) (mem:∀ts n,(ts,n)∈out↔B7 kvs (ts.map BC)=Aa (.int n)/\0 < n):BY ds out:=by
 refine ⟨srt,fun ts n=>?_⟩
 rw [mem,h.val]
 by_cases c:ts∈ds.map (·.1)
 ·rw [At c]
  constructor
  ·rintro ⟨e,z⟩;injection e with e;injection e with e;exact ⟨e.symm,z⟩
  ·rintro ⟨e,z⟩;exact ⟨by rw [e],z⟩
 ·rw [Ao c,I_ c]
  constructor
  ·rintro ⟨e,_⟩;cases e
  ·rintro ⟨e,z⟩;omega
theorem N4 {ds:Ds} {kvs:Ab (Ab Key × V)} (h:DictOf ds kvs) (ts:Ab Ac):(B7 kvs (ts.map BC:Ab Key)).getD (.int 0)=.int (tot ds ts):=by
 rw [h.val ts]
 by_cases c:ts∈ds.map (·.1)
 ·rw [At c];rfl
 ·rw [Ao c,I_ c];rfl
inductive SU (vs:Ab V) (H:Hp) (Q:VK) (E:XK):Prop
 | mk (n:Ac):vs=[.int n]->1<=n->n<=1000000000->Q (.bl Af) H->SU vs H Q E
inductive SQ (vs:Ab V) (H:Hp) (Q:VK) (E:XK):Prop
 | mk (l:Ad) (ls:Ls) (p:Ab (Ab Ac)):vs=[.ref l]->H l=Aa (.lst (vls ls))->AO H ls->(∀q∈An ls,q.1∈p)->p.length < 64->(∀(d:Ad) (kvs:Ab (Ab Key × V)) (H':Hp),H d=Ag->Ax H H'->H' d=Aa (.dT kvs)->DictOf (An ls) kvs->Q (.ref d) H')->SQ vs H Q E
inductive S' (vs:Ab V) (H:Hp) (Q:VK) (E:XK):Prop
 | mk (d:Ad) (kvs:Ab (Ab Key × V)):vs=[.ref d]->H d=Aa (.dT kvs)->VD kvs->kvs.length < 64->(∀(l:Ad) (ls:Ls) (H':Hp),H l=Ag->Ax H H'->H' l=Aa (.lst (vls ls))->AO H' ls->(An ls).Pairwise (fun x y=>HT.lexLt x.1 y.1=Af)->(∀ts n,(ts,n)∈An ls↔B7 kvs (ts.map BC)=Aa (.int n)/\0 < n)->ls.length < 64->Q (.ref l) H')->S' vs H Q E
inductive Tf (vs:Ab V) (H:Hp) (Q:VK) (E:XK):Prop
 | mk (l:Ad) (ls:Ls) (p:Ab (Ab Ac)):vs=[.ref l]->H l=Aa (.lst (vls ls))->AO H ls->(∀q∈An ls,q.1∈p)->p.length < 64->(∀q∈An ls,1<=q.2/\q.2<=1000000000)->(∀(l':Ad) (ls':Ls) (H':Hp),H l'=Ag->Ax H H'->H' l'=Aa (.lst (vls ls'))->AO H' ls'->BY (An ls) (An ls')->ls'.length < 64->Q (.ref l') H')->Tf vs H Q E
noncomputable def AU (bs:Ab (Ad × Ls)):Ls:=(bs.map (·.2)).flatten
inductive Sx (vs:Ab V) (H:Hp) (Q:VK) (E:XK):Prop
 | mk (l:Ad) (bs:Ab (Ad × Ls)) (p:Ab (Ab Ac)):vs=[.ref l]->H l=Aa (.lst (bs.map fun b=>V.ref b.1))->(∀b∈bs,H b.1=Aa (.lst (vls b.2))/\AO H b.2)->(∀q∈An (AU bs),q.1∈p)->p.length < 64->Pos (An (AU bs))->(AU bs).length<=900->(∀(l':Ad) (ls':Ls) (H':Hp),H l'=Ag->Ax H H'->H' l'=Aa (.lst (vls ls'))->AO H' ls'->BY (An (AU bs)) (An ls')->ls'.length < 64->Q (.ref l') H')->Sx vs H Q E
inductive Sj (vs:Ab V) (H:Hp) (Q:VK) (E:XK):Prop
 | mk (l:Ad) (ls:Ls):vs=[.ref l]->H l=Aa (.lst (vls ls))->AO H ls->ls.length<=900->(∀H':Hp,Ax H H'->Q (.int ((An ls).map (·.2)).sum) H')->Sj vs H Q E
theorem D8 {n:Ae} (h:n<=900):n<=A5:=EG (DJ (by omega))
theorem PV {m:Ac} {i:Ae} (h0:0<=m) (h:m < 2 ^ i):bit m i=As:=by
 unfold bit
 rw [Int.ediv_eq_zero_of_lt h0 h]
 decide
theorem Q4 {m:Ac} {k:Ae} (h0:0<=m) (h:m < 2 ^ k):∀d:Ae,hands (k+d) (bit m)=hands k (bit m)
 | 0=>rfl
 | d+1=>by
   have p:(2:Ac) ^ k<=2 ^ (k+d):=by
    have q:2 ^ k<=2 ^ (k+d):=Hn (by decide) (by omega)
    have e1:((2 ^ k:Ae):Ac)=(2:Ac) ^ k:=by simp
    have e2:((2 ^ (k+d):Ae):Ac)=(2:Ac) ^ (k+d):=by simp
    omega
   show hands ((k+d)+1) (bit m)=hands k (bit m)
   rw [Nk,PV h0 (by omega),Ao (by decide),Q4 h0 h d]
theorem W1 {m:Ac} (h0:0<=m) (h:m < 4096):hands (DN m) (bit m)=hands 12 (bit m):=by
 have b:DN m<=12:=intBits_le_iff.mpr (by show m.natAbs < 4096;omega)
 have l:m.natAbs < 2 ^ DN m:=intBits_le_iff.mp (AB _)
 have l':m < (2:Ac) ^ DN m:=by
  have e:((2 ^ DN m:Ae):Ac)=(2:Ac) ^ DN m:=by simp
  omega
 obtain ⟨d,hd⟩:∃d,12=DN m+d:=⟨12 - DN m,by omega⟩
 rw [hd,Q4 h0 l' d]
noncomputable def rk (ts:Ab Ac) (h:Ae):Ae->Ac
 | 0=>0
 | i+1=>if bit (ts.getD i 0) h=Af then (i:Ac)+1 else rk ts h i
noncomputable def BJ (ts:Ab Ac) (n:Ae):Ab Ac:=(Bz n).map fun h=>rk ts h ts.length
theorem E5 {n i:Ae} (h:i < n):ixN n (i:Ac)=Aa i:=by
 unfold ixN
 rw [At (by omega)]
 simp [h]
theorem Aal {n k:Ae} (f:Ae->Ac) (v:Ac) (hk:k < n):((Bz n).map f).set k v=(Bz n).map fun h=>if h=k then v else f h:=by
 apply G0
 ·simp
 ·intro i h1 h2
  rw [List.getElem_set]
  by_cases c:k=i
  ·subst c;simp
  ·rw [Ao c];simp [AM c]
theorem W0 {rs:Ab Ac} {h:Ae} {c:Ac} (u:Ac) (e:rs[h]?=Aa c):bit (Gq rs u) h=decide (c=u):=by
 obtain ⟨hi,_⟩:=List.getElem?_eq_some_iff.mp e
 unfold Gq
 rw [MV,Be hi,Bool.true_and]
 unfold isR
 rw [e]
 by_cases z:c=u
 ·rw [Be z,Be (by rw [z])]
 ·rw [Bo z,Bo (fun y=>z (Bp y))]
theorem JW:∀{us:Ab Ac} {i:Ae} {c:Ac},us.Nodup->us[i]?=Aa c->us.idxOf c=i
 | [],i,c,_,h=>by cases h
 | u :: us,0,c,_,h=>by
   cases Bp h
   exact List.idxOf_cons_self
 | u :: us,i+1,c,nd,h=>by
   rw [FP] at nd
   have h':us[i]?=Aa c:=h
   have ne:u≠c:=fun e=>nd.1 (e ▸ Br h')
   rw [List.idxOf_cons,show (u == c)=As from by simpa using ne,JW nd.2 h']
   rfl
theorem RX {rs us:Ab Ac} {h:Ae} {c:Ac} (nd:us.Nodup) (e:rs[h]?=Aa c):∀i,i<=us.length->rk (us.map (Gq rs)) h i=if c∈us.take i then (us.idxOf c:Ac)+1 else 0
 | 0,_=>rfl
 | i+1,hi=>by
   obtain ⟨u,hu⟩:∃u,us[i]?=Aa u:=⟨_,BF (by omega)⟩
   have et:us.take (i+1)=us.take i++[u]:=by rw [CA,hu];rfl
   have ig:=JW nd hu
   show (if bit ((us.map (Gq rs)).getD i 0) h=Af then (i:Ac)+1 else rk (us.map (Gq rs)) h i)=_
   rw [BP,Bm,hu,FS,Vk,W0 u e,RX nd e i (by omega),et]
   by_cases z:c=u
   ·rw [At (Be z),At (by simp [z]),z,ig]
   ·rw [Ao (by simpa using z)]
    by_cases m:c∈us.take i
    ·rw [At m,At (Jl _ m)]
    ·rw [Ao m,Ao (by simp [m,z])]
noncomputable def pos' (rs:Ab Ac):Ab Ac:=(Df rs).filter fun r=>decide (0 < r)
theorem NG (rs:Ab Ac):(pos' rs).Nodup:=((Lv rs).filter _).imp fun h e=>by rw [e] at h;exact Int.lt_irrefl _ h
theorem RV (rs:Ab Ac) {h:Ae} {c:Ac} (e:rs[h]?=Aa c):rk (C8 rs) h (C8 rs).length=if c∈pos' rs then ((pos' rs).idxOf c:Ac)+1 else 0:=by
 have:=RX (NG rs) e (pos' rs).length (AB _)
 rw [CJ (AB _)] at this
 have l:(C8 rs).length=(pos' rs).length:=Aw ..
 rw [l]
 exact this
structure Ga (rs:Ab Ac) (m:Ae):Prop where
 low:∀r∈rs,0<=r
 all:∀z:Ac,0 < z->(z∈rs↔z<=m)
theorem ZQ (m:Ae):((Bz m).map fun j:Ae=>(j:Ac)+1).Pairwise (· < ·):=by
 rw [Mo]
 exact List.pairwise_lt_range.imp fun h=>by omega
theorem Ga.pos {rs:Ab Ac} {m:Ae} (g:Ga rs m):pos' rs=(Bz m).map fun j:Ae=>(j:Ac)+1:=by
 refine NO ((Lv rs).filter _) (ZQ m) fun z=>?_
 unfold pos'
 rw [Ml,Ke,G6,O2]
 constructor
 ·rintro ⟨h1,h2⟩
  have:=(g.all z h2).mp h1
  exact ⟨(z - 1).toNat,List.mem_range.mpr (by omega),by omega⟩
 ·rintro ⟨j,hj,rfl⟩
  have:=List.mem_range.mp hj
  exact ⟨(g.all _ (by omega)).mpr (by omega),by omega⟩
theorem Ga.ranks {rs:Ab Ac} {m:Ae} (g:Ga rs m):BJ (C8 rs) rs.length=rs:=by
 apply G0
 ·unfold BJ;rw [Aw,DB]
 ·intro i h1 h2
  have e:rs[i]?=Aa rs[i]:=BF h2
  have hg:(BJ (C8 rs) rs.length)[i]=rk (C8 rs) i (C8 rs).length:=by simp [BJ]
  rw [hg,RV rs e]
  have c0:=g.low _ (G1 h2)
  have cm:=G1 h2
  generalize rs[i]=c at c0 cm e ⊢
  by_cases z:c=0
  ·rw [Ao,z]
   unfold pos'
   rw [Ml,G6]
   omega
  ·have cp:0 < c:=by omega
   have le:=(g.all c cp).mp cm
   have ig:=JW (NG rs) (i:=(c - 1).toNat) (c:=c) (by
    rw [g.pos,Bm,Oy (by omega)]
    show Aa ((((c - 1).toNat:Ae):Ac)+1)=Aa c
    rw [show (((c - 1).toNat:Ae):Ac)+1=c by omega])
   rw [At,ig]
   ·omega
   ·unfold pos'
    rw [Ml,G6,Ke]
    exact ⟨cm,cp⟩
theorem TN {rs:Ab Ac}:∀t∈C8 rs,0<=t/\t < 2 ^ rs.length:=fun t m=>by
 obtain ⟨r,_,rfl⟩:=List.mem_map.mp m
 exact ⟨QY _ _,QX _ _⟩
theorem Abg (rs:Ab Ac):(C8 rs).length<=rs.length:=by
 unfold C8
 rw [Aw]
 exact CK (Mc _ _) (NQ rs)
inductive SZ (vs:Ab V) (H:Hp) (Q:VK) (E:XK):Prop
 | mk (t:Ad) (ts:Ab Ac) (n:Ae):vs=[.ref t,.int (n:Ac)]->H t=Aa (.tup (ts.map V.int))->n<=12->(∀x∈ts,0<=x/\x < 2 ^ n)->(∀(l:Ad) (H':Hp),H l=Ag->Ax H H'->H' l=Aa (.lst ((BJ ts n).map V.int))->Q (.ref l) H')->SZ vs H Q E
noncomputable def Cm (c:Ac):Ab Ac->Ac
 | []=>c
 | r :: rs=>Cm (c*13+r) rs
theorem M_ (r:Ac):∀(rs:Ab Ac) (c:Ac),Cm c (rs++[r])=Cm c rs*13+r
 | [],_=>rfl
 | q :: rs,c=>M_ r rs (c*13+q)
theorem Qc:∀{rs:Ab Ac} {c:Ac},0<=c->(∀r∈rs,0<=r/\r<=12)->0<=Cm c rs/\Cm c rs+1<=13 ^ rs.length*(c+1)
 | [],c,h,_=>⟨h,by show c+1<=1*(c+1);omega⟩
 | q :: rs,c,h,hr=>by
   have hq:=hr q (Bw ..)
   have ih:=Qc (rs:=rs) (c:=c*13+q) (by omega) fun r m=>hr r (Bv _ m)
   refine ⟨ih.1,Ol ih.2 ?_⟩
   show 13 ^ rs.length*(c*13+q+1)<=13 ^ (rs.length+1)*(c+1)
   rw [Kv,Om]
   exact Oo (by omega) (Int.pow_nonneg (by decide))
theorem Qd {rs:Ab Ac} {c:Ac} (h0:0<=c) (h1:c<=2000000000) (hr:∀r∈rs,0<=r/\r<=12) (hl:rs.length<=12):0<=Cm c rs/\Cm c rs < 10 ^ 40:=by
 obtain ⟨a,b⟩:=Qc h0 hr
 refine ⟨a,?_⟩
 have p:(13:Ac) ^ rs.length<=13 ^ 12:=by
  have q:13 ^ rs.length<=13 ^ 12:=Hn (by decide) hl
  have e:((13 ^ rs.length:Ae):Ac)=(13:Ac) ^ rs.length:=by simp
  have f:((13 ^ 12:Ae):Ac)=(13:Ac) ^ 12:=by simp
  omega
 have m:=UJ p (show c+1<=2000000001 by omega) (by omega) (show (0:Ac)<=13 ^ 12 by decide)
 have e:(13:Ac) ^ 12*2000000001 < 10 ^ 40:=by decide
 omega
theorem WG {rs:Ab Ac} {c:Ac} {i:Ae} (hi:i < rs.length) (hr:∀r∈rs,0<=r/\r<=12) :
 ∃r,0<=r/\r<=12/\Cm c (rs.take (rs.length - i))=Cm c (rs.take (rs.length - (i+1)))*13+r/\(rs.drop (rs.length - (i+1))).reverse=(rs.drop (rs.length - i)).reverse++[r]:=by
 have h1:rs.length - i=(rs.length - (i+1))+1:=by omega
 have h2:rs.length - (i+1) < rs.length:=by omega
 rw [h1]
 generalize rs.length - (i+1)=k at h2
 have e:rs[k]?=Aa rs[k]:=BF h2
 have m:=hr rs[k] (G1 h2)
 refine ⟨rs[k],m.1,m.2,?_,?_⟩
 ·rw [CA,e]
  exact M_ _ _ _
 ·rw [UO h2,OA]
theorem Y3 {a r:Ac} (h0:0<=r) (h1:r<=12):(a*13+r).fmod 13=r/\(a*13+r).fdiv 13=a:=by
 rw [Oj _ (by decide),Jg _ (by decide)]
 omega
theorem Xd {rs:Ab Ac} (low:∀r∈rs,0<=r) (h:BJ (C8 rs) rs.length=rs):Ga rs (pos' rs).length:=by
 have mp:∀c,c∈pos' rs↔c∈rs/\0 < c:=fun c=>by unfold pos';rw [Ml,G6,Ke]
 have key:∀c∈rs,0 < c->(((pos' rs).idxOf c:Ae):Ac)+1=c:=fun c m cp=>by
  obtain ⟨i,hi,e⟩:=List.getElem_of_mem m
  have e':rs[i]?=Aa c:=by rw [<- e];exact BF hi
  have hg:(BJ (C8 rs) rs.length)[i]?=Aa (rk (C8 rs) i (C8 rs).length):=by simp [BJ,hi]
  rw [h,e',RV rs e',At ((mp c).mpr ⟨m,cp⟩)] at hg
  exact (Bp hg).symm
 refine ⟨low,fun z zp=>⟨fun m=>?_,fun le=>?_⟩⟩
 ·have:=key z m zp
  have:=List.idxOf_lt_length_iff.mpr ((mp z).mpr ⟨m,zp⟩)
  omega
 ·have hz:(z - 1).toNat < (pos' rs).length:=by omega
  have e:(pos' rs)[(z - 1).toNat]?=Aa (pos' rs)[(z - 1).toNat]:=BF hz
  generalize (pos' rs)[(z - 1).toNat]=u at e
  have um:=(mp u).mp (Br e)
  have k:=key u um.1 um.2
  rw [JW (NG rs) e] at k
  have:z=u:=by omega
  rw [this]
  exact um.1
inductive Sq (vs:Ab V) (H:Hp) (Q:VK) (E:XK):Prop
 | mk (p t:Ad) (ts:Ab Ac) (c:Ac) (n:Ae):vs=[.ref p,.int (n:Ac)]->H p=Aa (.tup [.ref t,.int c])->H t=Aa (.tup (ts.map V.int))->n<=12->(∀x∈ts,0<=x/\x < 2 ^ n)->0<=c->c<=1000000000->(∀r∈BJ ts n,0<=r/\r<=12)->(∀H':Hp,Ax H H'->Q (.int (Cm c (BJ ts n))) H')->Sq vs H Q E
inductive S8 (vs:Ab V) (H:Hp) (Q:VK) (E:XK):Prop
 | mk (rs:Ab Ac) (c:Ac) (m:Ae):vs=[.int (Cm c rs),.int (rs.length:Ae)]->rs.length<=12->(∀r∈rs,0<=r/\r<=12)->1<=c->c<=1000000000->Ga rs m->(∀(p t:Ad) (H':Hp),Ax H H'->H' p=Aa (.tup [.ref t,.int c])->H' t=Aa (.tup ((C8 rs).map V.int))->Q (.ref p) H')->S8 vs H Q E
noncomputable def ws (f:Ac->Ac):Ac->Ab Ac->Ac
 | _,[]=>0
 | k,c :: cs=>c*f (k+1)+ws f (k+1) cs
noncomputable def f1 (_:Ac):Ac:=1
noncomputable def f2 (p:Ac):Ac:=p
noncomputable def f3 (p:Ac):Ac:=p*p
noncomputable def FB (cs:Ab Ac):Ab Ac:=[(cs.length:Ac),ws f1 0 cs,ws f2 0 cs,ws f3 0 cs]
theorem LB (f:Ac->Ac):∀(k:Ac) (cs:Ab Ac) (c:Ac),ws f k (cs++[c])=ws f k cs+c*f (k+cs.length+1)
 | k,[],c=>by
   show c*f (k+1)+0=0+c*f (k+0+1)
   rw [Es,Es,D_]
 | k,d :: cs,c=>by
   show d*f (k+1)+ws f (k+1) (cs++[c])=d*f (k+1)+ws f (k+1) cs+c*f (k+((cs.length+1:Ae):Ac)+1)
   rw [LB f (k+1) cs c]
   have e:k+1+(cs.length:Ac)+1=k+((cs.length+1:Ae):Ac)+1:=by omega
   rw [e]
   exact (UE ..).symm
theorem LA (f:Ac->Ac):∀(k:Ac) (cs:Ab Ac) (i:Ae) (c d:Ac),cs[i]?=Aa c->ws f k (cs.set i (c+d))=ws f k cs+d*f (k+i+1)
 | k,[],i,c,d,h=>by simp at h
 | k,b :: cs,0,c,d,h=>by
   have e:b=c:=by simpa using h
   subst e
   show (b+d)*f (k+1)+ws f (k+1) cs=b*f (k+1)+ws f (k+1) cs+d*f (k+0+1)
   rw [Es,Int.add_mul]
   omega
 | k,b :: cs,i+1,c,d,h=>by
   show b*f (k+1)+ws f (k+1) (cs.set i (c+d))=b*f (k+1)+ws f (k+1) cs+d*f (k+((i+1:Ae):Ac)+1)
   rw [LA f (k+1) cs i c d (by simpa using h)]
   have e:k+1+(i:Ac)+1=k+((i+1:Ae):Ac)+1:=by omega
   rw [e]
   exact (UE ..).symm
noncomputable def JL (cs:Ab Ac):Prop:=∀c∈cs,Sz 300 c
noncomputable def Alt (cs ds:Ab Ac) (pl:Ac):Prop:=(cs=ds/\pl=0)\/∃(i:Ae) (c d:Ac),cs[i]?=Aa c/\d≠0/\Sz 300 d/\ds=cs.set i (c+d)/\pl=(i:Ac)+1
noncomputable def HU (x0 x1 x2 n:Ac):Ac:=if x0=0 then 0 else if x1.fdiv x0 < 1\/n < x1.fdiv x0 then 0 else if x1≠x0*x1.fdiv x0\/x2≠x0*x1.fdiv x0*x1.fdiv x0 then 0 else x1.fdiv x0
theorem Zf {d p n:Ac} (h:d≠0) (p1:1<=p) (pn:p<=n):HU d (d*p) (d*(p*p)) n=p:=by
 unfold HU
 rw [Ao h,Kt p h,Ao (by omega),Ao]
 rintro (z | z)
 ·exact z rfl
 ·exact z (Om ..).symm
inductive Tb (vs:Ab V) (H:Hp) (Q:VK) (E:XK):Prop
 | mk (p:Ad) (cs:Ab Ac):vs=[.ref p]->H p=Aa (.lst (cs.map V.int))->JL cs->cs.length<=130->(∀(t:Ad) (H':Hp),H t=Ag->Ax H H'->H' t=Aa (.tup ((FB cs).map V.int))->Q (.ref t) H')->Tb vs H Q E
inductive SW (vs:Ab V) (H:Hp) (Q:VK) (E:XK):Prop
 | mk (p:Ad) (x0 x1 x2 n:Ac):vs=[.ref p,.int n]->H p=Aa (.lst [.int x0,.int x1,.int x2])->Sz 1000 x0->Sz 1000 x1->Q (.int (HU x0 x1 x2 n)) H->SW vs H Q E
inductive SM (vs:Ab V) (H:Hp) (Q:VK) (E:XK):Prop
 | mk (p r:Ad) (cs ds:Ab Ac) (pl:Ac):vs=[.ref p,.ref r]->H p=Aa (.lst (cs.map V.int))->H r=Aa (.tup ((FB ds).map V.int))->JL cs->JL ds->cs.length<=130->Alt cs ds pl->(∀(a t:Ad) (H':Hp),H a=Ag->Ax H H'->H' a=Aa (.lst (ds.map V.int))->H' t=Aa (.tup [.ref a,.int pl])->Q (.ref t) H')->SM vs H Q E
noncomputable def off (H:Hp) (D:Ad):Hp:=fun b=>if b=D then Ag else H b
theorem DH (H:Hp) (D:Ad):Ax (off H D) H:=fun b o e=>by
 unfold off at e
 split at e
 ·cases e
 ·exact e
theorem Bj {H:Hp} {D b:Ad} {o:HO} (e:H b=Aa o) (n:b≠D):off H D b=Aa o:=by
 unfold off
 rw [Ao n]
 exact e
theorem GK {H:Hp} {D:Ad}:off H D D=Ag:=by unfold off;rw [At rfl]
theorem E7 {H H':Hp} {D:Ad} {o:HO} (s:Ax (off H D) H'):Ax (off H D) (upd H' D o):=fun b u e=>by
 rw [AF (fun z=>by rw [z,GK] at e;cases e)]
 exact s _ _ e
theorem Dn {H0 H:Hp} {D:Ad} (s:Ax H0 H) (n:H0 D=Ag):Ax H0 (off H D):=fun b o e=>Bj (s _ _ e) fun z=>by rw [z,n] at e;cases e
noncomputable def Aaz:Sp:=fun vs H Q _=>∃n:Ac,vs=[.int n]/\1<=n/\n<=12/\Q (.bl Af) H
noncomputable def ld (q:Ab Ac × Ac):Ex:=.tuple [.tuple (q.1.map .int),.int q.2]
theorem HX {K:A6} {H:Hp}:∀{ls:Ls},AO H ls->Reps K H (vls ls) ((An ls).map ld)
 | [],_=>.nil
 | q :: _,g=>by
   obtain ⟨g1,g2⟩:=g q (Bw ..)
   exact .cons (.tup (SqT.of g1) (.cons (.tup (SqT.of g2) (.ints _)) (.cons (.int _) .nil))) (HX (g.sub fun _ m=>Bv _ m))
theorem QI:∀ds:Ds,KE (ds.map ld)=Af/\Jp (ds.map ld)<=2
 | []=>⟨rfl,BQ _⟩
 | q :: r=>by
   obtain ⟨h1,h2⟩:=QI r
   obtain ⟨i1,i2⟩:=QH q.1
   refine ⟨?_,?_⟩
   ·show ((KE (q.1.map .int) && (Af && Af)) && KE (r.map ld))=Af
    rw [h1,i1];rfl
   ·show max (max (Jp (q.1.map .int)+1) (max 0 0)+1) (Jp (r.map ld))<=2
    omega
theorem IW (ds:Ds):SeqAt.shaped (.list (ds.map ld))=Af:=by
 obtain ⟨h1,h2⟩:=QI ds
 unfold SeqAt.shaped
 rw [Oc]
 refine ⟨h1,Be ?_⟩
 show Jp (ds.map ld)+1<=64
 omega
theorem Nf:∀ds:Ds,KF (ds.map ld) (ds.map ld)=Af
 | []=>rfl
 | q :: r=>by
   show ((KF (q.1.map .int) (q.1.map .int) && ((q.2 == q.2) && Af)) && KF (r.map ld) (r.map ld))=Af
   rw [Nf r,Qv,Be rfl,beq_self_eq_true]
   rfl
theorem Nt (a:Ab Ac):HT.lexLt a a≠Af:=fun e=>by
 have:=Ll e
 rw [e] at this
 cases this
theorem TV {ts:Ab Ac} {n:Ac}:∀{out:Ds},out.Pairwise (fun x y=>HT.lexLt x.1 y.1=Af)->(ts,n)∈out->tot out ts=n
 | [],_,m=>nomatch m
 | q :: r,h,m=>by
   rw [Hj] at h
   show (if q.1=ts then q.2 else 0)+tot r ts=n
   rcases List.mem_cons.mp m with e | e
   ·rw [<- e,At rfl,I_ fun k=>?_]
    ·exact Es _
    ·obtain ⟨x,xm,xe⟩:=List.mem_map.mp k
     have:=h.1 x xm
     rw [<- e,xe] at this
     exact Nt _ this
   ·rw [Ao fun c=>Nt q.1 (by have:=h.1 _ e;rw [show (ts,n).1=q.1 from c.symm] at this;exact this),TV h.2 e]
    exact D_ _
theorem BY.tot {ds out:Ds} (h:BY ds out) (p:Pos ds) (ts:Ab Ac):Law.tot out ts=Law.tot ds ts:=by
 by_cases c:0 < Law.tot ds ts
 ·exact TV h.srt ((h.mem ts _).mpr ⟨rfl,c⟩)
 ·have z:=NW (ts:=ts) p
  rw [I_ fun k=>?_]
  ·omega
  ·obtain ⟨x,xm,xe⟩:=List.mem_map.mp k
   have:=(h.mem x.1 x.2).mp xm
   rw [xe] at this
   omega
theorem BY.pos {ds out:Ds} (h:BY ds out):Pos out:=fun q m=>by
 have:=(h.mem q.1 q.2).mp m
 omega
theorem BY.keys {ds out:Ds} (h:BY ds out) {p:Ab (Ab Ac)} (hp:∀q∈ds,q.1∈p):∀q∈out,q.1∈p:=fun q m=>by
 have k:=(h.mem q.1 q.2).mp m
 by_cases c:q.1∈ds.map (·.1)
 ·obtain ⟨r,rm,e⟩:=List.mem_map.mp c
  rw [<- e]
  exact hp r rm
 ·rw [I_ c] at k
  omega
noncomputable def d2 (a b:Ds):Ex:=.list [.list (a.map ld),.list (b.map ld)]
theorem M' {xs:Ab V} {j:Ae}:Fp xs (Aa (j:Ac)) Ag=xs.drop j:=by
 unfold Fp
 rw [HT.sIx_none,HT.sIx_nat]
 by_cases h:j<=xs.length
 ·rw [OF h]
  exact CJ (by rw [Hh];exact AB _)
 ·rw [Vh (by omega),Ow (AB _),Ow (by omega)]
  exact List.take_nil
theorem BY.len {ds out:Ds} (h:BY ds out) {p:Ab (Ab Ac)} (hp:∀q∈ds,q.1∈p):out.length<=p.length:=by
 have nd:(out.map (·.1)).Nodup:=by
  refine List.pairwise_map.mpr (h.srt.imp fun {x y} k e=>?_)
  rw [e] at k
  exact Nt _ k
 have:=N2 nd fun x xm=>by
  obtain ⟨q,qm,rfl⟩:=List.mem_map.mp xm
  exact h.keys hp q qm
 rw [Aw] at this
 exact this
theorem BY.of_tot {ds es out:Ds} (h:BY ds out) (e:∀ts,Law.tot es ts=Law.tot ds ts):BY es out:=⟨h.srt,fun ts n=>by rw [e];exact h.mem ts n⟩
noncomputable def OkS (n:Ae) (ts:Ab Ac):Prop:=∃rs m,ts=C8 rs/\rs.length=n/\Ga rs m/\∀r∈rs,0<=r/\r<=12
noncomputable def Cp (n:Ae) (p:Ab (Ab Ac)) (ds:Ds):Prop:=∀q∈ds,q.1∈p/\1<=q.2/\q.2<=1000000000/\OkS n q.1
noncomputable def DV (n:Ae) (ds:Ds):Ab Ac:=ds.map fun q=>Cm q.2 (BJ q.1 n)
theorem OkS.ranks {n:Ae} {ts:Ab Ac} (h:OkS n ts):∃rs m,BJ ts n=rs/\ts=C8 rs/\rs.length=n/\Ga rs m/\(∀r∈rs,0<=r/\r<=12)/\∀x∈ts,0<=x/\x < 2 ^ n:=by
 obtain ⟨rs,m,rfl,rfl,g,r12⟩:=h
 exact ⟨rs,m,g.ranks,rfl,rfl,g,r12,TN⟩
theorem OkS.len {n:Ae} {ts:Ab Ac} (h:OkS n ts):ts.length<=n:=by
 obtain ⟨rs,m,rfl,rfl,g,r12⟩:=h
 exact Abg rs
theorem JO {n:Ae} {p:Ab (Ab Ac)} {ds:Ds} (n12:n<=12) (h:Cp n p ds):JL (DV n ds):=fun c m=>by
 obtain ⟨q,qm,rfl⟩:=List.mem_map.mp m
 obtain ⟨_,q1,q9,ok⟩:=h q qm
 obtain ⟨rs,m,e,_,l,_,r12,_⟩:=ok.ranks
 show Sz 300 (Cm q.2 (BJ q.1 n))
 rw [e]
 have k:=Qd (c:=q.2) (by omega) (by omega) r12 (by omega)
 exact C1 (by omega) (by omega)
theorem GB (n:Ae) (ds:Ds):(DV n ds).length=ds.length:=Aw ..
abbrev fsB (n:Ac) (L:Ad):Ab (Ak × V):=[("hands",.int n),("bundles",.ref L)]
theorem Zw (x:V):Bb "hands" x []=([("hands",x)]:Ab (Ak × V)):=rfl
theorem Zx (x y:V):Bb "bundles" y [("hands",x)]=([("hands",x),("bundles",y)]:Ab (Ak × V)):=by
 unfold Bb;rw [Ao (by decide)];rfl
structure IsB (C:Ad) (H:Hp) (b L:Ad) (n:Ae) (bs:Ab (Ad × Ls)):Prop where
 at_:∃dx,H b=Aa (.ins C dx (fsB (n:Ac) L))
 lst:H L=Aa (.lst (bs.map fun x=>V.ref x.1))
 lies:∀x∈bs,H x.1=Aa (.lst (vls x.2))/\AO H x.2
 ne:∀x∈bs,x.1≠L
theorem IsB.same {C:Ad} {H H':Hp} {b L:Ad} {n:Ae} {bs:Ab (Ad × Ls)} (s:Ax H H') (h:IsB C H b L n bs):IsB C H' b L n bs:=by
 obtain ⟨⟨dx,h1⟩,h2,h3,h4⟩:=h
 exact ⟨⟨dx,s _ _ h1⟩,s _ _ h2,fun x m=>⟨s _ _ (h3 x m).1,(h3 x m).2.same s⟩,h4⟩
theorem HF (bs:Ab (Ad × Ls)) (x:Ad × Ls):AU (bs++[x])=AU bs++x.2:=by
 unfold AU
 rw [Bc,LZ]
 simp
inductive Sl (K:A6) (vs:Ab V) (H:Hp) (Q:VK) (E:XK):Prop
 | mk (a C dx:Ad) (n:Ac):vs=[.ref a,.int n]->H a=Aa (.ins C dx [])->Cls K C->BG K C "hands"->BG K C "bundles"->1<=n->n<=12->(∀(L:Ad) (H':Hp),L≠a->H L=Ag->Ax (off H a) H'->H' a=Aa (.ins C dx (fsB n L))->H' L=Aa (.lst [])->Q .non H')->Sl K vs H Q E
inductive SI (C:Ad) (vs:Ab V) (H:Hp) (Q:VK) (E:XK):Prop
 | mk (b L:Ad) (n:Ae) (bs:Ab (Ad × Ls)):vs=[.ref b]->IsB C H b L n bs->Q (.int (bs.length:Ae)) H->SI C vs H Q E
inductive Tj (C:Ad) (vs:Ab V) (H:Hp) (Q:VK) (E:XK):Prop
 | mk (b L:Ad) (n:Ae) (bs:Ab (Ad × Ls)) (c r:Ad) (p:Ab (Ab Ac)) (ds:Ds) (cs:Ab Ac) (pl:Ac):vs=[.ref b,.ref c,.ref r]->IsB C H b L n bs->bs.length<=900->n<=12->H c=Aa (.lst (cs.map V.int))->JL cs->cs.length<=130->Alt cs (DV n ds) pl->c≠L->H r=Aa (.tup ((FB (DV n ds)).map V.int))->Cp n p ds->ds.length<=130->(∀(x t:Ad) (ls:Ls) (H':Hp),H x=Ag->Ax (off H L) H'->H' L=Aa (.lst ((bs++[(x,ls)]).map fun x=>V.ref x.1))->H' x=Aa (.lst (vls ls))->AO H' ls->An ls=ds->H' t=Aa (.tup [.int (bs.length:Ae),.int pl])->Q (.ref t) H')->Tj C vs H Q E
inductive SA (C:Ad) (vs:Ab V) (H:Hp) (Q:VK) (E:XK):Prop
 | mk (b L:Ad) (n:Ae) (bs:Ab (Ad × Ls)) (k:Ae) (x:Ad × Ls):vs=[.ref b,.int (k:Ac)]->IsB C H b L n bs->bs[k]?=Aa x->(∀(l:Ad) (H':Hp),H l=Ag->Ax H H'->H' l=Aa (.lst (vls x.2))->Q (.ref l) H')->SA C vs H Q E
inductive Td (C:Ad) (vs:Ab V) (H:Hp) (Q:VK) (E:XK):Prop
 | mk (b L:Ad) (n:Ae) (bs:Ab (Ad × Ls)) (k:Ae) (x:Ad × Ls) (p:Ab (Ab Ac)):vs=[.ref b,.int (k:Ac)]->IsB C H b L n bs->bs[k]?=Aa x->Cp n p (An x.2)->p.length < 64->(∀(l:Ad) (ls:Ls) (H':Hp),H l=Ag->Ax H H'->H' l=Aa (.lst (vls ls))->AO H' ls->BY (An x.2) (An ls)->ls.length < 64->Q (.ref l) H')->Td C vs H Q E
inductive Te (C:Ad) (vs:Ab V) (H:Hp) (Q:VK) (E:XK):Prop
 | mk (b L:Ad) (n:Ae) (bs:Ab (Ad × Ls)) (p:Ab (Ab Ac)):vs=[.ref b]->IsB C H b L n bs->(∀x∈bs,Cp n p (An x.2))->p.length < 64->bs.length<=12->(∀(l:Ad) (ls:Ls) (H':Hp),H l=Ag->Ax H H'->H' l=Aa (.lst (vls ls))->AO H' ls->BY (An (AU bs)) (An ls)->ls.length < 64->Q (.ref l) H')->Te C vs H Q E
structure Bun (H0 H:Hp) (n:Ae) (p:Ab (Ab Ac)) (bs:Ab (Ad × Ls)):Prop where
 lies:∀x∈bs,H x.1=Aa (.lst (vls x.2))/\AO H x.2
 ok:∀x∈bs,Cp n p (An x.2)
 nd:(bs.map (·.1)).Nodup
 new:∀x∈bs,H0 x.1=Ag
theorem Bun.same {H0 H H':Hp} {n:Ae} {p:Ab (Ab Ac)} {bs:Ab (Ad × Ls)} (s:Ax H H') (h:Bun H0 H n p bs):Bun H0 H' n p bs:=⟨fun x m=>⟨s _ _ (h.lies x m).1,(h.lies x m).2.same s⟩,h.ok,h.nd,h.new⟩
theorem Rb:∀{as:Ab Ad} {i j:Ae} {a:Ad},as.Nodup->as[i]?=Aa a->as[j]?=Aa a->i=j
 | [],_,_,_,_,h,_=>by simp at h
 | x :: as,0,0,a,_,_,_=>rfl
 | x :: as,0,j+1,a,nd,h,k=>by
   rw [FP] at nd
   have e:x=a:=Bp h
   exact A8 (Br (show as[j]?=Aa a from k)) (e ▸ nd.1)
 | x :: as,i+1,0,a,nd,h,k=>by
   rw [FP] at nd
   have e:x=a:=Bp k
   exact A8 (Br (show as[i]?=Aa a from h)) (e ▸ nd.1)
 | x :: as,i+1,j+1,a,nd,h,k=>by
   rw [FP] at nd
   rw [Rb nd.2 (show as[i]?=Aa a from h) (show as[j]?=Aa a from k)]
theorem Bun.push {H0 H:Hp} {n:Ae} {p p':Ab (Ab Ac)} {bs:Ab (Ad × Ls)} {j:Ae} {x:Ad × Ls} {q:Ad × Ad × Ab Ac × Ac} (h:Bun H0 H n p bs) (ex:bs[j]?=Aa x) (sub:∀z∈p,z∈p') (g1:H q.1=Aa (.tup [.ref q.2.1,.int q.2.2.2])) (g2:H q.2.1=Aa (.tup (q.2.2.1.map V.int))) (okq:q.2.2.1∈p'/\1<=q.2.2.2/\q.2.2.2<=1000000000/\OkS n q.2.2.1) :
 Bun H0 (upd H x.1 (.lst (vls (x.2++[q])))) n p' (bs.set j (x.1,x.2++[q])):=by
 obtain ⟨h1,h2,h3,h4⟩:=h
 have xm:=Br ex
 have up:∀ds,Cp n p ds->Cp n p' ds:=fun ds k z m=>⟨sub _ (k z m).1,(k z m).2⟩
 have gq:AO H [q]:=fun z m=>by rw [List.mem_singleton.mp m];exact ⟨g1,g2⟩
 have hset:(bs.set j (x.1,x.2++[q])).map (·.1)=bs.map (·.1):=by
  rw [Et]
  apply K0
  intro i
  by_cases c:j=i
  ·subst c
   rw [FL (by rw [Aw];exact (List.getElem?_eq_some_iff.mp ex).1),Bm,ex]
   rfl
  ·rw [Hg c]
 have at_:∀y∈bs.set j (x.1,x.2++[q]),y=(x.1,x.2++[q])\/(y∈bs/\y.1≠x.1):=fun y m=>by
  obtain ⟨i,hi⟩:=Ox m
  by_cases c:j=i
  ·subst c
   rw [FL (by exact (List.getElem?_eq_some_iff.mp ex).1)] at hi
   exact .inl (Bp hi).symm
  ·rw [Hg c] at hi
   refine .inr ⟨Br hi,fun z=>c ?_⟩
   refine Rb h3 (a:=x.1) (by rw [Bm,ex];rfl) (by rw [Bm,hi];exact BR Aa z)
 refine ⟨fun y m=>?_,fun y m=>?_,by rw [hset];exact h3,fun y m=>?_⟩
 ·rcases at_ y m with rfl | ⟨ym,ne⟩
  ·exact ⟨Ap,((h1 x xm).2.append gq).upd (h1 x xm).1⟩
  ·exact ⟨by rw [AF ne];exact (h1 y ym).1,(h1 y ym).2.upd (h1 x xm).1⟩
 ·rcases at_ y m with rfl | ⟨ym,ne⟩
  ·intro z zm
   rw [Cq] at zm
   rcases List.mem_append.mp zm with zm | zm
   ·exact up _ (h2 x xm) z zm
   ·rw [List.mem_singleton.mp zm]
    exact okq
  ·exact up _ (h2 y ym)
 ·rcases at_ y m with rfl | ⟨ym,ne⟩
  ·exact h4 x xm
  ·exact h4 y ym
theorem Y5 {H H':Hp} {L a:Ad} {o:HO} (s:Ax H H') (e:off H L a=Aa o):off H' L a=Aa o:=by
 unfold off at e ⊢
 split at e
 ·cases e
 ·rename_i c
  rw [Ao c]
  exact s _ _ e
theorem N3 {H:Hp} {L a:Ad} (e:H a=Ag):off H L a=Ag:=by
 unfold off
 split
 ·rfl
 ·exact e
theorem PD {m:Ae}:∀{cs:Ab (Ad × Ls)},(∀x∈cs,x.2.length<=m)->(AU cs).length<=m*cs.length
 | [],_=>BQ _
 | c :: cs,h=>by
   show (c.2++AU cs).length<=m*(cs.length+1)
   have a:=h c (Bw ..)
   have b:=PD (fun x k=>h x (Bv _ k))
   rw [B9,Nat.mul_succ]
   omega
theorem Aam {bs:Ab (Ad × Ls)} {j:Ae} {x:Ad × Ls} {l:Ls} (ex:bs[j]?=Aa x):((bs.set j (x.1,l)).map fun x=>V.ref x.1)=bs.map fun x=>V.ref x.1:=by
 rw [Et]
 apply K0
 intro i
 by_cases c:j=i
 ·subst c
  rw [FL (by rw [Aw];exact (List.getElem?_eq_some_iff.mp ex).1),Bm,ex]
  rfl
 ·rw [Hg c]
theorem Aah {bs:Ab (Ad × Ls)} {j:Ae} {B:Ad} {x:Ad × Ls} {l:Ls} (ex:bs[j]?=Aa x) (h:∀y∈bs,y.1≠B):∀y∈bs.set j (x.1,l),y.1≠B:=fun y k=>by
 rcases DQ k with k | rfl
 ·exact h y k
 ·exact h x (Br ex)
theorem MM:∀{as bs:Ab (Ad × Ls)},as.map (fun x=>An x.2)=bs.map (fun x=>An x.2)->An (AU as)=An (AU bs)
 | [],[],_=>rfl
 | [],_ :: _,h=>by cases h
 | _ :: _,[],h=>by cases h
 | a :: as,b :: bs,h=>by
   rw [BL,BL] at h
   injection h with h1 h2
   show An (a.2++AU as)=An (b.2++AU bs)
   rw [Cq,Cq,h1,MM h2]
noncomputable def AX (ds:Ds):Ac:=(ds.map (·.2)).sum
theorem FF (q:Ab Ac × Ac) (r:Ds):AX (q :: r)=q.2+AX r:=by unfold AX;rw [BL,Eb]
theorem Rz {t:Ab Ac} {n:Ac}:∀{K:Ab (Ab Ac)},K.Nodup->(K.map fun k=>if t=k then n else 0).sum=if t∈K then n else 0
 | [],_=>rfl
 | k :: K,h=>by
   rw [FP] at h
   rw [BL,Eb,Rz h.2]
   by_cases c:t=k
   ·subst c
    rw [At rfl,Ao h.1,At (Bw ..),Es]
   ·rw [Ao c,D_]
    by_cases m:t∈K
    ·rw [At m,At (Bv _ m)]
    ·rw [Ao m,Ao (by rw [FO,JA];exact ⟨c,m⟩)]
theorem T4 {α:Type} (f g:α->Ac):∀K:Ab α,(K.map fun k=>f k+g k).sum=(K.map f).sum+(K.map g).sum
 | []=>rfl
 | k :: K=>by
   rw [BL,BL,BL,Eb,Eb,Eb,T4 f g K]
   omega
theorem Ug:∀K:Ab (Ab Ac),(K.map (tot [])).sum=0
 | []=>rfl
 | k :: K=>by rw [BL,Eb,Ug K];rfl
theorem NT {K:Ab (Ab Ac)} (nd:K.Nodup):∀{ds:Ds},(∀q∈ds,q.1∈K)->(K.map (tot ds)).sum=AX ds
 | [],_=>by
   exact Ug K
 | q :: r,h=>by
   have e:K.map (tot (q :: r))=K.map fun k=>(if q.1=k then q.2 else 0)+tot r k:=rfl
   rw [e,T4,Rz nd,At (h q (Bw ..)),FF]
   have ih:=NT nd (ds:=r) fun p m=>h p (Bv _ m)
   have e2:(K.map fun k=>tot r k)=K.map (tot r):=rfl
   rw [e2,ih]
noncomputable def ded:Ab (Ab Ac)->Ab (Ab Ac)
 | []=>[]
 | x :: xs=>if x∈ded xs then ded xs else x :: ded xs
theorem Nb:∀xs,(ded xs).Nodup
 | []=>Hi
 | x :: xs=>by
   show (if x∈ded xs then ded xs else x :: ded xs).Nodup
   split
   ·exact Nb xs
   ·rename_i h
    exact List.nodup_cons.mpr ⟨h,Nb xs⟩
theorem K':∀{xs:Ab (Ab Ac)} {x:Ab Ac},x∈xs->x∈ded xs
 | y :: xs,x,m=>by
   show x∈if y∈ded xs then ded xs else y :: ded xs
   rcases List.mem_cons.mp m with e | e
   ·subst e
    split
    ·assumption
    ·exact Bw ..
   ·split
    ·exact K' e
    ·exact Bv _ (K' e)
theorem Kg {a b:Ds} (h:∀ts,tot a ts=tot b ts):AX a=AX b:=by
 have nd:=Nb ((a++b).map (·.1))
 rw [<- NT nd (ds:=a) fun q m=>K' (List.mem_map.mpr ⟨q,Jl _ m,rfl⟩),<- NT nd (ds:=b) fun q m=>K' (List.mem_map.mpr ⟨q,Ea _ m,rfl⟩)]
 rw [show tot a=tot b from funext h]
noncomputable def Wz (a b:Ds):Ac:=(a.map fun q=>if q.2 - tot b q.1 > 0 then q.2 - tot b q.1 else 0).sum
inductive Sg (vs:Ab V) (H:Hp) (Q:VK) (E:XK):Prop
 | mk (l m:Ad) (ls ms:Ls) (p:Ab (Ab Ac)):vs=[.ref l,.ref m]->H l=Aa (.lst (vls ls))->AO H ls->ls.length < 64->H m=Aa (.lst (vls ms))->AO H ms->(∀q∈An ms,q.1∈p)->p.length < 64->(∀H':Hp,Ax H H'->Q (.int (Wz (An ls) (An ms))) H')->Sg vs H Q E
theorem IsB.more {C:Ad} {H H':Hp} {b L x:Ad} {n:Ae} {as:Ab (Ad × Ls)} {ls:Ls} (h:IsB C H b L n as) (s:Ax (Law.off H L) H') (hx:H x=Ag) (eL:H' L=Aa (.lst ((as++[(x,ls)]).map fun x=>V.ref x.1))) (ex:H' x=Aa (.lst (vls ls))) (g:AO H' ls):IsB C H' b L n (as++[(x,ls)]):=by
 obtain ⟨⟨dx,h1⟩,h2,h3,h4⟩:=h
 refine ⟨⟨dx,s _ _ (Bj h1 (fun z=>by rw [z,h2] at h1;cases h1))⟩,eL,fun y m=>?_,fun y m=>?_⟩
 ·rcases List.mem_append.mp m with m | m
  ·refine ⟨s _ _ (Bj (h3 y m).1 (h4 y m)),fun q k=>?_⟩
   obtain ⟨g1,g2⟩:=(h3 y m).2 q k
   exact ⟨s _ _ (Bj g1 (Bq g1 h2 (fun z=>by cases z))),s _ _ (Bj g2 (Bq g2 h2 (fun z=>by cases z)))⟩
  ·rw [List.mem_singleton.mp m]
   exact ⟨ex,g⟩
 ·rcases List.mem_append.mp m with m | m
  ·exact h4 y m
  ·rw [List.mem_singleton.mp m]
   exact fun (z:x=L)=>by rw [z,h2] at hx;cases hx
theorem XE {H H' H0:Hp} {L:Ad} (a:Ax H0 H) (n:H0 L=Ag) (s:Ax (off H L) H'):Ax H0 H':=(Dn a n).trans s
theorem AO.off {H H':Hp} {M:Ad} {zs:Ab V} {ls:Ls} (g:AO H ls) (s:Ax (Law.off H M) H') (hM:H M=Aa (.lst zs)):AO H' ls:=fun q k=>by
 obtain ⟨g1,g2⟩:=g q k
 exact ⟨s _ _ (Bj g1 (Bq g1 hM (fun z=>by cases z))),s _ _ (Bj g2 (Bq g2 hM (fun z=>by cases z)))⟩
theorem IsB.put {C:Ad} {H H':Hp} {b L y:Ad} {n k:Ae} {as:Ab (Ad × Ls)} {ls:Ls} (h:IsB C H b L n as) (s:Ax (Law.off H L) H') (hy:H y=Ag) (eL:H' L=Aa (.lst ((as.set k (y,ls)).map fun x=>V.ref x.1))) (ey:H' y=Aa (.lst (vls ls))) (g:AO H' ls):IsB C H' b L n (as.set k (y,ls)):=by
 obtain ⟨⟨dx,h1⟩,h2,h3,h4⟩:=h
 refine ⟨⟨dx,s _ _ (Bj h1 (fun z=>by rw [z,h2] at h1;cases h1))⟩,eL,fun x m=>?_,fun x m=>?_⟩
 ·rcases DQ m with m | rfl
  ·exact ⟨s _ _ (Bj (h3 x m).1 (h4 x m)),(h3 x m).2.off s h2⟩
  ·exact ⟨ey,g⟩
 ·rcases DQ m with m | rfl
  ·exact h4 x m
  ·exact fun (z:y=L)=>by rw [z,h2] at hy;cases hy
inductive Tp (vs:Ab V) (H:Hp) (Q:VK) (E:XK):Prop
 | mk (t b:Ac):vs=[.int t,.int b]->0 < b->Sz 9000 b->Q (.int (-((-t).fdiv b))) H->Tp vs H Q E
noncomputable def P3 (h:Ae) (ts:Ab Ac):Prop:=ts=[]\/∃t r,ts=t :: r/\0<=t/\t < 2 ^ h
noncomputable def KU (h:Ae) (H:Hp) (ls:Ls):Prop:=∀q∈ls,H q.1=Aa (.tup [.ref q.2.1,.int q.2.2.2])/\H q.2.1=Aa (.tup (q.2.2.1.map V.int))/\P3 h q.2.2.1
noncomputable def plK (t:Ac) (h:Ae):Ae->Ae
 | 0=>h
 | k+1=>if t=2 ^ k then k else plK t h k
noncomputable def pl (h:Ae):Ab Ac->Ae
 | []=>h
 | t :: _=>plK t h h
theorem R5 (t:Ac) (h:Ae):∀k,k<=h->plK t h k<=h
 | 0,_=>AB _
 | k+1,hk=>by
   show (if t=2 ^ k then k else plK t h k)<=h
   split
   ·omega
   ·exact R5 t h k (by omega)
theorem R7 (h:Ae):∀ts,pl h ts<=h
 | []=>AB _
 | t :: _=>R5 t h h (AB _)
theorem Zk {a b:Ae} (h:(2:Ac) ^ a=2 ^ b):a=b:=by
 have e:((2 ^ a:Ae):Ac)=((2 ^ b:Ae):Ac):=by simpa using h
 have f:2 ^ a=2 ^ b:=by omega
 exact Nat.pow_right_inj (by decide) |>.mp f
theorem R4 {t:Ac} {h:Ae}:∀k {j:Ae},j < k->t=2 ^ j->plK t h k=j
 | k+1,j,hj,e=>by
   show (if t=2 ^ k then k else plK t h k)=j
   by_cases c:t=2 ^ k
   ·rw [At c];exact Zk (c.symm.trans e)
   ·rw [Ao c]
    have:j≠k:=fun z=>c (by rw [<- z];exact e)
    exact R4 k (by omega) e
theorem R6 {t:Ac} {h:Ae}:∀k,(∀j,j < k->t≠2 ^ j)->plK t h k=h
 | 0,_=>rfl
 | k+1,n=>by
   show (if t=2 ^ k then k else plK t h k)=h
   rw [Ao (n k (by omega))]
   exact R6 k fun j hj=>n j (by omega)
theorem QV:∀(n:Ae) (t:Ac),0<=t->t < 2 ^ n->BU n (bit t)=t
 | 0,t,h0,h1=>by
   have:t < 1:=h1
   show (0:Ac)=t
   omega
 | n+1,t,h0,h1=>by
   rw [Kv] at h1
   show (if bit t 0=Af then (1:Ac) else 0)+2*BU n (fun i=>bit t (i+1))=t
   have e:BU n (fun i=>bit t (i+1))=t / 2:=by
    rw [<- QV n (t / 2) (by omega) (by omega)]
    exact QW n fun i _=>(PU t i).symm
   rw [e,PX]
   by_cases c:t % 2=1
   ·rw [Be c,At rfl];omega
   ·rw [Bo c,Ao (by decide)];omega
theorem Y6:∀k:_root_.Fin 12,hands 12 (bit (2 ^ k.val))=[(k.val:Ac)]:=by decide +kernel
theorem Ze {t:Ac} {r:Ab Ac} {h:Ae} {z:Ac} (h12:h<=12) (t0:0<=t) (t1:t < 2 ^ h) (e:hands 12 (bit t)=[z]):(pl h (t :: r):Ac)=z/\pl h (t :: r) < h:=by
 have lt:t < 2 ^ 12:=by
  have:(2:Ac) ^ h<=2 ^ 12:=by
   have q:2 ^ h<=2 ^ 12:=Hn (by decide) h12
   have e1:((2 ^ h:Ae):Ac)=(2:Ac) ^ h:=by simp
   omega
  omega
 have m:=MX 12 (bit t)
 rw [e,QV 12 t t0 lt] at m
 obtain ⟨k,k12,_,rfl⟩:=Nj.mp (show z∈hands 12 (bit t) by rw [e];exact Bw ..)
 have et:t=2 ^ k:=by
  rw [<- m]
  show (1:Ac)*2 ^ (k:Ac).toNat+0=2 ^ k
  rw [He,Es,Ce]
 have kh:k < h:=by
  rcases (by omega:k < h\/h<=k) with c | c
  ·exact c
  ·have q:2 ^ h<=2 ^ k:=Hn (by decide) c
   have e1:((2 ^ h:Ae):Ac)=(2:Ac) ^ h:=by simp
   have e2:((2 ^ k:Ae):Ac)=(2:Ac) ^ k:=by simp
   omega
 have:pl h (t :: r)=k:=R4 h kh et
 rw [this]
 exact ⟨rfl,kh⟩
theorem Zd {t:Ac} {r:Ab Ac} {h:Ae} (h12:h<=12) (e:(hands 12 (bit t)).length≠1):pl h (t :: r)=h:=by
 refine R6 h fun j hj z=>e ?_
 rw [z]
 have:=Y6 ⟨j,by omega⟩
 rw [show (2:Ac) ^ j=2 ^ (⟨j,by omega⟩:_root_.Fin 12).val from rfl,this]
 rfl
noncomputable def E3 (h:Ae) (vs:Ab Ac) (q:Ad × Ad × Ab Ac × Ac):Ab Ac:=vs.set (pl h q.2.2.1) (vs.getD (pl h q.2.2.1) 0+q.2.2.2)
noncomputable def BO (h:Ae) (ls:Ls):Ab Ac:=ls.foldl (E3 h) (Ct (h+1) 0)
theorem NV (h:Ae) (ls:Ls):(BO h ls).length=h+1:=by
 have:∀(ls:Ls) (vs:Ab Ac),(ls.foldl (E3 h) vs).length=vs.length:=by
  intro ls
  induction ls with
  | nil=>intro vs;rfl
  | cons q r ih=>intro vs;rw [US,ih];unfold E3;rw [DO]
 unfold BO
 rw [this,Fc]
theorem Abc (h:Ae) (ls:Ls) (q:Ad × Ad × Ab Ac × Ac):BO h (ls++[q])=E3 h (BO h ls) q:=by
 unfold BO
 rw [UR]
 rfl
theorem T6:∀(vs:Ab Ac) (i:Ae) (n:Ac),i < vs.length->(vs.set i (vs.getD i 0+n)).sum=vs.sum+n
 | v :: vs,0,n,_=>by
   show (v+n)+vs.sum=v+vs.sum+n
   omega
 | v :: vs,i+1,n,h=>by
   show v+(vs.set i (vs.getD i 0+n)).sum=v+vs.sum+n
   rw [T6 vs i n (Nat.lt_of_succ_lt_succ h)]
   omega
theorem AaA (h:Ae):∀ls:Ls,(BO h ls).sum=(ls.map fun q=>q.2.2.2).sum:=by
 have:∀(ls:Ls) (vs:Ab Ac),vs.length=h+1->(ls.foldl (E3 h) vs).sum=vs.sum+(ls.map fun q=>q.2.2.2).sum:=by
  intro ls
  induction ls with
  | nil=>intro vs _;show vs.sum=vs.sum+0;omega
  | cons q r ih =>
    intro vs hv
    have l:(E3 h vs q).length=h+1:=by unfold E3;rw [DO];exact hv
    rw [US,ih _ l]
    unfold E3
    rw [T6 _ _ _ (by have:=R7 h q.2.2.1;omega),BL,Eb]
    omega
 intro ls
 have z:∀n:Ae,(Ct n (0:Ac)).sum=0:=by
  intro n
  induction n with
  | zero=>rfl
  | succ n ih=>rw [List.replicate_succ,Eb,ih];rfl
 unfold BO
 rw [this ls _ (Fc ..),z]
 omega
inductive Tr (K:A6) (vs:Ab V) (H:Hp) (Q:VK) (E:XK):Prop
 | mk (l:Ad) (ls:Ls) (h:Ac):vs=[.ref l,.int h]->H l=Aa (.lst (vls ls))->KU h.toNat H ls->1<=h->h<=12->(∀(a:Ad) (H':Hp),H a=Ag->Ax H H'->H' a=Aa (.lst ((BO h.toNat ls).map V.int))->Q (.ref a) H')->Tr K vs H Q E
inductive Tq (K:A6) (vs:Ab V) (H:Hp) (Q:VK) (E:XK):Prop
 | mk (t:Ad) (ts:Ab Ac) (h:Ae):vs=[.ref t]->H t=Aa (.tup (ts.map V.int))->P3 h ts->h<=12->(pl h ts=h->∀H',Ax H H'->Q .non H')->(pl h ts < h->∀H',Ax H H'->Q (.int (pl h ts:Ae)) H')->Tq K vs H Q E
theorem Za {x0 x1:Ac} (P:Ac->Prop) (m:Ac) (h0:0<=m) (h2:m < 2) (p0:P x0) (p1:P x1):∃v,atI [V.int x0,V.int x1] m=Aa (.int v)/\P v:=by
 rcases (by omega:m=0\/m=1) with rfl | rfl
 ·exact ⟨x0,rfl,p0⟩
 ·exact ⟨x1,rfl,p1⟩
noncomputable def ups (n:Ae):Ab Ac:=(Bz n).map fun i:Ae=>(i:Ac)
theorem Abx (n:Ae):(ups n).map V.int=(Bz n).map fun i:Ae=>V.int (i:Ac):=by unfold ups;rw [Fd];rfl
theorem Abw (n:Ae):(ups n).length=n:=by unfold ups;rw [Aw,DB]
noncomputable def Aa2:Sp:=fun vs H Q _=>∃n:Ac,vs=[.int n]/\1<=n/\n<=60/\Q (.bl Af) H
noncomputable def Aa3:Sp:=fun vs H Q _=>∃n:Ac,vs=[.int n]/\1<=n/\n<=9/\Q (.bl Af) H
abbrev fsW (h s:Ac) (l:Ad):Ab (Ak × V):=[("hands",.int h),("seats",.int s),("lots",.ref l)]
abbrev fsL (h s:Ac) (l t:Ad) (st:Ac):Ab (Ak × V):=[("hands",.int h),("seats",.int s),("lots",.ref l),("hurdle",.ref t),("step",.int st)]
theorem Zr (x:V):Bb "hands" x []=([("hands",x)]:Ab (Ak × V)):=rfl
theorem Zs (x y:V):Bb "seats" y [("hands",x)]=([("hands",x),("seats",y)]:Ab (Ak × V)):=by
 unfold Bb;rw [Ao (by decide)];rfl
theorem Zt (x y z:V):Bb "lots" z [("hands",x),("seats",y)]=([("hands",x),("seats",y),("lots",z)]:Ab (Ak × V)):=by
 unfold Bb;rw [Ao (by decide)];unfold Bb;rw [Ao (by decide)];rfl
theorem Zu (x y z u:V):Bb "hurdle" u [("hands",x),("seats",y),("lots",z)]=([("hands",x),("seats",y),("lots",z),("hurdle",u)]:Ab (Ak × V)):=by
 unfold Bb;rw [Ao (by decide)];unfold Bb;rw [Ao (by decide)];unfold Bb;rw [Ao (by decide)];rfl
theorem Zv (x y z u v:V):Bb "step" v [("hands",x),("seats",y),("lots",z),("hurdle",u)]=([("hands",x),("seats",y),("lots",z),("hurdle",u),("step",v)]:Ab (Ak × V)):=by
 unfold Bb;rw [Ao (by decide)];unfold Bb;rw [Ao (by decide)];unfold Bb;rw [Ao (by decide)];unfold Bb;rw [Ao (by decide)];rfl
noncomputable def IsL (C:Ad) (H:Hp) (a:Ad) (h s st u v:Ac) (ns:Ab Ac):Prop:=∃dx l t,H a=Aa (.ins C dx (fsL h s l t st))/\H l=Aa (.lst (ns.map V.int))/\H t=Aa (.tup [.int u,.int v])
theorem IsL.same {C:Ad} {H H':Hp} {a:Ad} {h s st u v:Ac} {ns:Ab Ac} (e:Ax H H') (k:IsL C H a h s st u v ns):IsL C H' a h s st u v ns:=by
 obtain ⟨dx,l,t,k1,k2,k3⟩:=k
 exact ⟨dx,l,t,e _ _ k1,e _ _ k2,e _ _ k3⟩
inductive S7 (C:Ad) (vs:Ab V) (H:Hp) (Q:VK) (E:XK):Prop
 | mk (a:Ad) (h s st u v:Ac) (ns:Ab Ac) (n:Ac):vs=[.ref a,.int n]->IsL C H a h s st u v ns->0 < v->Sz 64 u->Sz 64 v->Sz 64 n->Q (.int (max 1 (-((-(u*n)).fdiv v)))) H->S7 C vs H Q E
inductive SK (C:Ad) (vs:Ab V) (H:Hp) (Q:VK) (E:XK):Prop
 | mk (a:Ad) (h s st u v:Ac) (ns:Ab Ac) (n k:Ac):vs=[.ref a,.int n,.int k]->IsL C H a h s st u v ns->1<=st->st<=9->0<=k->Sz 64 n->Sz 64 k->(∀(p:Ad) (H':Hp),Ax H H'->H' p=Aa (.tup [.int (Dy n (1+st*k)),.int (Db n (1+st*k))])->Q (.ref p) H')->SK C vs H Q E
theorem XZ {t b:Ac} (h:b≠0):∃d,d≠0/\t=Dy t b*d/\b=Db t b*d/\d.natAbs=ED t b:=by
 have n:=PY (t:=t) h
 obtain ⟨k,hk⟩:=W3 (x:=t) (y:=b)
 have d2:Dl t b ∣ b:=by
  have d:C5 t b ∣ b:=UI ..
  unfold Dl
  by_cases c:b < 0
  ·rw [At c];exact Int.neg_dvd.mpr d
  ·rw [Ao c];exact d
 obtain ⟨l,hl⟩:=d2
 refine ⟨Dl t b,n,?_,?_,?_⟩
 ·unfold Dy
  conv=>rhs;arg 1;arg 1;rw [hk]
  rw [Kt k n,On]
  exact hk
 ·unfold Db
  conv=>rhs;arg 1;arg 1;rw [hl]
  rw [Kt l n,On]
  exact hl
 ·unfold Dl C5
  by_cases c:b < 0
  ·rw [At c,Int.natAbs_neg,Hd]
  ·rw [Ao c,Hd]
theorem Nw {v d:Ac} (h:0 < d):∃g,0 < g/\v=Dy v d*g/\d=Db v d*g:=by
 obtain ⟨g,g0,e1,e2,_⟩:=XZ (t:=v) (b:=d) (by omega)
 have lb:=QQ (t:=v) (b:=d) (by omega)
 refine ⟨g,?_,e1,e2⟩
 rcases (by omega:0 < g\/g<=0) with h' | h'
 ·exact h'
 ·have:=UK (Gv lb) h'
  omega
theorem XY {v1 d1 v2 d2:Ac} (h1:0 < d1) (h2:0 < d2):decide (Dy v1 d1*Db v2 d2 < Dy v2 d2*Db v1 d1)=decide (v1*d2 < v2*d1):=by
 obtain ⟨g,g0,e1,e2⟩:=Nw (v:=v1) h1
 obtain ⟨k,k0,e3,e4⟩:=Nw (v:=v2) h2
 generalize Dy v1 d1=a at e1 ⊢
 generalize Db v1 d1=b at e2 ⊢
 generalize Dy v2 d2=c at e3 ⊢
 generalize Db v2 d2=e at e4 ⊢
 subst e1 e2 e3 e4
 have gk:0 < g*k:=Int.mul_pos g0 k0
 have x1:a*g*(e*k)=a*e*(g*k):=by ac_rfl
 have x2:c*k*(b*g)=c*b*(g*k):=by ac_rfl
 rw [x1,x2]
 refine decide_eq_decide.mpr ⟨fun h=>Int.mul_lt_mul_of_pos_right h gk,fun h=>Int.lt_of_mul_lt_mul_right h (Gv gk)⟩
theorem QR {v d:Ac} (h:0 < d):-(if v < 0 then -v else v)<=Dy v d/\Dy v d<=(if v < 0 then -v else v)/\0 < Db v d/\Db v d<=d:=by
 obtain ⟨g,g0,e1,e2⟩:=Nw (v:=v) h
 have lb:=QQ (t:=v) (b:=d) (by omega)
 generalize Dy v d=a at e1 ⊢
 generalize Db v d=b at e2 lb ⊢
 refine ⟨?_,?_,lb,?_⟩
 ·rcases (by omega:0<=a\/a < 0) with c | c
  ·split <;> omega
  ·have:=Int.mul_le_mul_of_nonpos_left (Gv c) (show 1<=g by omega)
   split <;> omega
 ·rcases (by omega:0<=a\/a < 0) with c | c
  ·have:=Oo (show 1<=g by omega) c
   split <;> omega
  ·split <;> omega
 ·have:=Oo (show 1<=g by omega) (Gv lb)
  omega
noncomputable def Gr (vs had:Ab Ac) (st b x:Ac):AR:=decide (vs.getD b.toNat 0*(1+st*had.getD x.toNat 0) < vs.getD x.toNat 0*(1+st*had.getD b.toNat 0))
noncomputable def Cu (vs ns:Ab Ac) (l:Ac):Ab Ac:=ns.filter fun i=>decide (l<=vs.getD i.toNat 0)
noncomputable def El (vs had:Ab Ac) (st b:Ac) (xs:Ab Ac):Ac:=xs.foldl (fun b x=>if Gr vs had st b x=Af then x else b) b
noncomputable def C0 (vs ns had:Ab Ac) (l st:Ac):Ac:=match Cu vs ns l with
 | []=>0
 | b :: r=>El vs had st b (b :: r)
noncomputable def GA (xs:Ab Ac) (i:Ac):Ab Ac:=xs.set i.toNat (xs.getD i.toNat 0+1)
noncomputable def By (vs ns:Ab Ac) (l st:Ac) (h:Ae):Ae->Ab Ac
 | 0=>Ct h 0
 | k+1=>GA (By vs ns l st h k) (C0 vs ns (By vs ns l st h k) l st)
noncomputable def Dp (vs ns:Ab Ac) (l st:Ac) (h k:Ae):Ab Ac:=(Bz k).map fun i=>C0 vs ns (By vs ns l st h i) l st
theorem MT (vs had:Ab Ac) (st:Ac):∀(xs:Ab Ac) (b:Ac),El vs had st b xs=b\/El vs had st b xs∈xs
 | [],b=>.inl rfl
 | x :: xs,b=>by
   show El vs had st (if Gr vs had st b x=Af then x else b) xs=b\/_
   have ih:=MT vs had st xs (if Gr vs had st b x=Af then x else b)
   rcases ih with e | e
   ·by_cases c:Gr vs had st b x=Af
    ·rw [At c] at e
     refine .inr ?_
     show El vs had st (if Gr vs had st b x=Af then x else b) xs∈x :: xs
     rw [At c,e]
     exact Bw ..
    ·rw [Ao c] at e ⊢
     exact .inl e
   ·exact .inr (Bv _ e)
theorem Zb {vs ns had:Ab Ac} {l st:Ac} (h:Cu vs ns l≠[]):C0 vs ns had l st∈Cu vs ns l:=by
 unfold C0
 split
 ·rename_i e;exact A8 e h
 ·rename_i b r e
  rw [e]
  rcases MT vs had st (b :: r) b with z | z
  ·rw [z];exact Bw ..
  ·exact z
theorem W2 (xs:Ab Ac) (i:Ac):(GA xs i).length=xs.length:=DO ..
theorem GE (vs ns:Ab Ac) (l st:Ac) (h:Ae):∀k,(By vs ns l st h k).length=h
 | 0=>Fc ..
 | k+1=>by
   show (GA _ _).length=h
   rw [W2]
   exact GE vs ns l st h k
theorem R3 (vs ns:Ab Ac) (l st:Ac) (h k:Ae):Dp vs ns l st h (k+1)=Dp vs ns l st h k++[C0 vs ns (By vs ns l st h k) l st]:=by
 unfold Dp
 rw [O8,Bc]
 rfl
theorem R1 (vs ns:Ab Ac) (l st:Ac) (h k:Ae):(Dp vs ns l st h k).length=k:=by
 unfold Dp
 rw [Aw,DB]
theorem Xi {xs:Ab Ac} {i j:Ae} {v:Ac} (h:i < xs.length):(xs.set i v).getD j 0=if i=j then v else xs.getD j 0:=by
 rw [BP,BP,List.getElem?_set]
 by_cases c:i=j
 ·rw [At c,At c,At (by omega)];rfl
 ·rw [Ao c,Ao c]
theorem Le {vs ns:Ab Ac} {l st:Ac} {h:Ae} (ih:∀k,0<=C0 vs ns (By vs ns l st h k) l st/\C0 vs ns (By vs ns l st h k) l st < h):∀(k:Ae) (j:Ae),j < h->(By vs ns l st h k).getD j 0=((Dp vs ns l st h k).count (j:Ac):Ae)
 | 0,j,hj=>by
   show (Ct h (0:Ac)).getD j 0=_
   rw [BP,Oz,At hj]
   rfl
 | k+1,j,hj=>by
   obtain ⟨p0,p1⟩:=ih k
   rw [R3,List.count_append]
   show (GA _ _).getD j 0=_
   unfold GA
   rw [Xi (by rw [GE];omega),Le ih k j hj,Le ih k _ (by omega)]
   generalize C0 vs ns (By vs ns l st h k) l st=p at p0 p1 ⊢
   have e:List.count (j:Ac) [p]=if p=(j:Ac) then 1 else 0:=by
    rw [List.count_singleton]
    by_cases c:p=(j:Ac)
    ·simp [c]
    ·simp [c]
   rw [e]
   by_cases c:p=(j:Ac)
   ·have c2:p.toNat=j:=by omega
    rw [At c,At c2,c2]
    omega
   ·have c2:¬ p.toNat=j:=by omega
    rw [Ao c,Ao c2]
    omega
theorem Xq {vs ns:Ab Ac} {l st:Ac} {h:Ae} (ih:∀k,0<=C0 vs ns (By vs ns l st h k) l st/\C0 vs ns (By vs ns l st h k) l st < h) (k j:Ae):0<=(By vs ns l st h k).getD j 0/\(By vs ns l st h k).getD j 0<=k:=by
 by_cases c:j < h
 ·rw [Le ih k j c]
  have:=List.count_le_length (a:=(j:Ac)) (l:=Dp vs ns l st h k)
  rw [R1] at this
  omega
 ·rw [BP,Hf (by rw [GE];omega)]
  exact ⟨Dr _,Oq _⟩
theorem TL {vs ns:Ab Ac} {l p:Ac} (m:p∈Cu vs ns l):p∈ns/\l<=vs.getD p.toNat 0:=by
 obtain ⟨m1,m2⟩:=List.mem_filter.mp m
 exact ⟨m1,DD m2⟩
theorem TM (vs ns:Ab Ac) (z l:Ac):Cu vs (ns++[z]) l=Cu vs ns l++(if l<=vs.getD z.toNat 0 then [z] else []):=by
 unfold Cu
 rw [Jh]
 by_cases c:l<=vs.getD z.toNat 0
 ·rw [At c,List.filter_cons_of_pos (by exact Be c)];rfl
 ·rw [Ao c,List.filter_cons_of_neg (by rw [Bo c];exact B8)];rfl
theorem Lz {n:Ae} {x:Ac}:x∈ups n↔0<=x/\x < n:=by
 unfold ups
 rw [O2]
 constructor
 ·rintro ⟨i,m,rfl⟩
  have:=List.mem_range.mp m
  omega
 ·rintro ⟨h0,h1⟩
  exact ⟨x.toNat,List.mem_range.mpr (by omega),by omega⟩
theorem Yv {vs ns:Ab Ac} {l:Ac} {n:Ae} (pm:ns.Perm (ups n)):Cu vs ns l=[]↔∀j < n,vs.getD j 0 < l:=by
 unfold Cu
 rw [List.filter_eq_nil_iff]
 constructor
 ·intro h j hj
  have:=h (j:Ac) (pm.mem_iff.mpr (Lz.mpr ⟨by omega,by omega⟩))
  rw [Ce] at this
  have:=Pj (by simpa using this:decide (l<=vs.getD j 0)=As)
  omega
 ·intro h x m
  obtain ⟨x0,x1⟩:=Lz.mp (pm.mem_iff.mp m)
  have:=h x.toNat (by omega)
  rw [Bo (by omega)]
  decide
theorem Xp {vs ns:Ab Ac} {l st:Ac} {h:Ae} (ih:∀k,0<=C0 vs ns (By vs ns l st h k) l st/\C0 vs ns (By vs ns l st h k) l st < h) (k:Ae):((Bz h).map fun j:Ae=>(((Dp vs ns l st h k).count (j:Ac):Ae):Ac))=By vs ns l st h k:=by
 refine K0 fun j=>?_
 rw [Bm]
 by_cases c:j < h
 ·rw [Oy c]
  have e:=Le ih k j c
  rw [BP] at e
  have hl:j < (By vs ns l st h k).length:=by rw [GE];exact c
  rw [BF hl] at e ⊢
  exact BR Aa e.symm
 ·rw [Hf (by rw [DB];omega),Hf (by rw [GE];omega)]
  rfl
theorem Xr {vs ns:Ab Ac} {l st:Ac} {h:Ae}:((Bz h).map fun j:Ae=>(((Dp vs ns l st h 0).count (j:Ac):Ae):Ac))=By vs ns l st h 0:=by
 show _=Ct h 0
 refine List.eq_replicate_iff.mpr ⟨by rw [Aw,DB],fun b m=>?_⟩
 obtain ⟨j,_,rfl⟩:=List.mem_map.mp m
 rfl
noncomputable def HE (H:Hp) (ys:Ab V) (vs had:Ab Ac) (l st:Ac) (j:Ae):Prop:=(vs.getD j 0 < l/\ys[j]?=Aa .non) \/
 (l<=vs.getD j 0/\∃p,ys[j]?=Aa (.ref p)/\H p=Aa (.tup [.int (Dy (vs.getD j 0) (1+st*had.getD j 0)),.int (Db (vs.getD j 0) (1+st*had.getD j 0))]))
theorem HE.push {H H':Hp} {ys:Ab V} {y:V} {vs had:Ab Ac} {l st:Ac} {j:Ae} (keep:∀p xs,H p=Aa (.tup xs)->H' p=Aa (.tup xs)) (hj:j < ys.length) (m:HE H ys vs had l st j):HE H' (ys++[y]) vs had l st j:=by
 unfold HE at m ⊢
 rw [K6 hj]
 refine m.imp id fun hq_=>?_
 obtain ⟨z,p,k1,k2⟩:=hq_
 exact ⟨z,p,k1,keep _ _ k2⟩
noncomputable def E2 (H:Hp) (a:Ad) (vs had:Ab Ac) (l st:Ac) (h:Ae):Prop:=∃ys:Ab V,H a=Aa (.lst ys)/\ys.length=h/\∀j < h,HE H ys vs had l st j
theorem E2.same {H H':Hp} {a:Ad} {vs had:Ab Ac} {l st:Ac} {h:Ae} (e:Ax H H') (m:E2 H a vs had l st h):E2 H' a vs had l st h:=by
 obtain ⟨ys,m1,m2,m3⟩:=m
 exact ⟨ys,e _ _ m1,m2,fun j hj=>(m3 j hj).imp id fun ⟨z,p,k1,k2⟩=>⟨z,p,k1,e _ _ k2⟩⟩
theorem E2.upd {H:Hp} {a D:Ad} {o:HO} {zs:Ab V} {vs had:Ab Ac} {l st:Ac} {h:Ae} (e:H D=Aa (.lst zs)) (n:a≠D) (m:E2 H a vs had l st h):E2 (L2.upd H D o) a vs had l st h:=by
 obtain ⟨ys,m1,m2,m3⟩:=m
 refine ⟨ys,by rw [AF n];exact m1,m2,fun j hj=>(m3 j hj).imp id fun ⟨z,p,k1,k2⟩=>⟨z,p,k1,?_⟩⟩
 rw [AF (Bq k2 e (fun z=>by cases z))]
 exact k2
noncomputable def JK (H:Hp) (r:Ad) (vs ns:Ab Ac) (l st:Ac) (h k:Ae):Prop:=∃ms:Ab (Ad × Ad),H r=Aa (.lst (ms.map fun q=>V.ref q.1))/\ms.length=k /\
 ∀i q,ms[i]?=Aa q->H q.1=Aa (.tup [.ref q.2,.int (C0 vs ns (By vs ns l st h i) l st)])/\E2 H q.2 vs (By vs ns l st h i) l st h
theorem JK.same {H H':Hp} {r:Ad} {vs ns:Ab Ac} {l st:Ac} {h k:Ae} (e:Ax H H') (m:JK H r vs ns l st h k):JK H' r vs ns l st h k:=by
 obtain ⟨ms,m1,m2,m3⟩:=m
 exact ⟨ms,e _ _ m1,m2,fun i q hq=>⟨e _ _ (m3 i q hq).1,(m3 i q hq).2.same e⟩⟩
noncomputable def many (vs ns:Ab Ac) (l:Ac) (s:Ae):Ae:=if Cu vs ns l=[] then 0 else s
noncomputable def P8 (H:Hp) (p:Ad) (vs ns:Ab Ac) (l st:Ac) (h s:Ae):Prop:=∃v r,H p=Aa (.tup [.ref v,.int l,.ref r])/\H v=Aa (.lst (vs.map V.int))/\JK H r vs ns l st h (many vs ns l s)
structure Gd (vs ns:Ab Ac) (l st:Ac) (h s:Ae):Prop where
 perm:ns.Perm (ups h)
 len:vs.length=h+1
 h1:1<=h
 h12:h<=12
 s1:1<=s
 s60:s<=60
 st1:1<=st
 st9:st<=9
 l1:1<=l
 big:∀j,0<=vs.getD j 0/\vs.getD j 0 < 10 ^ 18
theorem Gd.pk {vs ns:Ab Ac} {l st:Ac} {h s:Ae} (S:Gd vs ns l st h s) (ne:Cu vs ns l≠[]) (k:Ae):0<=C0 vs ns (By vs ns l st h k) l st/\C0 vs ns (By vs ns l st h k) l st < h:=Lz.mp (S.perm.mem_iff.mp (TL (Zb ne)).1)
inductive SF (C:Ad) (vs:Ab V) (H:Hp) (Q:VK) (E:XK):Prop
 | mk (a:Ad) (h s st u v:Ac) (ns:Ab Ac) (n l k:Ac):vs=[.ref a,.int n,.int l,.int k]->IsL C H a h s st u v ns->1<=st->st<=9->0<=k->Sz 64 n->Sz 64 k->(n < l->Q .non H)->(l<=n->∀(p:Ad) (H':Hp),Ax H H'->H' p=Aa (.tup [.int (Dy n (1+st*k)),.int (Db n (1+st*k))])->Q (.ref p) H')->SF C vs H Q E
inductive SL (C:Ad) (vs:Ab V) (H:Hp) (Q:VK) (E:XK):Prop
 | mk (a b d:Ad) (h s:Ae) (st u v:Ac) (ns xs had:Ab Ac) (l:Ac):vs=[.ref a,.ref b,.int l,.ref d]->IsL C H a h s st u v ns->Gd xs ns l st h s->H b=Aa (.lst (xs.map V.int))->H d=Aa (.lst (had.map V.int))->had.length=h->(∀j,0<=had.getD j 0/\had.getD j 0<=60)->(∀(m:Ad) (H':Hp),H m=Ag->Ax H H'->E2 H' m xs had l st h->Q (.ref m) H')->SL C vs H Q E
inductive Sw (C:Ad) (vs:Ab V) (H:Hp) (Q:VK) (E:XK):Prop
 | mk (a m:Ad) (h s:Ae) (st u v:Ac) (ns xs had:Ab Ac) (l:Ac):vs=[.ref a,.ref m]->IsL C H a h s st u v ns->Gd xs ns l st h s->E2 H m xs had l st h->(∀j,0<=had.getD j 0/\had.getD j 0<=60)->Cu xs ns l≠[]->(∀H':Hp,Ax H H'->Q (.int (C0 xs ns had l st)) H')->Sw C vs H Q E
inductive S_ (C:Ad) (vs:Ab V) (H:Hp) (Q:VK) (E:XK):Prop
 | mk (a b:Ad) (h s:Ae) (st u v:Ac) (ns xs:Ab Ac) (l:Ac):vs=[.ref a,.ref b,.int l]->IsL C H a h s st u v ns->Gd xs ns l st h s->H b=Aa (.lst (xs.map V.int))->Cu xs ns l≠[]->(∀(r:Ad) (H':Hp),H r=Ag->Ax H H'->JK H' r xs ns l st h s->Q (.ref r) H')->S_ C vs H Q E
inductive Tl (C:Ad) (vs:Ab V) (H:Hp) (Q:VK) (E:XK):Prop
 | mk (a p:Ad) (h s:Ae) (st u v:Ac) (ns xs:Ab Ac) (l:Ac):vs=[.ref a,.ref p]->IsL C H a h s st u v ns->Gd xs ns l st h s->P8 H p xs ns l st h s->(∀(r:Ad) (H':Hp),H r=Ag->Ax H H'->H' r=Aa (.lst ((By xs ns l st h (many xs ns l s)).map V.int))->Q (.ref r) H')->Tl C vs H Q E
inductive Tn (K:A6) (vs:Ab V) (H:Hp) (Q:VK) (E:XK):Prop
 | mk (p r:Ad) (t b u c:Ac):vs=[.ref p,.ref r]->SqT K H p [.int t,.int b]->SqT K H r [.int u,.int c]->Sz 2000 t->Sz 2000 b->Sz 2000 u->Sz 2000 c->Q (.bl (decide (t*c < u*b))) H->Tn K vs H Q E
noncomputable def Gb (ls:Ls):Prop:=∀q∈ls,0<=q.2.2.2/\q.2.2.2<=60000000000
noncomputable def total (ls:Ls):Ac:=(ls.map fun q=>q.2.2.2).sum
theorem R9 {h:Ae}:∀{ls:Ls} {vs:Ab Ac},Gb ls->(∀v∈vs,0<=v)->∀v∈ls.foldl (E3 h) vs,0<=v
 | [],_,_,p=>p
 | q :: r,vs,n,p=>by
   refine R9 (ls:=r) (fun x m=>n x (Bv _ m)) fun v m=>?_
   unfold E3 at m
   rcases DQ m with m | m
   ·exact p v m
   ·rw [m]
    have a:=(n q (Bw ..)).1
    have b:0<=vs.getD (pl h q.2.2.1) 0:=by
     rw [BP]
     cases e:vs[pl h q.2.2.1]? with
     | none=>exact Dr _
     | some z=>exact p z (Br e)
    omega
theorem QJ:∀{vs:Ab Ac},(∀v∈vs,0<=v)->∀v∈vs,v<=vs.sum
 | x :: r,p,v,m=>by
   have s:0<=r.sum:=by
    have:∀{l:Ab Ac},(∀v∈l,0<=v)->0<=l.sum:=by
     intro l
     induction l with
     | nil=>intro _;exact Dr _
     | cons y l ih=>intro k;rw [Eb];have:=k y (Bw ..);have:=ih fun z m=>k z (Bv _ m);omega
    exact this fun z m=>p z (Bv _ m)
   rw [Eb]
   rcases List.mem_cons.mp m with m | m
   ·omega
   ·have:=QJ (fun z m=>p z (Bv _ m)) v m
    have:=p x (Bw ..)
    omega
theorem NX:∀{ls:Ls},Gb ls->0<=total ls/\total ls<=60000000000*(ls.length:Ac)
 | [],_=>⟨Dr _,Dr _⟩
 | q :: r,n=>by
   have ih:=NX (ls:=r) fun x m=>n x (Bv _ m)
   have a:=n q (Bw ..)
   unfold total at ih ⊢
   rw [BL,Eb,BA]
   push_cast
   omega
theorem Abb {h:Ae} {ls:Ls} (n:Gb ls) (l60:ls.length<=60) (j:Ae):0<=(BO h ls).getD j 0/\(BO h ls).getD j 0 < 10 ^ 18:=by
 have p:∀v∈BO h ls,0<=v:=R9 n fun v m=>by rw [(List.mem_replicate.mp m).2];exact Dr _
 have t:=NX n
 have s:(BO h ls).sum=total ls:=AaA h ls
 rw [BP]
 cases e:(BO h ls)[j]? with
 | none=>exact ⟨Dr _,by decide⟩
 | some z =>
   have a:=p z (Br e)
   have b:=QJ p z (Br e)
   refine ⟨a,?_⟩
   show z < 10 ^ 18
   omega
noncomputable def GG (u v:Ac) (ls:Ls):Ac:=max 1 (-((-(u*total ls)).fdiv v))
theorem ZY {ns:Ab Ac} {ls:Ls} {h s:Ae} {u v st:Ac} (pm:ns.Perm (ups h)) (h1:1<=h) (h12:h<=12) (s1:1<=s) (s60:s<=60) (st1:1<=st) (st9:st<=9) (n:Gb ls) (l60:ls.length<=60):Gd (BO h ls) ns (GG u v ls) st h s :=
 ⟨pm,NV h ls,h1,h12,s1,s60,st1,st9,Int.le_max_left ..,Abb n l60⟩
structure Fm (C:Ad) (H:Hp) (a:Ad) (h s:Ae) (st u v:Ac) (ns:Ab Ac):Prop where
 is:IsL C H a h s st u v ns
 pm:ns.Perm (ups h)
 h1:1<=h
 h12:h<=12
 s1:1<=s
 s60:s<=60
 st1:1<=st
 st9:st<=9
 u0:0<=u
 uv:u<=v
 v0:0 < v
 v9:v<=1000000000
theorem Fm.same {C:Ad} {H H':Hp} {a:Ad} {h s:Ae} {st u v:Ac} {ns:Ab Ac} (e:Ax H H') (m:Fm C H a h s st u v ns):Fm C H' a h s st u v ns :=
 ⟨m.is.same e,m.pm,m.h1,m.h12,m.s1,m.s60,m.st1,m.st9,m.u0,m.uv,m.v0,m.v9⟩
theorem Fm.sane {C:Ad} {H:Hp} {a:Ad} {h s:Ae} {st u v:Ac} {ns:Ab Ac} (m:Fm C H a h s st u v ns) {ls:Ls} (n:Gb ls) (l60:ls.length<=60):Gd (BO h ls) ns (GG u v ls) st h s:=ZY m.pm m.h1 m.h12 m.s1 m.s60 m.st1 m.st9 n l60
inductive Ss (C:Ad) (vs:Ab V) (H:Hp) (Q:VK) (E:XK):Prop
 | mk (a l:Ad) (h s:Ae) (st u v:Ac) (ns:Ab Ac) (ls:Ls):vs=[.ref a,.ref l]->Fm C H a h s st u v ns->H l=Aa (.lst (vls ls))->KU h H ls->ls.length<=60->Gb ls->(∀(p:Ad) (H':Hp),H p=Ag->Ax H H'->P8 H' p (BO h ls) ns (GG u v ls) st h s->Q (.ref p) H')->Ss C vs H Q E
noncomputable def YD (ls:Ls) (ns:Ab Ac) (u v st:Ac) (h s:Ae):Ab Ac:=By (BO h ls) ns (GG u v ls) st h (many (BO h ls) ns (GG u v ls) s)
inductive SV (C:Ad) (vs:Ab V) (H:Hp) (Q:VK) (E:XK):Prop
 | mk (a l:Ad) (h s:Ae) (st u v:Ac) (ns:Ab Ac) (ls:Ls):vs=[.ref a,.ref l]->Fm C H a h s st u v ns->H l=Aa (.lst (vls ls))->KU h H ls->ls.length<=60->Gb ls->(∀(r:Ad) (H':Hp),H r=Ag->Ax H H'->H' r=Aa (.lst ((YD ls ns u v st h s).map V.int))->Q (.ref r) H')->SV C vs H Q E
noncomputable def dec:Ae->Ac->Ab Ac->Ab Ac
 | 0,_,_=>[]
 | m+1,n,l=>l.getD (n % ((m:Ac)+1)).toNat 0 :: dec m (n / ((m:Ac)+1)) (l.eraseIdx (n % ((m:Ac)+1)).toNat)
noncomputable def GD:Ae->Ac->Ab Ac
 | 0,_=>[]
 | m+1,n=>n % ((m:Ac)+1) :: GD m (n / ((m:Ac)+1))
theorem JQ:∀(m:Ae) (n:Ac) (l:Ab Ac),(dec m n l).length=m
 | 0,_,_=>rfl
 | m+1,n,l=>BR (·+1) (JQ m _ _)
theorem Rk:∀{l:Ab Ac} {p:Ae} (hp:p < l.length),(l[p] :: l.eraseIdx p).Perm l
 | _ :: _,0,_=>Ky _
 | x :: l,p+1,hp=>by
   have h:p < l.length:=by simpa using hp
   show (l[p] :: x :: l.eraseIdx p).Perm (x :: l)
   exact (UL _ _ _).trans ((Rk h).cons x)
theorem Qm:∀(m:Ae) (n:Ac) (l:Ab Ac),l.length=m->(dec m n l).Perm l
 | 0,_,l,h=>by
   rw [List.length_eq_zero_iff.mp h]
   exact Ky _
 | m+1,n,l,h=>by
   have k0:(0:Ac) < (m:Ac)+1:=by omega
   have b1:=UG n (Ku k0)
   have b2:=UF n k0
   have hp:(n % ((m:Ac)+1)).toNat < l.length:=by omega
   have g:l.getD (n % ((m:Ac)+1)).toNat 0=l[(n % ((m:Ac)+1)).toNat]:=by simp [BP,hp]
   show List.Perm (l.getD (n % ((m:Ac)+1)).toNat 0 :: dec m _ _) l
   rw [g]
   exact ((Qm m _ _ (by rw [UV hp];omega)).cons _).trans (Rk hp)
structure Drw (m:Ae) (n:Ac) (l0:Ab Ac) (i:Ae) (r:Ac) (l:Ab Ac):Prop where
 le:i<=m
 len:l.length=m - i
 nd:l.Nodup
 ord:dec (m - i) r l=(dec m n l0).drop i
 dig:GD (m - i) r=(GD m n).drop i
theorem Drw.zero {m:Ae} {n:Ac} {l0:Ab Ac} (hl:l0.length=m) (nd:l0.Nodup):Drw m n l0 0 n l0:=⟨BQ _,by omega,nd,rfl,rfl⟩
theorem Drw.step {m:Ae} {n:Ac} {l0:Ab Ac} {i:Ae} {r:Ac} {l:Ab Ac} (d:Drw m n l0 i r l) (hi:i < m) :
 ∃(p:Ae) (x:Ac),r.fmod ((m - i:Ae):Ac)=(p:Ac)/\p < l.length/\l[p]?=Aa x/\l.idxOf x=p/\(dec m n l0)[i]?=Aa x/\(GD m n)[i]?=Aa (p:Ac)/\Drw m n l0 (i+1) (r.fdiv ((m - i:Ae):Ac)) (l.eraseIdx p):=by
 obtain ⟨_,hl,nd,ho,hd⟩:=d
 obtain ⟨k,hk⟩:∃k,m - i=k+1:=⟨m - i - 1,by omega⟩
 have hk':m - (i+1)=k:=by omega
 rw [hk] at hl ho hd ⊢
 have k0:(0:Ac) < (k:Ac)+1:=by omega
 have b1:=UG r (Ku k0)
 have b2:=UF r k0
 have ec:((k+1:Ae):Ac)=(k:Ac)+1:=by omega
 rw [ec,Oj _ (Gv k0),Jg _ (Gv k0)]
 have ho':l.getD (r % ((k:Ac)+1)).toNat 0 :: dec k (r / ((k:Ac)+1)) (l.eraseIdx (r % ((k:Ac)+1)).toNat)=(dec m n l0).drop i:=ho
 have hd':r % ((k:Ac)+1) :: GD k (r / ((k:Ac)+1))=(GD m n).drop i:=hd
 have hp:(r % ((k:Ac)+1)).toNat < l.length:=by omega
 have ep:r % ((k:Ac)+1)=(((r % ((k:Ac)+1)).toNat:Ae):Ac):=by omega
 have g:l.getD (r % ((k:Ac)+1)).toNat 0=l[(r % ((k:Ac)+1)).toNat]:=by simp [BP,hp]
 have gx:l[(r % ((k:Ac)+1)).toNat]?=Aa l[(r % ((k:Ac)+1)).toNat]:=BF hp
 refine ⟨(r % ((k:Ac)+1)).toNat,l[(r % ((k:Ac)+1)).toNat],ep,hp,gx,JW nd gx,?_,?_,⟨by omega,?_,?_,?_,?_⟩⟩
 ·have:((dec m n l0).drop i)[0]?=Aa l[(r % ((k:Ac)+1)).toNat]:=by rw [<- ho',g];rfl
  rw [L'] at this
  exact this
 ·have:((GD m n).drop i)[0]?=Aa (r % ((k:Ac)+1)):=by rw [<- hd'];rfl
  rw [L'] at this
  rw [<- ep]
  exact this
 ·rw [UV hp,hk'];omega
 ·exact nd.sublist (List.eraseIdx_sublist ..)
 ·rw [hk',<- Ov,<- ho'];rfl
 ·rw [hk',<- Ov,<- hd'];rfl
theorem Drw.stop {m:Ae} {n:Ac} {l0:Ab Ac} {i:Ae} {r:Ac} {l:Ab Ac} (d:Drw m n l0 i r l) (h:l=[]):i=m:=by
 have:=d.len
 rw [h] at this
 have:=d.le
 simp at *
 omega
noncomputable def BV (m:Ae):Ab Ac:=(Bz m).map fun j:Ae=>(j:Ac)
theorem NY (m:Ae):(BV m).length=m:=by unfold BV;rw [Aw,DB]
theorem Abv (m:Ae):(BV m).Pairwise (· < ·):=List.pairwise_map.mpr ((Vb (n:=m)).imp fun h=>by omega)
theorem TZ (m:Ae):(BV m).Nodup:=(Abv m).imp fun h e=>by omega
inductive NP (vs:Ab V) (H:Hp) (Q:VK) (E:XK):Prop
 | mk (n:Ac) (m:Ae):vs=[.int n,.int (m:Ac)]->m<=60->(∀(l:Ad) (H':Hp),H l=Ag->Ax H H'->H' l=Aa (.lst ((dec m n (BV m)).map V.int))->Q (.ref l) H')->NP vs H Q E
theorem T_ (m:Ae):((Bz m).map fun i:Ae=>V.int (i:Ac))=(BV m).map V.int:=by unfold BV;rw [Fd];rfl
theorem RF {ns:Ab Ac} {i:Ae} {x:Ac} (h:ns[i]?=Aa x):(ns.take i).map V.int++[V.int x]=(ns.take (i+1)).map V.int:=by
 rw [CA,h,Bc]
 rfl
theorem QB {n p:Ae} (h:p < n):seqIndex? (p:Ac) n=Aa p:=(Np (E5 h)).1
noncomputable def SR:Sp:=fun _ _ _ _=>B5
noncomputable def Bt (n:Ae):Ab (Ab Ac):=[] :: (((Bz n).map fun f=>[(2:Ac) ^ f])++((Bz n).flatMap fun f=>(Bz f).map fun g=>[(2:Ac) ^ f+2 ^ g])++((Bz n).flatMap fun f=>((Bz n).filter fun g=>decide (g≠f)).map fun g=>[(2:Ac) ^ f,2 ^ g]))
theorem Gk {n:Ae} (h:n<=6):(Bt n).length < 64:=by
 have:∀n,n < 7->(Bt n).length < 64:=by decide +kernel
 exact this n (by omega)
theorem R8 {n f:Ae} (hf:f < n):[(2:Ac) ^ f]∈Bt n:=Bv _ (List.mem_append.mpr (.inl (List.mem_append.mpr (.inl (List.mem_map.mpr ⟨f,List.mem_range.mpr hf,rfl⟩)))))
theorem Zi {n f g:Ae} (hf:f < n) (hg:g < n) (ne:g≠f):[(2:Ac) ^ f+2 ^ g]∈Bt n:=by
 refine Bv _ (List.mem_append.mpr (.inl (List.mem_append.mpr (.inr ?_))))
 rcases (by omega:g < f\/f < g) with c | c
 ·exact List.mem_flatMap.mpr ⟨f,List.mem_range.mpr hf,List.mem_map.mpr ⟨g,List.mem_range.mpr c,rfl⟩⟩
 ·exact List.mem_flatMap.mpr ⟨g,List.mem_range.mpr hg,List.mem_map.mpr ⟨f,List.mem_range.mpr c,by rw [Int.add_comm]⟩⟩
theorem Zh {n f g:Ae} (hf:f < n) (hg:g < n) (ne:g≠f):[(2:Ac) ^ f,2 ^ g]∈Bt n :=
 Bv _ (List.mem_append.mpr (.inr (List.mem_flatMap.mpr ⟨f,List.mem_range.mpr hf,List.mem_map.mpr ⟨g,List.mem_filter.mpr ⟨List.mem_range.mpr hg,Be ne⟩,rfl⟩⟩)))
theorem GL {n:Ae} {ts:Ab Ac} (n6:n<=6) (m:ts∈Bt n):OkS n ts:=by
 have:∀n,n < 7->∀ts∈Bt n,C8 (BJ ts n)=ts/\∀r∈BJ ts n,0<=r/\r<=12:=by decide +kernel
 obtain ⟨e,b⟩:=this n (by omega) ts m
 have l:(BJ ts n).length=n:=by unfold BJ;rw [Aw,DB]
 exact ⟨BJ ts n,_,e.symm,l,Xd (fun r k=>(b r k).1) (by rw [l,e]),b⟩
inductive Tg (vs:Ab V) (H:Hp) (Q:VK) (E:XK):Prop
 | mk (c:Ac) (n:Ae):vs=[.int c,.int (n:Ac)]->0<=c->c < 10 ^ 40->2<=n->n<=6->(∀(t:Ad) (ts:Ab Ac) (H':Hp),Ax H H'->H' t=Aa (.tup (ts.map V.int))->ts∈Bt n->Q (.ref t) H')->Tg vs H Q E
structure Bd (H:Hp) (n:Ae) (B:Ad) (cs:Ab (Ad × Ls)):Prop where
 lst:H B=Aa (.lst (cs.map fun x=>V.ref x.1))
 lies:∀x∈cs,H x.1=Aa (.lst (vls x.2))/\AO H x.2
 ok:∀x∈cs,Cp n (Bt n) (An x.2)
 len:(AU cs).length<=30
theorem Bd.same {H H':Hp} {n:Ae} {B:Ad} {cs:Ab (Ad × Ls)} (s:Ax H H') (b:Bd H n B cs):Bd H' n B cs:=⟨s _ _ b.lst,fun x m=>⟨s _ _ (b.lies x m).1,(b.lies x m).2.same s⟩,b.ok,b.len⟩
theorem HG:∀{cs:Ab (Ad × Ls)} {x:Ad × Ls},x∈cs->x.2.length<=(AU cs).length
 | c :: cs,x,m=>by
   show _<=(c.2++AU cs).length
   rw [B9]
   rcases List.mem_cons.mp m with rfl | m
   ·omega
   ·have:=HG m
    omega
theorem MN:∀{cs:Ab (Ad × Ls)} {j:Ae} {x y:Ad × Ls},cs[j]?=Aa x->(AU (cs.set j y)).length+x.2.length=(AU cs).length+y.2.length
 | [],_,_,_,e=>by cases e
 | c :: cs,0,x,y,e=>by
   cases Bp e
   show (y.2++AU cs).length+_=(c.2++AU cs).length+_
   rw [B9,B9]
   omega
 | c :: cs,j+1,x,y,e=>by
   have ih:=MN (cs:=cs) (y:=y) (show cs[j]?=Aa x from e)
   show (c.2++AU (cs.set j y)).length+_=(c.2++AU cs).length+_
   rw [B9,B9]
   omega
inductive Sm (K:A6) (vs:Ab V) (H:Hp) (Q:VK) (E:XK):Prop
 | mk (s':Ad) (ns:Ab Ac) (n:Ae):vs=[.ref s',.int (n:Ac)]->SqL K H s' (ns.map V.int)->ns.length<=63->2<=n->n<=6->(∀(B:Ad) (cs:Ab (Ad × Ls)) (H':Hp),Ax H H'->Bd H' n B cs->1<=cs.length->cs.length<=4->(AU cs).length<=20->Q (.ref B) H')->Sm K vs H Q E
inductive Sk (C:Ad) (vs:Ab V) (H:Hp) (Q:VK) (E:XK):Prop
 | mk (B:Ad) (n:Ae) (cs:Ab (Ad × Ls)):vs=[.ref B,.int (n:Ac)]->Bd H n B cs->2<=n->n<=6->cs.length<=5->(∀(b L:Ad) (as:Ab (Ad × Ls)) (H':Hp),H L=Ag->Ax H H'->IsB C H' b L n as->as.map (fun x=>An x.2)=cs.map (fun x=>An x.2)->Q (.ref b) H')->Sk C vs H Q E
inductive Tc (vs:Ab V) (H:Hp) (Q:VK) (E:XK):Prop
 | mk (B:Ad) (n:Ae) (cs:Ab (Ad × Ls)):vs=[.ref B]->Bd H n B cs->n<=6->cs.length<=5->(∀(l:Ad) (ls:Ls) (H':Hp),H l=Ag->Ax H H'->H' l=Aa (.lst (vls ls))->AO H' ls->BY (An (AU cs)) (An ls)->ls.length < 64->Q (.ref l) H')->Tc vs H Q E
inductive Sv (vs:Ab V) (H:Hp) (Q:VK) (E:XK):Prop
 | mk (l:Ad) (c:Ac) (n:Ae) (ls:Ls):vs=[.ref l,.int c,.int (n:Ac)]->H l=Aa (.lst (vls ls))->AO H ls->Cp n (Bt n) (An ls)->ls.length<=30->0<=c->c < 10 ^ 40->2<=n->n<=6->(∀(l':Ad) (ls':Ls) (H':Hp),H l'=Ag->Ax H H'->H' l'=Aa (.lst (vls ls'))->AO H' ls'->Cp n (Bt n) (An ls')->AX (An ls')=AX (An ls)->ls'.length<=ls.length+1->Q (.ref l') H')->Sv vs H Q E
noncomputable def Lw (cs:Ab (Ad × Ls)):Ac:=(cs.map fun x=>AX (An x.2)).sum
inductive Sr (vs:Ab V) (H:Hp) (Q:VK) (E:XK):Prop
 | mk (B:Ad) (cs:Ab (Ad × Ls)):vs=[.ref B]->H B=Aa (.lst (cs.map fun x=>V.ref x.1))->(∀x∈cs,H x.1=Aa (.lst (vls x.2))/\AO H x.2)->cs.length<=9->(∀x∈cs,x.2.length<=30)->(∀H':Hp,Ax H H'->Q (.int (Lw cs)) H')->Sr vs H Q E
inductive Ta (vs:Ab V) (H:Hp) (Q:VK) (E:XK):Prop
 | mk (a b:Ad) (ls ms:Ls):vs=[.ref a,.ref b]->H a=Aa (.lst (vls ls))->H b=Aa (.lst (vls ms))->AO H ls->AO H ms->An ls=An ms->ls.length < 64->(∀q∈ls,q.2.2.1.length<=6)->(∀H':Hp,Ax H H'->Q (.bl Af) H')->Ta vs H Q E
inductive SJ (K:A6) (vs:Ab V) (H:Hp) (Q:VK) (E:XK):Prop
 | mk (g C dx a:Ad):vs=[.ref g,.ref a]->H g=Aa (.ins C dx [])->Cls K C->BG K C "way"->(∀H':Hp,Ax (off H g) H'->H' g=Aa (.ins C dx [("way",.ref a)])->Q .non H')->SJ K vs H Q E
theorem Z7 (x:V):Bb "way" x []=([("way",x)]:Ab (Ak × V)):=rfl
abbrev fsK (m S O:Ad) (k:Ac) (f:Ad) (rest:Ab (Ak × V)):Ab (Ak × V):=("margin",.ref m) :: ("sheets",.ref S) :: ("order",.ref O) :: ("looked",.int k) :: ("first",.ref f) :: rest
structure Mg (CM CL:Ad) (H:Hp) (m w:Ad) (n:Ae):Prop where
 at_:∃dx,H m=Aa (.ins CM dx [("way",.ref w)])
 md:Fm CL H w n 1 1 0 1 (ups n)
theorem Mg.same {CM CL:Ad} {H H':Hp} {m w:Ad} {n:Ae} (s:Ax H H') (g:Mg CM CL H m w n):Mg CM CL H' m w n:=⟨g.at_.imp fun _ e=>s _ _ e,g.md.same s⟩
structure Lk (C:Ad) (H:Hp) (a m S O f:Ad) (k:Ae) (rest:Ab (Ak × V)) (bs:Ab (Ad × Ls)) (dss:Ab Ds) (os:Ab Ac):Prop where
 at_:∃dx,H a=Aa (.ins C dx (fsK m S O (k:Ac) f rest))
 sh:H S=Aa (.lst (bs.map fun x=>V.ref x.1))
 lies:∀x∈bs,H x.1=Aa (.lst (vls x.2))/\AO H x.2
 len:bs.length=dss.length
 rel:∀(i:Ae) (x:Ad × Ls) (ds:Ds),bs[i]?=Aa x->dss[i]?=Aa ds->BY ds (An x.2)
 od:H O=Aa (.lst (os.map V.int))
 fs:∃fo:Ab Ac,H f=Aa (.lst (fo.map V.int))
theorem Lk.same {C:Ad} {H H':Hp} {a m S O f:Ad} {k:Ae} {rest:Ab (Ak × V)} {bs:Ab (Ad × Ls)} {dss:Ab Ds} {os:Ab Ac} (s:Ax H H') (g:Lk C H a m S O f k rest bs dss os):Lk C H' a m S O f k rest bs dss os :=
 ⟨g.at_.imp fun _ e=>s _ _ e,s _ _ g.sh,fun x m=>⟨s _ _ (g.lies x m).1,(g.lies x m).2.same s⟩,g.len,g.rel,s _ _ g.od,g.fs.imp fun _ e=>s _ _ e⟩
structure Pk (n:Ae) (dss:Ab Ds) (os:Ab Ac):Prop where
 n2:2<=n
 n6:n<=6
 ok:∀ds∈dss,Cp n (Bt n) ds
 d5:dss.length<=5
 l30:dss.flatten.length<=30
 ol:os.length=dss.length
 oin:∀x∈os,0<=x/\x < dss.length
noncomputable def Un (dss:Ab Ds) (js:Ab Ac):Ac:=(js.map fun j=>AX (dss.getD j.toNat [])).sum
theorem Pk.posD {n:Ae} {dss:Ab Ds} {os:Ab Ac} (p:Pk n dss os) {ds:Ds} (m:ds∈dss):Pos ds:=fun q k=>(p.ok ds m q k).2.1
theorem Kf:∀{ds:Ds},Pos ds->0<=AX ds
 | [],_=>Dr _
 | q :: r,h=>by
   rw [FF]
   have:=h q (Bw ..)
   have:=Kf (fun z m=>h z (Bv _ m))
   omega
theorem T3:∀{ds:Ds},(∀q∈ds,q.2<=1000000000)->AX ds<=1000000000*(ds.length:Ac)
 | [],_=>Dr _
 | q :: r,h=>by
   rw [FF,BA]
   have:=h q (Bw ..)
   have:=T3 (fun z m=>h z (Bv _ m))
   push_cast
   omega
theorem TU {ts:Ab Ac}:∀{ds:Ds},Pos ds->tot ds ts<=AX ds
 | [],_=>Dr _
 | q :: r,h=>by
   rw [FF]
   have:=h q (Bw ..)
   have:=TU (ts:=ts) (fun z m=>h z (Bv _ m))
   show (if q.1=ts then q.2 else 0)+tot r ts<=_
   split <;> omega
noncomputable def Aa0:Sp:=fun vs H Q _=>∃(m:Ad) (l:V),vs=[.ref m,l]/\∀(t e:Ad) (H':Hp),Ax H H'->H' t=Aa (.tup [.int 1,.ref e])->Q (.ref t) H'
inductive SH (CM:Ad) (vs:Ab V) (H:Hp) (Q:VK) (E:XK):Prop
 | mk (m w l dx:Ad):vs=[.ref m,.ref l]->H m=Aa (.ins CM dx [("way",.ref w)])->(∀H':Hp,Ax H H'->Q (.int 1) H')->SH CM vs H Q E
inductive SG (CM CL:Ad) (vs:Ab V) (H:Hp) (Q:VK) (E:XK):Prop
 | mk (m w l:Ad) (n:Ae) (ls:Ls):vs=[.ref m,.ref l]->Mg CM CL H m w n->2<=n->H l=Aa (.lst (vls ls))->AO H ls->ls.length<=64->(∀H':Hp,Ax H H'->Q (.bl (decide (AX (An ls) > 0))) H')->SG CM CL vs H Q E
inductive SE (CM CL:Ad) (vs:Ab V) (H:Hp) (Q:VK) (E:XK):Prop
 | mk (m w l l2:Ad) (n:Ae) (ls:Ls) (N:Ac):vs=[.ref m,.ref l2,.int N,.ref l]->Mg CM CL H m w n->2<=n->H l=Aa (.lst (vls ls))->AO H ls->ls.length<=64->0<=N->(0 < N->0 < AX (An ls))->(∀H':Hp,Ax H H'->Q (.bl (decide (N=0))) H')->SE CM CL vs H Q E
inductive Tw (C:Ad) (vs:Ab V) (H:Hp) (Q:VK) (E:XK):Prop
 | mk (a m S O f dx:Ad) (k:Ac) (w:Ak):vs=[.ref a]->H a=Aa (.ins C dx (fsK m S O k f [("said",.str w)]))->Q (.str w) H->Tw C vs H Q E
inductive Su (C:Ad) (vs:Ab V) (H:Hp) (Q:VK) (E:XK):Prop
 | mk (a m S O f:Ad) (k:Ae) (w:Ak) (bs:Ab (Ad × Ls)) (dss:Ab Ds) (os:Ab Ac):vs=[.ref a]->Lk C H a m S O f k [("said",.str w)] bs dss os->(w="open"->k < os.length)->Q (if w="open" then .int (os.getD k 0) else .non) H->Su C vs H Q E
inductive To (C:Ad) (vs:Ab V) (H:Hp) (Q:VK) (E:XK):Prop
 | mk (a m S O f:Ad) (k n:Ae) (rest:Ab (Ak × V)) (bs:Ab (Ad × Ls)) (dss:Ab Ds) (os:Ab Ac):vs=[.ref a]->Lk C H a m S O f k rest bs dss os->Pk n dss os->(∀H':Hp,Ax H H'->Q (.int (Un dss (os.drop k))) H')->To C vs H Q E
inductive Sy (C:Ad) (vs:Ab V) (H:Hp) (Q:VK) (E:XK):Prop
 | mk (a m S O f:Ad) (k n:Ae) (rest:Ab (Ak × V)) (bs:Ab (Ad × Ls)) (dss:Ab Ds) (os:Ab Ac):vs=[.ref a]->Lk C H a m S O f k rest bs dss os->Pk n dss os->(∀(l:Ad) (ls:Ls) (H':Hp),H l=Ag->Ax H H'->H' l=Aa (.lst (vls ls))->AO H' ls->BY dss.flatten (An ls)->Q (.ref l) H')->Sy C vs H Q E
inductive SS (C CM CL:Ad) (vs:Ab V) (H:Hp) (Q:VK) (E:XK):Prop
 | mk (a m w S O f:Ad) (k n:Ae) (rest:Ab (Ak × V)) (bs:Ab (Ad × Ls)) (dss:Ab Ds) (os:Ab Ac):vs=[.ref a]->Lk C H a m S O f k rest bs dss os->Pk n dss os->Mg CM CL H m w n->(rest=[]\/∃v,rest=[(("said":Ak),v)])->(∀(s:Ak) (H':Hp),Ax H H'->(s="open"↔0 < Un dss (os.drop k))->Q (.str s) H')->SS C CM CL vs H Q E
theorem Lk.ds {C:Ad} {H:Hp} {a m S O f:Ad} {k:Ae} {rest:Ab (Ak × V)} {bs:Ab (Ad × Ls)} {dss:Ab Ds} {os:Ab Ac} (g:Lk C H a m S O f k rest bs dss os) {x:Ad × Ls} (xm:x∈bs):∃ds∈dss,BY ds (An x.2):=by
 obtain ⟨i,hi⟩:=Ox xm
 have il:=(List.getElem?_eq_some_iff.mp hi).1
 rw [g.len] at il
 exact ⟨_,G1 il,g.rel i x _ hi (BF il)⟩
theorem JZ {bs:Ab (Ad × Ls)} {q:Ab Ac × Ac} (m:q∈An (AU bs)):∃x∈bs,q∈An x.2:=by
 obtain ⟨r,rm,rfl⟩:=List.mem_map.mp m
 obtain ⟨ls,lm,qm⟩:=List.mem_flatten.mp rm
 obtain ⟨b,bm,rfl⟩:=List.mem_map.mp lm
 exact ⟨b,bm,List.mem_map.mpr ⟨r,qm,rfl⟩⟩
section
variable {C:Ad} {H:Hp} {a m S O f:Ad} {k n:Ae} {rest:Ab (Ak × V)} {bs:Ab (Ad × Ls)} {dss:Ab Ds} {os:Ab Ac}
theorem Lk.keys (g:Lk C H a m S O f k rest bs dss os) (p:Pk n dss os) {x:Ad × Ls} (xm:x∈bs):(∀q∈An x.2,q.1∈Bt n/\1<=q.2)/\x.2.length<=63:=by
 obtain ⟨ds,dm,sh⟩:=g.ds xm
 have kp:∀q∈ds,q.1∈Bt n:=fun q m=>(p.ok ds dm q m).1
 refine ⟨fun q qm=>⟨sh.keys kp q qm,sh.pos q qm⟩,?_⟩
 have l:=sh.len kp
 have pl:=Gk p.n6
 have:(An x.2).length=x.2.length:=Aw _
 omega
theorem Lk.all (g:Lk C H a m S O f k rest bs dss os) (p:Pk n dss os) {cs:Ab (Ad × Ls)} (sub:∀x∈cs,x∈bs) (c5:cs.length<=5):(∀q∈An (AU cs),q.1∈Bt n)/\Pos (An (AU cs))/\(AU cs).length<=900:=by
 refine ⟨fun q qm=>?_,fun q qm=>?_,?_⟩
 ·obtain ⟨x,xm,k⟩:=JZ qm
  exact ((g.keys p (sub x xm)).1 q k).1
 ·obtain ⟨x,xm,k⟩:=JZ qm
  exact ((g.keys p (sub x xm)).1 q k).2
 ·have:=PD (m:=63) (cs:=cs) fun x xm=>(g.keys p (sub x xm)).2
  omega
theorem TW:∀{bs:Ab (Ad × Ls)} {dss:Ab Ds},bs.length=dss.length->(∀(i:Ae) (x:Ad × Ls) (ds:Ds),bs[i]?=Aa x->dss[i]?=Aa ds->∀ts,tot (An x.2) ts=tot ds ts)->∀ts,tot (An (AU bs)) ts=tot dss.flatten ts
 | [],[],_,_,_=>rfl
 | [],_ :: _,e,_,_=>by cases e
 | _ :: _,[],e,_,_=>by cases e
 | x :: bs,ds :: dss,e,h,ts=>by
   show tot (An (x.2++AU bs)) ts=tot (ds++dss.flatten) ts
   rw [Cq,IZ,IZ,h 0 x ds rfl rfl ts,TW (by simpa using e) (fun i=>h (i+1)) ts]
theorem Lk.tot (g:Lk C H a m S O f k rest bs dss os) (p:Pk n dss os):∀ts,Law.tot (An (AU bs)) ts=Law.tot dss.flatten ts :=
 TW g.len fun i x ds e1 e2=>(g.rel i x ds e1 e2).tot (p.posD (Br e2))
theorem Lk.sum (g:Lk C H a m S O f k rest bs dss os) (p:Pk n dss os) {j:Ac} (jm:j∈os):∃x,bs[j.toNat]?=Aa x/\x∈bs/\j=(j.toNat:Ac)/\((An x.2).map (·.2)).sum=AX (dss.getD j.toNat []):=by
 obtain ⟨j0,j1⟩:=p.oin j jm
 have jl:j.toNat < dss.length:=by omega
 have jb:j.toNat < bs.length:=by rw [g.len];exact jl
 have eb:=BF jb
 have ed:=BF jl
 refine ⟨_,eb,G1 jb,by omega,?_⟩
 rw [BP,ed]
 exact Kg ((g.rel _ _ _ eb ed).tot (p.posD (Br ed)))
end
theorem JM {n:Ae} {dss:Ab Ds} {os js:Ab Ac} (p:Pk n dss os):0<=Un dss js:=by
 unfold Un
 induction js with
 | nil=>exact Dr _
 | cons j js ih =>
   rw [BL,Eb]
   have:0<=AX (dss.getD j.toNat []):=by
    rw [BP]
    cases e:dss[j.toNat]? with
    | none=>exact Dr _
    | some ds=>exact Kf (p.posD (Br e))
   omega
theorem Zg {n:Ae} (h:n<=6):(Bt n).length<=60:=by
 have:∀n,n < 7->(Bt n).length<=60:=by decide +kernel
 exact this n (by omega)
theorem Lx (a b:Ds):AX (a++b)=AX a+AX b:=by unfold AX;rw [Bc,OC]
theorem T5:∀{dss:Ab Ds} {j:Ae},(∀ds∈dss,Pos ds)->AX (dss.getD j [])<=AX dss.flatten
 | [],j,_=>by rw [BP];exact Dr _
 | d :: dss,0,h=>by
   show AX d<=AX (d++dss.flatten)
   rw [Lx]
   have:0<=AX dss.flatten:=Kf fun q m=>by
    obtain ⟨ds,dm,qm⟩:=List.mem_flatten.mp m
    exact h ds (Bv _ dm) q qm
   omega
 | d :: dss,j+1,h=>by
   show AX (dss.getD j [])<=AX (d++dss.flatten)
   rw [Lx]
   have:=T5 (j:=j) (fun ds m=>h ds (Bv _ m))
   have:=Kf (h d (Bw ..))
   omega
theorem Pk.flat {n:Ae} {dss:Ab Ds} {os:Ab Ac} (p:Pk n dss os):Cp n (Bt n) dss.flatten:=fun q m=>by
 obtain ⟨ds,dm,qm⟩:=List.mem_flatten.mp m
 exact p.ok ds dm q qm
theorem PB {n:Ae} {dss:Ab Ds} {os:Ab Ac} (p:Pk n dss os):∀{js:Ab Ac},0 < Un dss js->0 < AX dss.flatten
 | [],h=>A8 h (by show ¬ (0:Ac) < 0;decide)
 | j :: js,h=>by
   have a:=T5 (j:=j.toNat) fun ds m=>p.posD m
   have b:=Kf (ds:=dss.flatten) fun q m=>(p.flat q m).2.1
   rcases (by omega:0 < AX dss.flatten\/AX (dss.getD j.toNat [])<=0) with c | c
   ·exact c
   ·refine PB p (js:=js) ?_
    unfold Un at h ⊢
    rw [BL,Eb] at h
    omega
theorem Pk.fit {n:Ae} {dss:Ab Ds} {os:Ab Ac} (p:Pk n dss os) {H:Hp} {ls:Ls} (g:AO H ls) (sh:BY dss.flatten (An ls)):KU n H ls/\Gb ls/\ls.length<=60/\AX (An ls)=AX dss.flatten/\∀q∈ls,q.2.2.1.length<=6:=by
 have kp:=sh.keys (p:=Bt n) fun q m=>(p.flat q m).1
 have po:Pos dss.flatten:=fun q m=>(p.flat q m).2.1
 have le:=T3 (ds:=dss.flatten) fun q m=>(p.flat q m).2.2.1
 have l30:=p.l30
 have n6:=p.n6
 refine ⟨fun q m=>⟨(g q m).1,(g q m).2,?_⟩,fun q m=>?_,?_,Kg (sh.tot po),fun q m=>?_⟩
 ·obtain ⟨_,_,_,_,_,_,_,b⟩:=(GL p.n6 (kp _ (List.mem_map.mpr ⟨q,m,rfl⟩))).ranks
  cases e:q.2.2.1 with
  | nil=>exact .inl rfl
  | cons t r=>exact .inr ⟨t,r,rfl,b t (by show t∈q.2.2.1;rw [e];exact Bw ..)⟩
 ·have k:=(sh.mem q.2.2.1 q.2.2.2).mp (List.mem_map.mpr ⟨q,m,rfl⟩)
  have:=TU (ts:=q.2.2.1) po
  omega
 ·have a:=sh.len (p:=Bt n) fun q m=>(p.flat q m).1
  have b:=Zg p.n6
  have:(An ls).length=ls.length:=Aw _
  omega
 ·exact CK (GL p.n6 (kp _ (List.mem_map.mpr ⟨q,m,rfl⟩))).len p.n6
inductive Tt (K:A6) (vs:Ab V) (H:Hp) (Q:VK) (E:XK):Prop
 | mk (a C dx:Ad) (h:Ae) (s:Ac):vs=[.ref a,.int (h:Ac),.int s,.non]->H a=Aa (.ins C dx [])->Cls K C->BG K C "hands"->BG K C "seats"->BG K C "lots"->1<=h->h<=12->1<=s->s<=60->(∀(l':Ad) (H':Hp),l'≠a->H l'=Ag->Ax (off H a) H'->H' a=Aa (.ins C dx (fsW (h:Ac) s l'))->H' l'=Aa (.lst ((ups h).map V.int))->Q .non H')->Tt K vs H Q E
inductive SB (K:A6) (vs:Ab V) (H:Hp) (Q:VK) (E:XK):Prop
 | mk (a C dx:Ad) (h:Ae) (s:Ac):vs=[.ref a,.int (h:Ac),.int s,.non,.non,.int 1]->H a=Aa (.ins C dx [])->Cls K C->BG K C "hands"->BG K C "seats"->BG K C "lots"->BG K C "hurdle"->BG K C "step"->1<=h->h<=12->1<=s->s<=60->(∀(l' t:Ad) (H':Hp),H l'=Ag->Ax (off H a) H'->H' a=Aa (.ins C dx (fsL (h:Ac) s l' t 1))->H' l'=Aa (.lst ((ups h).map V.int))->H' t=Aa (.tup [.int 0,.int 1])->Q .non H')->SB K vs H Q E
theorem Zy (m:V):Bb "margin" m []=([("margin",m)]:Ab (Ak × V)):=rfl
theorem Zz (m s:V):Bb "sheets" s [("margin",m)]=([("margin",m),("sheets",s)]:Ab (Ak × V)):=by
 unfold Bb;rw [Ao (by decide)];rfl
theorem Z0 (m s o:V):Bb "order" o [("margin",m),("sheets",s)]=([("margin",m),("sheets",s),("order",o)]:Ab (Ak × V)):=by
 unfold Bb;rw [Ao (by decide)];unfold Bb;rw [Ao (by decide)];rfl
theorem Z1 (m s o k:V):Bb "looked" k [("margin",m),("sheets",s),("order",o)]=([("margin",m),("sheets",s),("order",o),("looked",k)]:Ab (Ak × V)):=by
 unfold Bb;rw [Ao (by decide)];unfold Bb;rw [Ao (by decide)];unfold Bb;rw [Ao (by decide)];rfl
theorem Z3 (m s o k f:V):Bb "first" f [("margin",m),("sheets",s),("order",o),("looked",k)]=([("margin",m),("sheets",s),("order",o),("looked",k),("first",f)]:Ab (Ak × V)):=by
 unfold Bb;rw [Ao (by decide)];unfold Bb;rw [Ao (by decide)];unfold Bb;rw [Ao (by decide)];unfold Bb;rw [Ao (by decide)];rfl
theorem RE (m s o k f:V) (r:Ab (Ak × V)) (z:V) (h:Bb "said" z r=([("said",z)]:Ab (Ak × V))):Bb "said" z (("margin",m) :: ("sheets",s) :: ("order",o) :: ("looked",k) :: ("first",f) :: r)=(("margin",m) :: ("sheets",s) :: ("order",o) :: ("looked",k) :: ("first",f) :: [("said",z)]:Ab (Ak × V)):=by
 unfold Bb;rw [Ao (by decide)];unfold Bb;rw [Ao (by decide)];unfold Bb;rw [Ao (by decide)];unfold Bb;rw [Ao (by decide)];unfold Bb;rw [Ao (by decide),h]
theorem Z4 (m s o k f:V) (r:Ab (Ak × V)) (z:V):Bb "looked" z (("margin",m) :: ("sheets",s) :: ("order",o) :: ("looked",k) :: ("first",f) :: r)=(("margin",m) :: ("sheets",s) :: ("order",o) :: ("looked",z) :: ("first",f) :: r:Ab (Ak × V)):=by
 unfold Bb;rw [Ao (by decide)];unfold Bb;rw [Ao (by decide)];unfold Bb;rw [Ao (by decide)];unfold Bb;rw [At rfl]
theorem B3 {R:Hp} {a b:Ad} {o:HO} (h:R a=Ag) (k:R b=Aa o):b≠a:=fun z=>by rw [z,h] at k;cases k
theorem C_ {J:Hp} {a b C dx:Ad} {fs:Ab (Ak × V)} {xs:Ab V} (h:J a=Aa (.ins C dx fs)) (k:J b=Aa (.lst xs)):b≠a:=fun z=>by rw [z,h] at k;cases k
theorem AO.updI {H:Hp} {ls:Ls} {a C dx:Ad} {fs:Ab (Ak × V)} {o:HO} (e:H a=Aa (.ins C dx fs)) (g:AO H ls):AO (L2.upd H a o) ls:=fun q m=>by
 refine ⟨?_,?_⟩
 ·rw [AF (Bq (g q m).1 e (fun z=>by cases z))];exact (g q m).1
 ·rw [AF (Bq (g q m).2 e (fun z=>by cases z))];exact (g q m).2
theorem GI {J:Hp} {a C dx:Ad} {fs:Ab (Ak × V)} {o:HO} {bs:Ab (Ad × Ls)} (h:J a=Aa (.ins C dx fs)) (k:∀x∈bs,J x.1=Aa (.lst (vls x.2))/\AO J x.2):∀x∈bs,(upd J a o) x.1=Aa (.lst (vls x.2))/\AO (upd J a o) x.2:=fun x m=>⟨by rw [AF (C_ h (k x m).1)];exact (k x m).1,(k x m).2.updI h⟩
theorem Fv {J J':Hp} {bs:Ab (Ad × Ls)} (s:Ax J J') (k:∀x∈bs,J x.1=Aa (.lst (vls x.2))/\AO J x.2):∀x∈bs,J' x.1=Aa (.lst (vls x.2))/\AO J' x.2:=fun x m=>⟨s _ _ (k x m).1,(k x m).2.same s⟩
theorem Dc {J:Hp} {a b C dx:Ad} {fs:Ab (Ak × V)} {o:HO} {xs:Ab V} (h:J a=Aa (.ins C dx fs)) (k:J b=Aa (.lst xs)):(upd J a o) b=Aa (.lst xs):=by rw [AF (C_ h k)];exact k
theorem JS:∀as:Ab (Ad × Ls),(as.map fun x=>An x.2).flatten=An (AU as)
 | []=>rfl
 | x :: as=>by
   show An x.2++(as.map fun x=>An x.2).flatten=An (x.2++AU as)
   rw [JS as,Cq]
theorem WN {m:Ae} {z x:Ac} (h:x∈dec m z (BV m)):0<=x/\x < m:=by
 have:=(Qm m z _ (NY m)).mem_iff.mp h
 obtain ⟨j,jm,rfl⟩:=List.mem_map.mp this
 have:=List.mem_range.mp jm
 omega
theorem Zc {n:Ae} {z:Ac} {as:Ab (Ad × Ls)} (n2:2<=n) (n6:n<=6) (ok:∀x∈as,Cp n (Bt n) (An x.2)) (a5:as.length<=5) (a30:(AU as).length<=30):Pk n (as.map fun x=>An x.2) (dec as.length z (BV as.length)):=by
 refine ⟨n2,n6,fun ds m=>?_,by rw [Aw];exact a5,?_,by rw [JQ,Aw],fun x m=>?_⟩
 ·obtain ⟨x,xm,rfl⟩:=List.mem_map.mp m
  exact ok x xm
 ·rw [JS]
  unfold An
  rw [Aw]
  exact a30
 ·rw [Aw]
  exact WN m
inductive SC (C CB CM CL:Ad) (vs:Ab V) (H:Hp) (Q:VK) (E:XK):Prop
 | mk (H0:Hp) (a dx m w b L:Ad) (n:Ae) (z:Ac) (as:Ab (Ad × Ls)):vs=[.ref a,.ref m,.ref b,.int z]->H a=Aa (.ins C dx [])->H0 a=Ag->Ax H0 H->IsB CB H0 b L n as->Mg CM CL H0 m w n->2<=n->n<=6->(∀x∈as,Cp n (Bt n) (An x.2))->as.length<=5->(AU as).length<=30->(∀(S O f:Ad) (bs:Ab (Ad × Ls)) (s:Ak) (H':Hp),Ax H0 H'->Lk C H' a m S O f 0 [("said",.str s)] bs (as.map fun x=>An x.2) (dec as.length z (BV as.length))->Pk n (as.map fun x=>An x.2) (dec as.length z (BV as.length))->(s="open"↔0 < Un (as.map fun x=>An x.2) (dec as.length z (BV as.length)))->H0 S=Ag->H0 O=Ag->H0 f=Ag->(∀x∈bs,H0 x.1=Ag)->S≠O->S≠f->(∀x∈bs,x.1≠S)->Q .non H')->SC C CB CM CL vs H Q E
theorem Aa9 {fs:Ls} {i:Ae} {q r:Ad × Ad × Ab Ac × Ac} (h:fs[i]?=Aa q):AX (An (fs.set i r))=AX (An fs) - q.2.2.2+r.2.2.2:=by
 induction fs generalizing i with
 | nil=>cases h
 | cons x fs ih =>
   cases i with
   | zero =>
     cases Bp h
     show AX ((r.2.2.1,r.2.2.2) :: An fs)=AX ((q.2.2.1,q.2.2.2) :: An fs) - _+_
     rw [FF,FF]
     show r.2.2.2+_=q.2.2.2+_ - q.2.2.2+r.2.2.2
     omega
   | succ i =>
     have:=ih (show fs[i]?=Aa q from h)
     show AX ((x.2.2.1,x.2.2.2) :: An (fs.set i r))=AX ((x.2.2.1,x.2.2.2) :: An fs) - _+_
     rw [FF,FF,this]
     omega
inductive Ex3 {α0 α1 α2:Type} (p:α0->α1->α2->Prop):Prop
 | mk (x0:α0) (x1:α1) (x2:α2) (h:p x0 x1 x2):Ex3 p
inductive Ex4 {α0 α1 α2 α3:Type} (p:α0->α1->α2->α3->Prop):Prop
 | mk (x0:α0) (x1:α1) (x2:α2) (x3:α3) (h:p x0 x1 x2 x3):Ex4 p
inductive Ex9 {α0 α1 α2 α3 α4 α5 α6 α7 α8:Type} (p:α0->α1->α2->α3->α4->α5->α6->α7->α8->Prop):Prop
 | mk (x0:α0) (x1:α1) (x2:α2) (x3:α3) (x4:α4) (x5:α5) (x6:α6) (x7:α7) (x8:α8) (h:p x0 x1 x2 x3 x4 x5 x6 x7 x8):Ex9 p
local macro_rules | `($f:ident <* $a)=>do
  let n:=f.getId.toString
  let i:=fun (s:CN)=>Dg (.str (.str .anonymous "T") s)
  `(@YK _ _ _ _ _ _ _ _ _ _ _ _ _ _ _ _ ($(Dg (.mkSimple ("ok_"++n))) $(Dg `T)) ($(Dg `hr.mono) (by decide)) rfl $(i ("m_"++n)) $(Dg (.str (.str (.str .anonymous "T") ("F_"++n)) "kp")) $(i ("b_"++n)) .nil Cd $a (by decide) (by rfl) (by rfl))
local macro_rules | `($e =<< ($f:ident >=> $a))=>do
  let i:=fun (s:CN)=>Dg (.str (.str .anonymous "T") s)
  match f.getId with
  | .str (.str (.str _ c) m) k=>`(YQ $e $(i ("cl_"++c)) $(i ("me_"++c++"_"++m)) ($(Dg (.mkSimple ("ok_"++k))) $(Dg `T)) ($(Dg `hr.mono) (by decide)) $(i ("b_"++k)) .nil Cd $a)
  | _=>Lean.Macro.throwUnsupported
local macro_rules | `($a ∩ ($b ∪ $c))=>`(@YO _ _ _ _ _ _ _ $a $b $c (fun _ _=>rfl))
local macro_rules | `($a ⊂ ($b ∪ $c))=>`(@Zq _ _ _ _ _ _ _ _ $a $b $c (Fw _))
local macro_rules | `($a ⊆ ($b ∪ $c))=>`(@Zl _ _ _ _ _ _ _ _ $a $b $c)
local macro_rules | `(~~~$a)=>`(@Bl _ _ _ (@Zm _ _ _ _ $a))
local macro_rules | `($n:num <$> $a)=>`(@RC _ _ $n _ _ _ _ $(Dg `nd) rfl (BW rfl) $a (by rfl) (by first | exact .inl rfl | exact .inr rfl | assumption))
local macro_rules | `($n:num <=< $a)=>`(@RC _ _ $n _ _ _ _ $(Dg `nd) rfl (KB rfl) $a (by rfl) (by first | exact .inl rfl | exact .inr rfl | assumption))
local macro_rules | `(tactic| exists $f:ident)=>do
  let n:=f.getId.toString
  let i:=fun (s:CN)=>Dg (.mkSimple s)
  `(tactic| (refine $(Dg (.str (.str (.str .anonymous "T") ("F_"++n)) "ok")) $(i ("sc_"++n)) (fun $(i "vs") $(i "H") $(i "Q") $(i "E") $(i "h")=>?_) (fun $(i "cdv") $(i "A") $(i "outer") $(i "s") $(i "H") $(i "vs") $(i "Q") $(i "E") $(i "hr") $(i "h")=>?_);(next=>(cases $(i "h"):ident;subst_vars;rfl));have $(i "nd"):ident:=$(Dg (.str (.mkSimple ("sc_"++n)) "nd"))))
theorem ok_cl {n i:Ae} {p:Ab (Ab Ac)} {fs:Ls} {r:Ad × Ad × Ab Ac × Ac} (h:Cp n p (An fs)) (k:r.2.2.1∈p/\1<=r.2.2.2/\r.2.2.2<=1000000000/\OkS n r.2.2.1):Cp n p (An (fs.set i r)):=fun q m=>by
 obtain ⟨x,xm,rfl⟩:=List.mem_map.mp m
 rcases DQ xm with xm | rfl
 ·exact h _ (List.mem_map.mpr ⟨x,xm,rfl⟩)
 ·exact k
theorem ok_c3 {n:Ae} {p:Ab (Ab Ac)} {fs gs:Ls} {r:Ad × Ad × Ab Ac × Ac} (h:Cp n p (An (fs++gs))) (k:r.2.2.1∈p/\1<=r.2.2.2/\r.2.2.2<=1000000000/\OkS n r.2.2.1):Cp n p (An (fs++r :: gs)):=fun q m=>by
 rw [Cq] at m
 rcases List.mem_append.mp m with m | m
 ·exact h q (by rw [Cq];exact Jl _ m)
 ·rcases List.mem_cons.mp (show q∈(r.2.2.1,r.2.2.2) :: An gs from m) with rfl | m
  ·exact k
  ·exact h q (by rw [Cq];exact Ea _ m)
theorem Aa7 {fs gs:Ls} {r:Ad × Ad × Ab Ac × Ac}:AX (An (fs++r :: gs))=AX (An (fs++gs))+r.2.2.2:=by
 rw [Cq,Cq,Lx,Lx]
 show _+AX ((r.2.2.1,r.2.2.2) :: An gs)=_
 rw [FF]
 show _+(r.2.2.2+_)=_
 omega
theorem Xn {H:Hp} {fs:Ls} {i:Ae} {r:Ad × Ad × Ab Ac × Ac} (g:AO H fs) (h1:H r.1=Aa (.tup [.ref r.2.1,.int r.2.2.2])) (h2:H r.2.1=Aa (.tup (r.2.2.1.map V.int))):AO H (fs.set i r):=fun q m=>by
 rcases DQ m with m | rfl
 ·exact g q m
 ·exact ⟨h1,h2⟩
theorem Ab0 {fs:Ls} {i:Ae} {r:Ad × Ad × Ab Ac × Ac}:(vls fs).set i (.ref r.1)=vls (fs.set i r):=by unfold vls;rw [Et]
theorem Aa8 (ds:Ds):AX ds.reverse=AX ds:=by
 unfold AX
 rw [Mi,List.sum_reverse]
theorem Qs (ls:Ls):An ls.reverse=(An ls).reverse:=Mi ..
inductive SX (C:Ad) (vs:Ab V) (H:Hp) (Q:VK) (E:XK):Prop
 | mk (b L:Ad) (n:Ae) (bs:Ab (Ad × Ls)) (k:Ae) (x:Ad × Ls) (l:Ad) (ls:Ls) (p:Ab (Ab Ac)):vs=[.ref b,.int (k:Ac),.ref l]->IsB C H b L n bs->bs[k]?=Aa x->Cp n p (An x.2)->H l=Aa (.lst (vls ls))->AO H ls->(∀q∈An ls,q.1∈p/\1<=q.2/\q.2<=1000000000)->p.length < 64->l≠L->AX (An ls)=AX (An x.2)->(∀(v:Ac) (y:Ad) (H':Hp),H y=Ag->Ax (off H L) H'->H' L=Aa (.lst ((bs.set k (y,ls)).map fun x=>V.ref x.1))->H' y=Aa (.lst (vls ls))->AO H' ls->Q (.int v) H')->SX C vs H Q E
noncomputable def BZ (H:Hp) (a S:Ad):Hp:=off (off H a) S
theorem D0 {H:Hp} {a S b:Ad} {o:HO} (e:H b=Aa o) (na:b≠a) (nS:b≠S):BZ H a S b=Aa o:=Bj (Bj e na) nS
theorem Rj (H:Hp) (a S:Ad):Ax (BZ H a S) H:=(DH _ _).trans (DH _ _)
theorem Y4 {H H':Hp} {a S:Ad} {o:HO} (s:Ax (BZ H a S) H'):Ax (BZ H a S) (upd H' S o):=E7 s
theorem Ri {H H':Hp} {a S:Ad} {o:HO} (s:Ax (BZ H a S) H'):Ax (BZ H a S) (upd H' a o):=fun b u e=>by
 rw [AF (fun z=>by
  have:=DH _ _ _ _ e
  rw [z,GK] at this
  cases this)]
 exact s _ _ e
theorem Aan {bs:Ab (Ad × Ls)} {dss:Ab Ds} {j:Ae} {y:Ad × Ls} {es:Ds} (l:bs.length=dss.length) (h:∀(i:Ae) (x:Ad × Ls) (ds:Ds),bs[i]?=Aa x->dss[i]?=Aa ds->BY ds (An x.2)) (s:BY es (An y.2)):∀(i:Ae) (x:Ad × Ls) (ds:Ds),(bs.set j y)[i]?=Aa x->(dss.set j es)[i]?=Aa ds->BY ds (An x.2):=fun i x ds e1 e2=>by
 by_cases c:j=i
 ·subst c
  have l1:=(List.getElem?_eq_some_iff.mp e1).1
  rw [DO] at l1
  rw [FL l1] at e1
  rw [FL (by omega)] at e2
  cases Bp e1
  cases Bp e2
  exact s
 ·rw [Hg c] at e1 e2
  exact h i x ds e1 e2
inductive S2 (C CM CL:Ad) (vs:Ab V) (H:Hp) (Q:VK) (E:XK):Prop
 | mk (a m w S O f l:Ad) (k n j:Ae) (bs:Ab (Ad × Ls)) (dss:Ab Ds) (os:Ab Ac) (ls:Ls):vs=[.ref a,.ref l]->Lk C H a m S O f k [("said",.str "open")] bs dss os->Pk n dss os->Mg CM CL (BZ H a S) m w n->S≠O->S≠f->(∀x∈bs,x.1≠S)->os[k]?=Aa (j:Ac)->j < dss.length->H l=Aa (.lst (vls ls))->AO H ls->AX (An ls)=AX (dss.getD j [])->Pk n (dss.set j (An ls)) os->(∀(y:Ad) (ls':Ls) (s:Ak) (H':Hp),H y=Ag->Ax (BZ H a S) H'->Lk C H' a m S O f (k+1) [("said",.str s)] (bs.set j (y,ls')) (dss.set j (An ls)) os->(s="open"↔0 < Un (dss.set j (An ls)) (os.drop (k+1)))->Q (.str s) H')->S2 C CM CL vs H Q E
structure LkR (C:Ad) (R H:Hp) (a m S O f:Ad) (k:Ae) (rest:Ab (Ak × V)) (bs:Ab (Ad × Ls)) (dss:Ab Ds) (os:Ab Ac):Prop where
 same:Ax R H
 ra:R a=Ag
 rS:R S=Ag
 at_:∃dx,H a=Aa (.ins C dx (fsK m S O (k:Ac) f rest))
 sh:H S=Aa (.lst (bs.map fun x=>V.ref x.1))
 lies:∀x∈bs,R x.1=Aa (.lst (vls x.2))/\AO R x.2
 len:bs.length=dss.length
 rel:∀(i:Ae) (x:Ad × Ls) (ds:Ds),bs[i]?=Aa x->dss[i]?=Aa ds->BY ds (An x.2)
 od:R O=Aa (.lst (os.map V.int))
 fs:∃fo:Ab Ac,R f=Aa (.lst (fo.map V.int))
section
variable {C:Ad} {R R' H H':Hp} {a m S O f:Ad} {k n:Ae} {rest:Ab (Ak × V)} {bs:Ab (Ad × Ls)} {dss:Ab Ds} {os:Ab Ac}
theorem LkR.lk (g:LkR C R H a m S O f k rest bs dss os):Lk C H a m S O f k rest bs dss os:=⟨g.at_,g.sh,Fv g.same g.lies,g.len,g.rel,g.same _ _ g.od,g.fs.imp fun _ e=>g.same _ _ e⟩
theorem LkR.up (g:LkR C R H a m S O f k rest bs dss os) (s:Ax H H'):LkR C R H' a m S O f k rest bs dss os:=⟨g.same.trans s,g.ra,g.rS,g.at_.imp fun _ e=>s _ _ e,s _ _ g.sh,g.lies,g.len,g.rel,g.od,g.fs⟩
theorem LkR.sub (g:LkR C R H a m S O f k rest bs dss os):Ax R (BZ H a S):=Dn (Dn g.same g.ra) g.rS
theorem Lk.r (g:Lk C H a m S O f k rest bs dss os) (SO:S≠O) (Sf:S≠f) (Sb:∀x∈bs,x.1≠S):LkR C (BZ H a S) H a m S O f k rest bs dss os:=by
 obtain ⟨dx,ha⟩:=g.at_
 have put:∀{b:Ad} {xs:Ab V},H b=Aa (.lst xs)->b≠S->BZ H a S b=Aa (.lst xs):=fun e n=>D0 e (C_ ha e) n
 refine ⟨Rj _ _ _,?_,GK,g.at_,g.sh,fun x xm=>⟨put (g.lies x xm).1 (Sb x xm),fun q qm=>?_⟩,g.len,g.rel,put g.od (AM SO),g.fs.imp fun _ e=>put e (AM Sf)⟩
 ·unfold BZ off
  split
  ·rfl
  ·rw [At rfl]
 ·obtain ⟨g1,g2⟩:=(g.lies x xm).2 q qm
  exact ⟨D0 g1 (Bq g1 ha (fun z=>by cases z)) (Bq g1 g.sh (fun z=>by cases z)),D0 g2 (Bq g2 ha (fun z=>by cases z)) (Bq g2 g.sh (fun z=>by cases z))⟩
end
theorem Lk.offI {C:Ad} {H:Hp} {a m S O f M C' dx':Ad} {k:Ae} {rest fs':Ab (Ak × V)} {bs:Ab (Ad × Ls)} {dss:Ab Ds} {os:Ab Ac} (g:Lk C H a m S O f k rest bs dss os) (hM:H M=Aa (.ins C' dx' fs')) (Ma:a≠M):Lk C (off H M) a m S O f k rest bs dss os:=by
 obtain ⟨dx,ha⟩:=g.at_
 refine ⟨⟨dx,Bj ha Ma⟩,Bj g.sh (C_ hM g.sh),fun x xm=>⟨Bj (g.lies x xm).1 (C_ hM (g.lies x xm).1),fun q qm=>?_⟩,g.len,g.rel,Bj g.od (C_ hM g.od),g.fs.imp fun _ e=>Bj e (C_ hM e)⟩
 obtain ⟨g1,g2⟩:=(g.lies x xm).2 q qm
 exact ⟨Bj g1 (Bq g1 hM (fun z=>by cases z)),Bj g2 (Bq g2 hM (fun z=>by cases z))⟩
theorem AO.offX {H:Hp} {M:Ad} {ls:Ls} {zs:Ab V} (g:AO H ls) (hM:H M=Aa (.lst zs)):AO (Law.off H M) ls:=fun q qm=>by
 obtain ⟨g1,g2⟩:=g q qm
 exact ⟨Bj g1 (Bq g1 hM (fun z=>by cases z)),Bj g2 (Bq g2 hM (fun z=>by cases z))⟩
theorem Bd.offX {H:Hp} {n:Ae} {B M:Ad} {cs:Ab (Ad × Ls)} {zs:Ab V} (b:Bd H n B cs) (hM:H M=Aa (.lst zs)) (BM:B≠M) (cM:∀x∈cs,x.1≠M):Bd (off H M) n B cs:=⟨Bj b.lst BM,fun x m=>⟨Bj (b.lies x m).1 (cM x m),(b.lies x m).2.offX hM⟩,b.ok,b.len⟩
theorem Yz {cs:Ab (Ad × Ls)} {kk:Ae} {x z:Ad × Ls} {e:Ad} {es:Ls} (ex:cs[kk]?=Aa x) (l:es.length=x.2.length):(AU (cs.take kk++(e,es) :: cs.drop (kk+1)++[z])).length=(AU cs).length+z.2.length:=by
 have h:cs=cs.take kk++x :: cs.drop (kk+1):=by
  obtain ⟨hk,e⟩:=List.getElem?_eq_some_iff.mp ex
  rw [<- e,<- UO hk,OD]
 have ap:∀a b:Ab (Ad × Ls),AU (a++b)=AU a++AU b:=fun a b=>by unfold AU;rw [Bc,LZ]
 have co:∀(a:Ad × Ls) (b:Ab (Ad × Ls)),AU (a :: b)=a.2++AU b:=fun _ _=>rfl
 have h2:=BR (fun l=>(AU l).length) h
 simp only [ap,co,B9] at h2 ⊢
 have h0:(AU ([]:Ab (Ad × Ls))).length=0:=rfl
 omega
theorem Yy {cs as:Ab (Ad × Ls)} {kk:Ae} {r:Ad × Ls} {e' yb x1:Ad} {es ls1:Ls} (hk:kk < cs.length) (ed:as.map (fun x=>An x.2)=cs.map (fun x=>An x.2)) (el:An ls1=An r.2):(cs.take kk++(e',es) :: cs.drop (kk+1)++[r]).map (fun x=>An x.2)=(as.set kk (yb,es)++[(x1,ls1)]).map (fun x=>An x.2):=by
 rw [Bc,Bc,Bc,BL,Et,ed,Mj,Me,List.set_eq_take_append_cons_drop,At (by rw [Aw];exact hk)]
 show _++[An r.2]=_++[An ls1]
 rw [el]
theorem DK {t:TS} {D:CF} {σ σ':St} {H:Hp} (e:σ=σ') (h:t D σ' H):t D σ H:=by rw [e];exact h
theorem Kc {H:Hp} {a dx C:Ad} (h:H a=Ag) (hd:H dx=Ag) (ne:dx≠a):Ax H (upd (upd H dx (.own a)) a (.ins C dx [])):=(A2 hd _).trans (A2 (by rw [AF (AM ne)];exact h) _)
theorem Lk.offM {C:Ad} {H:Hp} {a m S O f M:Ad} {k:Ae} {rest:Ab (Ak × V)} {bs:Ab (Ad × Ls)} {dss:Ab Ds} {os:Ab Ac} {zs:Ab V} (g:Lk C H a m S O f k rest bs dss os) (hM:H M=Aa (.lst zs)) (MS:S≠M) (MO:O≠M) (Mf:f≠M) (Mb:∀x∈bs,x.1≠M):Lk C (off H M) a m S O f k rest bs dss os:=by
 obtain ⟨dx,ha⟩:=g.at_
 refine ⟨⟨dx,Bj ha (AM (C_ ha hM))⟩,Bj g.sh MS,fun x xm=>⟨Bj (g.lies x xm).1 (Mb x xm),fun q qm=>?_⟩,g.len,g.rel,Bj g.od MO,g.fs.imp fun _ e=>Bj e Mf⟩
 obtain ⟨g1,g2⟩:=(g.lies x xm).2 q qm
 exact ⟨Bj g1 (Bq g1 hM (fun z=>by cases z)),Bj g2 (Bq g2 hM (fun z=>by cases z))⟩
noncomputable def AtS (dss:Ab Ds) (os:Ab Ac) (k i:Ae):Prop:=k=i\/(k<=i/\Un dss (os.drop k)=0)
theorem Wt (dss:Ab Ds) (a b:Ab Ac):Un dss (a++b)=Un dss a+Un dss b:=by unfold Un;rw [Bc,OC]
theorem AtS.un {n k i:Ae} {dss:Ab Ds} {os:Ab Ac} (h:AtS dss os k i) (p:Pk n dss os):Un dss (os.drop k)=Un dss (os.drop i)/\(0 < Un dss (os.drop i)->k=i):=by
 rcases h with rfl | ⟨le,z⟩
 ·exact ⟨rfl,fun _=>rfl⟩
 ·have e:Un dss (os.drop k)=Un dss ((os.drop k).take (i - k))+Un dss (os.drop i):=by
   rw [<- Wt]
   congr 1
   rw [show os.drop i=(os.drop k).drop (i - k) from by rw [Ov];congr 1;omega,OD]
  have a:=JM (js:=(os.drop k).take (i - k)) p
  have b:=JM (js:=os.drop i) p
  exact ⟨by omega,fun c=>by omega⟩
inductive Ti (C CM CL:Ad) (vs:Ab V) (H:Hp) (Q:VK) (E:XK):Prop
 | mk (a m w S O f B O':Ad) (k n i:Ae) (s:Ak) (bs cs:Ab (Ad × Ls)) (os:Ab Ac):vs=[.ref a,.ref B,.ref O',.int (i:Ac)]->Lk C H a m S O f k [("said",.str s)] bs (cs.map fun x=>An x.2) os->Pk n (cs.map fun x=>An x.2) os->(s="open"↔0 < Un (cs.map fun x=>An x.2) (os.drop k))->Bd H n B cs->H O'=Aa (.lst (os.map V.int))->AtS (cs.map fun x=>An x.2) os k i->(∀H':Hp,Ax H H'->Q (.bl Af) H')->Ti C CM CL vs H Q E
inductive Ts (C CM CL:Ad) (vs:Ab V) (H:Hp) (Q:VK) (E:XK):Prop
 | mk (R:Hp) (a m w S O f B O':Ad) (n i:Ae) (c:Ac) (s:Ak) (bs cs:Ab (Ad × Ls)) (os:Ab Ac):vs=[.ref a,.ref B,.ref O',.int (i:Ac),.int c,.int (n:Ac)]->LkR C R H a m S O f 0 [("said",.str s)] bs (cs.map fun x=>An x.2) os->Pk n (cs.map fun x=>An x.2) os->Mg CM CL R m w n->(s="open"↔0 < Un (cs.map fun x=>An x.2) os)->Bd R n B cs->R O'=Aa (.lst (os.map V.int))->i<=os.length->0<=c->c < 10 ^ 40->(AU cs).length<=20->(∀(R':Hp) (B':Ad) (k:Ae) (s':Ak) (bs' cs':Ab (Ad × Ls)) (H':Hp),Ax R R'->LkR C R' H' a m S O f k [("said",.str s')] bs' (cs'.map fun x=>An x.2) os->Pk n (cs'.map fun x=>An x.2) os->(s'="open"↔0 < Un (cs'.map fun x=>An x.2) (os.drop k))->Bd R' n B' cs'->AtS (cs'.map fun x=>An x.2) os k i->(∀x∈bs',x∈bs\/R x.1=Ag)->(∀x∈cs',x∈cs\/R x.1=Ag)->R B'=Ag->Q (.ref B') H')->Ts C CM CL vs H Q E
def top (i:Ae):AD:=PySem.Challenge.pw_pollproof_k94_looks_side_by_side.main.body.getD i (.Pass ⟨0,0,0,0⟩)
abbrev Im:AD:=top 14
abbrev s_s:AD:=top 15
abbrev II:AD:=top 16
abbrev Iq:AD:=top 20
abbrev GP:AD:=top 21
abbrev GX:AD:=top 24
abbrev IF:AD:=top 30
abbrev IK:AD:=top 34
abbrev s_v:AD:=top 35
abbrev Ir:AD:=top 48
abbrev IG:AD:=top 49
abbrev IH:AD:=top 62
abbrev IC:AD:=top 79
abbrev ID:AD:=top 80
abbrev Ip:AD:=top 81
abbrev s_o:AD:=top 85
abbrev HZ:AD:=top 87
abbrev Go:AD:=top 88
abbrev s_j:AD:=BS (top 31) 4
abbrev s_i:AD:=BS (top 31) 5
abbrev s_f:AD:=BS (top 59) 1
abbrev Gp:AD:=BS (top 69) 8
abbrev Iw:AD:=BS (top 77) 0
abbrev Iy:AD:=BS (top 77) 2
abbrev IA:AD:=top 19
abbrev HY:AD:=top 23
abbrev GV:AD:=top 28
abbrev IB:AD:=top 38
abbrev Iu:AD:=top 40
abbrev s_l:AD:=top 42
abbrev GO:AD:=top 50
abbrev Ih:AD:=top 54
abbrev Ij:AD:=top 55
abbrev Ii:AD:=top 56
abbrev Ie:AD:=top 61
abbrev IJ:AD:=top 65
abbrev Ik:AD:=top 67
abbrev Il:AD:=top 68
abbrev IE:AD:=top 82
abbrev GS:AD:=top 89
abbrev s_m:AD:=BS (top 31) 1
abbrev IL:AD:=BS (top 59) 3
abbrev IP:AD:=BS (top 69) 1
abbrev s_y:AD:=BS (top 69) 5
abbrev IT:AD:=BS (top 77) 1
abbrev Ib:AD:=BS (top 77) 6
abbrev Ia:AD:=top 22
abbrev GW:AD:=top 39
abbrev Iz:AD:=top 45
abbrev s_r:AD:=top 66
abbrev s_u:AD:=top 83
abbrev Io:AD:=top 86
abbrev s_g:AD:=BS (top 31) 2
abbrev s_k:AD:=BS (top 57) 0
abbrev Iv:AD:=BS (top 59) 0
abbrev IQ:AD:=BS (top 69) 2
abbrev IS:AD:=BS (top 77) 5
abbrev GQ:AD:=top 41
abbrev s_p:AD:=top 90
abbrev IM:AD:=BS (top 59) 4
abbrev s_x:AD:=BS (top 59) 6
abbrev s_z:AD:=BS (top 69) 0
abbrev IR:AD:=BS (top 69) 3
abbrev H_:AD:=top 46
abbrev s_w:AD:=BS (top 59) 7
abbrev GR:AD:=BS (top 69) 4
abbrev GT:AD:=BS (top 59) 2
abbrev GU:AD:=BS (top 69) 6
abbrev s_t:AD:=top 84
abbrev IN:AD:=BS (top 69) 7
abbrev IU:AD:=BS (top 57) 4
abbrev s_n:AD:=BS (top 31) 3
abbrev s_h:AD:=BS (top 31) 0
abbrev Ig:AD:=BS (top 31) 6
abbrev s_q:AD:=top 91
abbrev s_e:AD:=top 92
local macro_rules | `(tactic| ac_nf)=>`(tactic| exact ⟨rfl,rfl,rfl,by decide +kernel,rfl,by decide +kernel,by decide +kernel⟩)
theorem sc_ag:AT ["thing"] ["thing"] (Aq Im):=by ac_nf
theorem sc_s:AT ["one","other","great","small","rest"] ["one","other"] (Aq s_s):=by ac_nf
theorem sc_bi:AT ["top","bottom"] ["top","bottom"] (Aq II):=by ac_nf
theorem sc_al:AT ["lines","numbers","slip","number"] ["lines"] (Aq Iq):=by ac_nf
theorem sc_a4:AT ["numbers"] ["numbers"] (Aq GP):=by ac_nf
theorem sc_ay:AT ["sheet"] ["sheet"] (Aq GX):=by ac_nf
theorem sc_bf:AT ["number","many","left","order","rest","place"] ["number","many"] (Aq IF):=by ac_nf
theorem sc_bk:AT ["mask","hand"] ["mask","hand"] (Aq IK):=by ac_nf
theorem sc_v:AT ["mask"] ["mask"] (Aq s_v):=by ac_nf
theorem sc_am:AT ["codes","plain","by_place","by_square","place","code"] ["codes"] (Aq Ir):=by ac_nf
theorem sc_bg:AT ["lacks","many","place"] ["lacks","many"] (Aq IG):=by ac_nf
theorem sc_bh:AT ["one","other"] ["one","other"] (Aq IH):=by ac_nf
theorem sc_bc:AT ["_law_script","_law_k"] ["_law_script","_law_k"] (Aq IC):=by ac_nf
theorem sc_bd:AT ["_law_cell_here","_law_by","_law_number"] ["_law_cell_here","_law_by"] (Aq ID):=by ac_nf
theorem sc_ak:AT ["_law_found_here"] ["_law_found_here"] (Aq Ip):=by ac_nf
theorem sc_o:AT ["_law_bundles_here","_law_many","_law_lines","_law_slip_here","_law_number"] ["_law_bundles_here"] (Aq s_o):=by ac_nf
theorem sc_a1:AT ["_law_number","_law_many","_law_left","_law_order_here","_law_k"] ["_law_number","_law_many"] (Aq HZ):=by ac_nf
theorem sc_ah:AT ["_law_bundles_here"] ["_law_bundles_here"] (Aq Go):=by ac_nf
theorem sc_j:AT ["self"] ["self"] (Aq s_j):=by ac_nf
theorem sc_i:AT ["self"] ["self"] (Aq s_i):=by ac_nf
theorem sc_f:AT ["self"] ["self"] (Aq s_f):=by ac_nf
theorem sc_ar:AT ["self","paper","given"] ["self","paper"] (Aq Gp):=by ac_nf
theorem sc_au:AT ["self","way"] ["self","way"] (Aq Iw):=by ac_nf
theorem sc_av:AT ["self","sheet"] ["self","sheet"] (Aq Iy):=by ac_nf
theorem sc_ba:AT ["thing"] ["thing"] (Aq IA):=by ac_nf
theorem sc_a0:AT ["sheets","lines","sheet"] ["sheets"] (Aq HY):=by ac_nf
theorem sc_aw:AT ["one","other","others"] ["one","other"] (Aq GV):=by ac_nf
theorem sc_bb:AT ["thing"] ["thing"] (Aq IB):=by ac_nf
theorem sc_an:AT ["ranks","wanted","tier","hand","rank"] ["ranks","wanted"] (Aq Iu):=by ac_nf
theorem sc_l:AT ["slip","hands","ranks","place","tier","hand"] ["slip","hands"] (Aq s_l):=by ac_nf
theorem sc_a3:AT ["codes","seal","own","place","right"] ["codes","seal"] (Aq GO):=by ac_nf
theorem sc_ab:AT ["thing"] ["thing"] (Aq Ih):=by ac_nf
theorem sc_ad:AT ["thing"] ["thing"] (Aq Ij):=by ac_nf
theorem sc_ac:AT ["thing","hands"] ["thing","hands"] (Aq Ii):=by ac_nf
theorem sc_a9:AT ["top","bottom","common"] ["top","bottom"] (Aq Ie):=by ac_nf
theorem sc_bj:AT ["slip","first"] ["slip"] (Aq IJ):=by ac_nf
theorem sc_ae:AT ["thing"] ["thing"] (Aq Ik):=by ac_nf
theorem sc_af:AT ["thing"] ["thing"] (Aq Il):=by ac_nf
theorem sc_be:AT ["_law_cell_here","_law_hands","_law_number","_law_first","_law_second"] ["_law_cell_here","_law_hands"] (Aq IE):=by ac_nf
theorem sc_aj:AT ["_law_found_here","_law_due","_law_line"] ["_law_found_here","_law_due"] (Aq GS):=by ac_nf
theorem sc_m:AT ["self"] ["self"] (Aq s_m):=by ac_nf
theorem sc_bl:AT ["self","k"] ["self","k"] (Aq IL):=by ac_nf
theorem sc_bo:AT ["self","ballots"] ["self","ballots"] (Aq IP):=by ac_nf
theorem sc_y:AT ["self","marks","by_lots","best","hand"] ["self","marks"] (Aq s_y):=by ac_nf
theorem sc_bs:AT ["self","sheet"] ["self","sheet"] (Aq IT):=by ac_nf
theorem sc_a8:AT ["self","sheet","hard"] ["self","sheet"] (Aq Ib):=by ac_nf
theorem sc_a5:AT ["lines","line"] ["lines"] (Aq Ia):=by ac_nf
theorem sc_ax:AT ["thing","hands"] ["thing","hands"] (Aq GW):=by ac_nf
theorem sc_az:AT ["line","hands","code","rank"] ["line","hands"] (Aq Iz):=by ac_nf
theorem sc_r:AT ["sheet","hands","votes","slip","number","hand","place"] ["sheet","hands"] (Aq s_r):=by ac_nf
theorem sc_u:AT ["_law_script","_law_hands","_law_drawn","_law_bundles_here","_law_k","_law_cell_here","_law_number"] ["_law_script","_law_hands"] (Aq s_u):=by ac_nf
theorem sc_ai:AT ["_law_lines","_law_cell_here","_law_hands","_law_number","_law_found_here","_law_at","_law_slip_here","_law_many","_law_moved"] ["_law_lines","_law_cell_here","_law_hands"] (Aq Io):=by ac_nf
theorem sc_g:AT ["self"] ["self"] (Aq s_g):=by ac_nf
theorem sc_k:AT ["self","hands","seats","lots"] ["self","hands","seats","lots"] (Aq s_k):=by ac_nf
theorem sc_ao:AT ["self","hands"] ["self","hands"] (Aq Iv):=by ac_nf
theorem sc_bp:AT ["self","many","had"] ["self","many","had"] (Aq IQ):=by ac_nf
theorem sc_br:AT ["self","seen","unseen","known"] ["self","seen","unseen","known"] (Aq IS):=by ac_nf
theorem sc_a6:AT ["ranks","hands"] ["ranks","hands"] (Aq GQ):=by ac_nf
theorem sc_p:AT ["_law_look","_law_bundles_here","_law_order_here","_law_at","_law_left","_law_due","_law_told"] ["_law_look","_law_bundles_here","_law_order_here","_law_at"] (Aq s_p):=by ac_nf
theorem sc_bm:AT ["self","k"] ["self","k"] (Aq IM):=by ac_nf
theorem sc_x:AT ["self"] ["self"] (Aq s_x):=by ac_nf
theorem sc_z:AT ["self","hands","seats","lots","hurdle","step"] ["self","hands","seats","lots","hurdle","step"] (Aq s_z):=by ac_nf
theorem sc_bq:AT ["self","many","least","had"] ["self","many","least","had"] (Aq IR):=by ac_nf
theorem sc_a2:AT ["code","hands","backwards","rest","hand","ranks","slip"] ["code","hands"] (Aq H_):=by ac_nf
theorem sc_w:AT ["self","k","lines","old","new"] ["self","k","lines"] (Aq s_w):=by ac_nf
theorem sc_a7:AT ["self","votes","least","had"] ["self","votes","least","had"] (Aq GR):=by ac_nf
theorem sc_ap:AT ["self","codes","seal","told","lines"] ["self","codes","seal"] (Aq GT):=by ac_nf
theorem sc_aq:AT ["self","votes","least","rounds","had","marks","hand"] ["self","votes","least"] (Aq GU):=by ac_nf
theorem sc_t:AT ["_law_bundles_here","_law_hands","_law_box_here","_law_lines","_law_codes"] ["_law_bundles_here","_law_hands"] (Aq s_t):=by ac_nf
theorem sc_bn:AT ["self","sheet","votes","least"] ["self","sheet"] (Aq IN):=by ac_nf
theorem sc_bu:AT ["self","sheet"] ["self","sheet"] (Aq IU):=by ac_nf
theorem sc_n:AT ["self","seen"] ["self"] (Aq s_n):=by ac_nf
theorem sc_h:AT ["self","margin","box","number"] ["self","margin","box","number"] (Aq s_h):=by ac_nf
theorem sc_aa:AT ["self","lines","sheet","wanted"] ["self","lines"] (Aq Ig):=by ac_nf
theorem sc_q:AT ["_law_look","_law_bundles_here","_law_order_here","_law_steps","_law_cell_here","_law_hands","_law_at","_law_k","_law_lines","_law_handed"] ["_law_look","_law_bundles_here","_law_order_here","_law_steps","_law_cell_here","_law_hands"] (Aq s_q):=by ac_nf
theorem sc_e:AT ["_law_script","_law_hands","_law_bundles_here","_law_box_here","_law_margin","_law_numbers","_law_orders","_law_looks","_law_held","_law_kept","_law_cell_here","_law_steps","_law_found_here","_law_k","_law_many","_law_empty","_law_line","_law_now","_law_third"] ["_law_script"] (Aq s_e):=by ac_nf
structure Ads where
 f_ag:Ad
 d_ag:AE
 f_s:Ad
 d_s:AE
 f_bi:Ad
 d_bi:AE
 f_al:Ad
 d_al:AE
 f_a4:Ad
 d_a4:AE
 f_ay:Ad
 d_ay:AE
 f_bf:Ad
 d_bf:AE
 f_bk:Ad
 d_bk:AE
 f_v:Ad
 d_v:AE
 f_am:Ad
 d_am:AE
 f_bg:Ad
 d_bg:AE
 f_bh:Ad
 d_bh:AE
 f_bc:Ad
 d_bc:AE
 f_bd:Ad
 d_bd:AE
 f_ak:Ad
 d_ak:AE
 f_o:Ad
 d_o:AE
 f_a1:Ad
 d_a1:AE
 f_ah:Ad
 d_ah:AE
 f_j:Ad
 d_j:AE
 f_i:Ad
 d_i:AE
 f_f:Ad
 d_f:AE
 f_ar:Ad
 d_ar:AE
 f_au:Ad
 d_au:AE
 f_av:Ad
 d_av:AE
 f_ba:Ad
 d_ba:AE
 f_a0:Ad
 d_a0:AE
 f_aw:Ad
 d_aw:AE
 f_bb:Ad
 d_bb:AE
 f_an:Ad
 d_an:AE
 f_l:Ad
 d_l:AE
 f_a3:Ad
 d_a3:AE
 f_ab:Ad
 d_ab:AE
 f_ad:Ad
 d_ad:AE
 f_ac:Ad
 d_ac:AE
 f_a9:Ad
 d_a9:AE
 f_bj:Ad
 d_bj:AE
 f_ae:Ad
 d_ae:AE
 f_af:Ad
 d_af:AE
 f_be:Ad
 d_be:AE
 f_aj:Ad
 d_aj:AE
 f_m:Ad
 d_m:AE
 f_bl:Ad
 d_bl:AE
 f_bo:Ad
 d_bo:AE
 f_y:Ad
 d_y:AE
 f_bs:Ad
 d_bs:AE
 f_a8:Ad
 d_a8:AE
 f_a5:Ad
 d_a5:AE
 f_ax:Ad
 d_ax:AE
 f_az:Ad
 d_az:AE
 f_r:Ad
 d_r:AE
 f_u:Ad
 d_u:AE
 f_ai:Ad
 d_ai:AE
 f_g:Ad
 d_g:AE
 f_k:Ad
 d_k:AE
 f_ao:Ad
 d_ao:AE
 f_bp:Ad
 d_bp:AE
 f_br:Ad
 d_br:AE
 f_a6:Ad
 d_a6:AE
 f_p:Ad
 d_p:AE
 f_bm:Ad
 d_bm:AE
 f_x:Ad
 d_x:AE
 f_z:Ad
 d_z:AE
 f_bq:Ad
 d_bq:AE
 f_a2:Ad
 d_a2:AE
 f_w:Ad
 d_w:AE
 f_a7:Ad
 d_a7:AE
 f_ap:Ad
 d_ap:AE
 f_aq:Ad
 d_aq:AE
 f_t:Ad
 d_t:AE
 f_bn:Ad
 d_bn:AE
 f_bu:Ad
 d_bu:AE
 f_n:Ad
 d_n:AE
 f_h:Ad
 d_h:AE
 f_aa:Ad
 d_aa:AE
 f_q:Ad
 d_q:AE
 f_e:Ad
 d_e:AE
 c_b0:Ad
 c_c:Ad
 c_b:Ad
 c_bt:Ad
 c_a:Ad
 c_d:Ad
 t_MOST_BALLOTS:BX
 t_MOST_RANK:BX
 t_MOST_HANDS:BX
 t_MOST_SEATS:BX
 t_MOST_STEP:BX
 t_BASE:BX
 td_Lists_init2:BX
structure Tx (K:A6) (mg:Ak->Ay Ah) (a:Ads):Prop where
 F_ag:Fun K "is_whole" "is_whole" Im a.f_ag a.d_ag
 b_ag:AI K a.d_ag ["thing"] []
 m_ag:mg "is_whole"=Aa (.ref a.f_ag)
 F_s:Fun K "divisor" "divisor" s_s a.f_s a.d_s
 b_s:AI K a.d_s ["one","other"] []
 m_s:mg "divisor"=Aa (.ref a.f_s)
 F_bi:Fun K "up" "up" II a.f_bi a.d_bi
 b_bi:AI K a.d_bi ["top","bottom"] []
 m_bi:mg "up"=Aa (.ref a.f_bi)
 F_al:Fun K "numbers_by_slip" "numbers_by_slip" Iq a.f_al a.d_al
 b_al:AI K a.d_al ["lines"] []
 m_al:mg "numbers_by_slip"=Aa (.ref a.f_al)
 F_a4:Fun K "sheet_from" "sheet_from" GP a.f_a4 a.d_a4
 b_a4:AI K a.d_a4 ["numbers"] []
 m_a4:mg "sheet_from"=Aa (.ref a.f_a4)
 F_ay:Fun K "ballots_in" "ballots_in" GX a.f_ay a.d_ay
 b_ay:AI K a.d_ay ["sheet"] []
 m_ay:mg "ballots_in"=Aa (.ref a.f_ay)
 F_bf:Fun K "order_of" "order_of" IF a.f_bf a.d_bf
 b_bf:AI K a.d_bf ["number","many"] []
 m_bf:mg "order_of"=Aa (.ref a.f_bf)
 F_bk:Fun K "with_one" "with_one" IK a.f_bk a.d_bk
 b_bk:AI K a.d_bk ["mask","hand"] []
 m_bk:mg "with_one"=Aa (.ref a.f_bk)
 F_v:Fun K "members" "members" s_v a.f_v a.d_v
 b_v:AI K a.d_v ["mask"] []
 m_v:mg "members"=Aa (.ref a.f_v)
 F_am:Fun K "seal_of" "seal_of" Ir a.f_am a.d_am
 b_am:AI K a.d_am ["codes"] []
 m_am:mg "seal_of"=Aa (.ref a.f_am)
 F_bg:Fun K "place_of" "place_of" IG a.f_bg a.d_bg
 b_bg:AI K a.d_bg ["lacks","many"] []
 m_bg:mg "place_of"=Aa (.ref a.f_bg)
 F_bh:Fun K "under" "under" IH a.f_bh a.d_bh
 b_bh:AI K a.d_bh ["one","other"] []
 m_bh:mg "under"=Aa (.ref a.f_bh)
 F_bc:Fun K "_law_cell" "_law_cell" IC a.f_bc a.d_bc
 b_bc:AI K a.d_bc ["_law_script","_law_k"] []
 m_bc:mg "_law_cell"=Aa (.ref a.f_bc)
 F_bd:Fun K "_law_mixed" "_law_mixed" ID a.f_bd a.d_bd
 b_bd:AI K a.d_bd ["_law_cell_here","_law_by"] []
 m_bd:mg "_law_mixed"=Aa (.ref a.f_bd)
 F_ak:Fun K "_law_whole" "_law_whole" Ip a.f_ak a.d_ak
 b_ak:AI K a.d_ak ["_law_found_here"] []
 m_ak:mg "_law_whole"=Aa (.ref a.f_ak)
 F_o:Fun K "_law_sheet" "_law_sheet" s_o a.f_o a.d_o
 b_o:AI K a.d_o ["_law_bundles_here"] []
 m_o:mg "_law_sheet"=Aa (.ref a.f_o)
 F_a1:Fun K "_law_order" "_law_order" HZ a.f_a1 a.d_a1
 b_a1:AI K a.d_a1 ["_law_number","_law_many"] []
 m_a1:mg "_law_order"=Aa (.ref a.f_a1)
 F_ah:Fun K "_law_count" "_law_count" Go a.f_ah a.d_ah
 b_ah:AI K a.d_ah ["_law_bundles_here"] []
 m_ah:mg "_law_count"=Aa (.ref a.f_ah)
 F_j:Fun K "word" "Look.word" s_j a.f_j a.d_j
 b_j:AI K a.d_j ["self"] []
 F_i:Fun K "due" "Look.due" s_i a.f_i a.d_i
 b_i:AI K a.d_i ["self"] []
 F_f:Fun K "many" "Box.many" s_f a.f_f a.d_f
 b_f:AI K a.d_f ["self"] []
 F_ar:Fun K "told_by" "Lists.told_by" Gp a.f_ar a.d_ar
 b_ar:AI K a.d_ar ["self","paper"] []
 F_au:Fun K "__init__" "Margin.__init__" Iw a.f_au a.d_au
 b_au:AI K a.d_au ["self","way"] []
 F_av:Fun K "least" "Margin.least" Iy a.f_av a.d_av
 b_av:AI K a.d_av ["self","sheet"] []
 F_ba:Fun K "is_number" "is_number" IA a.f_ba a.d_ba
 b_ba:AI K a.d_ba ["thing"] []
 m_ba:mg "is_number"=Aa (.ref a.f_ba)
 F_a0:Fun K "joined" "joined" HY a.f_a0 a.d_a0
 b_a0:AI K a.d_a0 ["sheets"] []
 m_a0:mg "joined"=Aa (.ref a.f_a0)
 F_aw:Fun K "apart" "apart" GV a.f_aw a.d_aw
 b_aw:AI K a.d_aw ["one","other"] []
 m_aw:mg "apart"=Aa (.ref a.f_aw)
 F_bb:Fun K "is_rank" "is_rank" IB a.f_bb a.d_bb
 b_bb:AI K a.d_bb ["thing"] []
 m_bb:mg "is_rank"=Aa (.ref a.f_bb)
 F_an:Fun K "tier_at" "tier_at" Iu a.f_an a.d_an
 b_an:AI K a.d_an ["ranks","wanted"] []
 m_an:mg "tier_at"=Aa (.ref a.f_an)
 F_l:Fun K "ranks_of" "ranks_of" s_l a.f_l a.d_l
 b_l:AI K a.d_l ["slip","hands"] []
 m_l:mg "ranks_of"=Aa (.ref a.f_l)
 F_a3:Fun K "mended" "mended" GO a.f_a3 a.d_a3
 b_a3:AI K a.d_a3 ["codes","seal"] []
 m_a3:mg "mended"=Aa (.ref a.f_a3)
 F_ab:Fun K "are_hands" "are_hands" Ih a.f_ab a.d_ab
 b_ab:AI K a.d_ab ["thing"] []
 m_ab:mg "are_hands"=Aa (.ref a.f_ab)
 F_ad:Fun K "are_seats" "are_seats" Ij a.f_ad a.d_ad
 b_ad:AI K a.d_ad ["thing"] []
 m_ad:mg "are_seats"=Aa (.ref a.f_ad)
 F_ac:Fun K "are_lots" "are_lots" Ii a.f_ac a.d_ac
 b_ac:AI K a.d_ac ["thing","hands"] []
 m_ac:mg "are_lots"=Aa (.ref a.f_ac)
 F_a9:Fun K "fraction" "fraction" Ie a.f_a9 a.d_a9
 b_a9:AI K a.d_a9 ["top","bottom"] []
 m_a9:mg "fraction"=Aa (.ref a.f_a9)
 F_bj:Fun K "vote_of" "vote_of" IJ a.f_bj a.d_bj
 b_bj:AI K a.d_bj ["slip"] []
 m_bj:mg "vote_of"=Aa (.ref a.f_bj)
 F_ae:Fun K "is_hurdle" "is_hurdle" Ik a.f_ae a.d_ae
 b_ae:AI K a.d_ae ["thing"] []
 m_ae:mg "is_hurdle"=Aa (.ref a.f_ae)
 F_af:Fun K "is_step" "is_step" Il a.f_af a.d_af
 b_af:AI K a.d_af ["thing"] []
 m_af:mg "is_step"=Aa (.ref a.f_af)
 F_be:Fun K "_law_slip" "_law_slip" IE a.f_be a.d_be
 b_be:AI K a.d_be ["_law_cell_here","_law_hands"] []
 m_be:mg "_law_slip"=Aa (.ref a.f_be)
 F_aj:Fun K "_law_same" "_law_same" GS a.f_aj a.d_aj
 b_aj:AI K a.d_aj ["_law_found_here","_law_due"] []
 m_aj:mg "_law_same"=Aa (.ref a.f_aj)
 F_m:Fun K "unlooked" "Look.unlooked" s_m a.f_m a.d_m
 b_m:AI K a.d_m ["self"] []
 F_bl:Fun K "lines_at" "Box.lines_at" IL a.f_bl a.d_bl
 b_bl:AI K a.d_bl ["self","k"] []
 F_bo:Fun K "least_votes" "Lists.least_votes" IP a.f_bo a.d_bo
 b_bo:AI K a.d_bo ["self","ballots"] []
 F_y:Fun K "greatest_mark" "Lists.greatest_mark" s_y a.f_y a.d_y
 b_y:AI K a.d_y ["self","marks"] []
 F_bs:Fun K "possible" "Margin.possible" IT a.f_bs a.d_bs
 b_bs:AI K a.d_bs ["self","sheet"] []
 F_a8:Fun K "sure_low" "Margin.sure_low" Ib a.f_a8 a.d_a8
 b_a8:AI K a.d_a8 ["self","sheet"] []
 F_a5:Fun K "sheet_of" "sheet_of" Ia a.f_a5 a.d_a5
 b_a5:AI K a.d_a5 ["lines"] []
 m_a5:mg "sheet_of"=Aa (.ref a.f_a5)
 F_ax:Fun K "are_ranks" "are_ranks" GW a.f_ax a.d_ax
 b_ax:AI K a.d_ax ["thing","hands"] []
 m_ax:mg "are_ranks"=Aa (.ref a.f_ax)
 F_az:Fun K "code_of" "code_of" Iz a.f_az a.d_az
 b_az:AI K a.d_az ["line","hands"] []
 m_az:mg "code_of"=Aa (.ref a.f_az)
 F_r:Fun K "votes_of" "votes_of" s_r a.f_r a.d_r
 b_r:AI K a.d_r ["sheet","hands"] []
 m_r:mg "votes_of"=Aa (.ref a.f_r)
 F_u:Fun K "_law_bundles" "_law_bundles" s_u a.f_u a.d_u
 b_u:AI K a.d_u ["_law_script","_law_hands"] []
 m_u:mg "_law_bundles"=Aa (.ref a.f_u)
 F_ai:Fun K "_law_found" "_law_found" Io a.f_ai a.d_ai
 b_ai:AI K a.d_ai ["_law_lines","_law_cell_here","_law_hands"] []
 m_ai:mg "_law_found"=Aa (.ref a.f_ai)
 F_g:Fun K "known" "Look.known" s_g a.f_g a.d_g
 b_g:AI K a.d_g ["self"] []
 F_k:JF K "__init__" "Way.__init__" s_k a.f_k a.d_k
 b_k:AI K a.d_k ["self","hands","seats","lots"] []
 F_ao:Fun K "__init__" "Box.__init__" Iv a.f_ao a.d_ao
 b_ao:AI K a.d_ao ["self","hands"] []
 F_bp:Fun K "mark" "Lists.mark" IQ a.f_bp a.d_bp
 b_bp:AI K a.d_bp ["self","many","had"] []
 F_br:Fun K "held" "Margin.held" IS a.f_br a.d_br
 b_br:AI K a.d_br ["self","seen","unseen","known"] []
 F_a6:Fun K "slip_of" "slip_of" GQ a.f_a6 a.d_a6
 b_a6:AI K a.d_a6 ["ranks","hands"] []
 m_a6:mg "slip_of"=Aa (.ref a.f_a6)
 F_p:Fun K "_law_stands" "_law_stands" s_p a.f_p a.d_p
 b_p:AI K a.d_p ["_law_look","_law_bundles_here","_law_order_here","_law_at"] []
 m_p:mg "_law_stands"=Aa (.ref a.f_p)
 F_bm:Fun K "sheet_at" "Box.sheet_at" IM a.f_bm a.d_bm
 b_bm:AI K a.d_bm ["self","k"] []
 F_x:Fun K "sheet" "Box.sheet" s_x a.f_x a.d_x
 b_x:AI K a.d_x ["self"] []
 F_z:JF K "__init__" "Lists.__init__" s_z a.f_z a.d_z
 b3_Lists_init:AI K a.d_z ["self","hands","seats","lots","hurdle","step"] [.none,.none,.int (1) a.td_Lists_init2]
 F_bq:Fun K "mark_or_none" "Lists.mark_or_none" IR a.f_bq a.d_bq
 b_bq:AI K a.d_bq ["self","many","least","had"] []
 F_a2:Fun K "line_of" "line_of" H_ a.f_a2 a.d_a2
 b_a2:AI K a.d_a2 ["code","hands"] []
 m_a2:mg "line_of"=Aa (.ref a.f_a2)
 F_w:Fun K "put_right" "Box.put_right" s_w a.f_w a.d_w
 b_w:AI K a.d_w ["self","k","lines"] []
 F_a7:Fun K "marks_of" "Lists.marks_of" GR a.f_a7 a.d_a7
 b_a7:AI K a.d_a7 ["self","votes","least","had"] []
 F_ap:Fun K "take" "Box.take" GT a.f_ap a.d_ap
 b_ap:AI K a.d_ap ["self","codes","seal"] []
 F_aq:Fun K "rounds_of" "Lists.rounds_of" GU a.f_aq a.d_aq
 b_aq:AI K a.d_aq ["self","votes","least"] []
 F_t:Fun K "_law_box" "_law_box" s_t a.f_t a.d_t
 b_t:AI K a.d_t ["_law_bundles_here","_law_hands"] []
 m_t:mg "_law_box"=Aa (.ref a.f_t)
 F_bn:Fun K "counted" "Lists.counted" IN a.f_bn a.d_bn
 b_bn:AI K a.d_bn ["self","sheet"] []
 F_bu:Fun K "outcome" "Way.outcome" IU a.f_bu a.d_bu
 b_bu:AI K a.d_bu ["self","sheet"] []
 F_n:Fun K "word_now" "Look.word_now" s_n a.f_n a.d_n
 b_n:AI K a.d_n ["self"] []
 F_h:Fun K "__init__" "Look.__init__" s_h a.f_h a.d_h
 b_h:AI K a.d_h ["self","margin","box","number"] []
 F_aa:Fun K "found" "Look.found" Ig a.f_aa a.d_aa
 b_aa:AI K a.d_aa ["self","lines"] []
 F_q:Fun K "_law_walked" "_law_walked" s_q a.f_q a.d_q
 b_q:AI K a.d_q ["_law_look","_law_bundles_here","_law_order_here","_law_steps","_law_cell_here","_law_hands"] []
 m_q:mg "_law_walked"=Aa (.ref a.f_q)
 F_e:Fun K "law" "law" s_e a.f_e a.d_e
 b_e:AI K a.d_e ["_law_script"] []
 m_e:mg "law"=Aa (.ref a.f_e)
 z_cp:mg "abs"=Ag
 z_c0:mg "all"=Ag
 z_cq:mg "bool"=Ag
 z_ck:mg "enumerate"=Ag
 z_cr:mg "int"=Ag
 z_b6:mg "isinstance"=Ag
 z_bw:mg "len"=Ag
 z_bx:mg "list"=Ag
 z_ch:mg "max"=Ag
 z_c2:mg "min"=Ag
 z_bz:mg "range"=Ag
 z_cs:mg "reversed"=Ag
 z_cl:mg "set"=Ag
 z_cm:mg "sorted"=Ag
 z_ce:mg "sum"=Ag
 z_cn:mg "tuple"=Ag
 k_cv:mg "MOST_BALLOTS"=Aa (.int 1000000000 a.t_MOST_BALLOTS)
 k_cx:mg "MOST_RANK"=Aa (.int 1000000000 a.t_MOST_RANK)
 k_cw:mg "MOST_HANDS"=Aa (.int 12 a.t_MOST_HANDS)
 k_cy:mg "MOST_SEATS"=Aa (.int 60 a.t_MOST_SEATS)
 k_cz:mg "MOST_STEP"=Aa (.int 9 a.t_MOST_STEP)
 k_ci:mg "BASE"=Aa (.int 13 a.t_BASE)
 m_b0:mg "TooHard"=Aa (.ref a.c_b0)
 h_b0:JG K a.c_b0
 m_c:mg "Box"=Aa (.ref a.c_c)
 cl_c:Cls K a.c_c
 mk_c:Mk K a.c_c a.f_ao
 me_c_cg:Cb K a.c_c "many" a.f_f
 me_c_dl:Cb K a.c_c "take" a.f_ap
 me_c_db:Cb K a.c_c "lines_at" a.f_bl
 me_c_dj:Cb K a.c_c "sheet_at" a.f_bm
 me_c_c4:Cb K a.c_c "sheet" a.f_x
 me_c_dh:Cb K a.c_c "put_right" a.f_w
 na_c_bv:BG K a.c_c "hands"
 na_c_b1:BG K a.c_c "bundles"
 m_b:mg "Lists"=Aa (.ref a.c_b)
 cl_b:Cls K a.c_b
 mk_b:Mk K a.c_b a.f_z
 me_b_da:Cb K a.c_b "least_votes" a.f_bo
 me_b_dc:Cb K a.c_b "mark" a.f_bp
 me_b_dd:Cb K a.c_b "mark_or_none" a.f_bq
 me_b_de:Cb K a.c_b "marks_of" a.f_a7
 me_b_c7:Cb K a.c_b "greatest_mark" a.f_y
 me_b_di:Cb K a.c_b "rounds_of" a.f_aq
 me_b_c5:Cb K a.c_b "counted" a.f_bn
 me_b_dm:Cb K a.c_b "told_by" a.f_ar
 me_b_df:Cb K a.c_b "outcome" a.f_bu
 na_b_bv:BG K a.c_b "hands"
 na_b_ca:BG K a.c_b "seats"
 na_b_cc:BG K a.c_b "lots"
 na_b_b8:BG K a.c_b "hurdle"
 na_b_cd:BG K a.c_b "step"
 m_bt:mg "Way"=Aa (.ref a.c_bt)
 cl_bt:Cls K a.c_bt
 cf_bt_c1:CFn K a.c_bt "__init__" a.f_k
 m_a:mg "Look"=Aa (.ref a.c_a)
 cl_a:Cls K a.c_a
 mk_a:Mk K a.c_a a.f_h
 me_a_ct:Cb K a.c_a "unlooked" a.f_m
 me_a_cf:Cb K a.c_a "known" a.f_g
 me_a_cu:Cb K a.c_a "word_now" a.f_n
 me_a_co:Cb K a.c_a "word" a.f_j
 me_a_cj:Cb K a.c_a "due" a.f_i
 me_a_c6:Cb K a.c_a "found" a.f_aa
 na_a_b9:BG K a.c_a "margin"
 na_a_b4:BG K a.c_a "sheets"
 na_a_b7:BG K a.c_a "order"
 na_a_b2:BG K a.c_a "looked"
 na_a_cb:BG K a.c_a "first"
 na_a_b3:BG K a.c_a "said"
 m_d:mg "Margin"=Aa (.ref a.c_d)
 cl_d:Cls K a.c_d
 mk_d:Mk K a.c_d a.f_au
 me_d_dg:Cb K a.c_d "possible" a.f_bs
 me_d_c9:Cb K a.c_d "least" a.f_av
 me_d_c8:Cb K a.c_d "held" a.f_br
 me_d_dk:Cb K a.c_d "sure_low" a.f_a8
 na_d_b5:BG K a.c_d "way"
local macro_rules | `(tactic| trivial)=>`(tactic| refine Sz.neg (by trivial))
local macro_rules | `(tactic| trivial)=>`(tactic| refine Sz.fdiv (by trivial))
local macro_rules | `(tactic| trivial)=>`(tactic| refine Sz.sub (by trivial) (by trivial))
local macro_rules | `(tactic| trivial)=>`(tactic| refine Sz.add (by trivial) (by trivial))
local macro_rules | `(tactic| trivial)=>`(tactic| refine Sz.mul (by trivial) (by trivial))
local macro_rules | `(tactic| trivial)=>`(tactic| exact AaB _ (by first | decide | decide +kernel) (szd 200))
local macro_rules | `(tactic| trivial)=>`(tactic| first | assumption | exact szd 64 | exact szd 200 | exact szd 1000)
local macro_rules | `(tactic| and_intros)=>`(tactic| (repeat (first | refine ⟨_,rfl,?_⟩ | refine ⟨_,_,rfl,rfl,?_⟩ | refine ⟨rfl,?_⟩ | refine ⟨(by show (_:Ac)≠0;first | decide | decide +kernel),?_⟩ | refine ⟨⟨(by show (_:Ac)≠0;decide),szd 9000⟩,?_⟩ | refine ⟨(by show F' _ _;exact ⟨by decide,by decide,by decide⟩),?_⟩ | refine ⟨(by show KR _ _;refine ⟨_,_,(by trivial),(by trivial),?_⟩;decide +kernel),?_⟩ | refine ⟨_,_,_,_,rfl,rfl,SqL.of (by assumption),(by rfl),?_⟩ | refine ⟨_,_,_,_,rfl,rfl,SqT.of (by assumption),(by rfl),?_⟩ | refine ⟨_,_,rfl,.inl (SqL.of (by assumption)),?_⟩ | refine ⟨_,_,rfl,.inr (SqT.of (by assumption)),?_⟩)))
local macro_rules | `(tactic| subst_eqs)=>`(tactic| (repeat (first | with_reducible refine Z_ fun _ _=>?_ | refine ⟨_,rfl,?_⟩ | refine ⟨_,_,rfl,rfl,?_⟩ | refine ⟨rfl,?_⟩ | refine ⟨(by show (_:Ac)≠0;first | decide | decide +kernel),?_⟩ | refine ⟨⟨(by show (_:Ac)≠0;decide),szd 9000⟩,?_⟩ | refine ⟨(by show F' _ _;exact ⟨by decide,by decide,by decide⟩),?_⟩ | refine ⟨(by show KR _ _;refine ⟨_,_,(by trivial),(by trivial),?_⟩;decide +kernel),?_⟩ | refine ⟨_,_,_,_,rfl,rfl,SqL.of (by assumption),(by rfl),?_⟩ | refine ⟨_,_,_,_,rfl,rfl,SqT.of (by assumption),(by rfl),?_⟩ | refine ⟨_,_,rfl,.inl (SqL.of (by assumption)),?_⟩ | refine ⟨_,_,rfl,.inr (SqT.of (by assumption)),?_⟩ | refine Abu (by assumption) ?_ | refine TY (by assumption) ?_)))
section
variable {P:AN} {w:AA} {K:A6} {mg:Ak->Ay Ah} {base:AC} {ad:Ads}
theorem ok_ag (T:Tx K mg ad):AG P w K mg base CX0 1 ad.f_ag ad.d_ag ["thing"] Tu:=by
 refine T.F_ag.ok sc_ag (fun vs H Q E h=>?_) (fun cdv A outer s H vs Q E hr h=>?_)
 ·obtain ⟨c,rfl,_⟩:=h
  rfl
 obtain ⟨c,rfl,q⟩:=h
 refine ⟨_,(~~~(@ES _ _ _ _ _ _ _ (@B2 _ _ _ _ _ _ _ _ _ Ge (by rfl) T.z_b6 G3 (@Aj _ _ _ _ _ (pv 0) (@Aj _ _ _ _ _ (Gg (v:=.ty "int") rfl T.z_cr Vp rfl) Am (by rfl)) (by rfl)) (by decide) (by decide) (by rfl) (by rfl)) (@EV _ _ _ _ _ (@Rv _ _ _ _ (@B2 _ _ _ _ _ _ _ _ _ Ge (by rfl) T.z_b6 G3 (@Aj _ _ _ _ _ (pv 0) (@Aj _ _ _ _ _ (Gg (v:=.ty "bool") rfl T.z_cq Vo rfl) Am (by rfl)) (by rfl)) (by decide) (by decide) (by rfl) (by rfl)))))),?_⟩
 refine ⟨_,rfl,_,_,_,_,rfl,C3.int c,QD,_,rfl,?_⟩
 refine No ?_
 exact ⟨_,rfl,_,_,_,_,rfl,C3.int c,QC,_,rfl,q⟩
theorem ok_s (T:Tx K mg ad):AG P w K mg base CX0 1 ad.f_s ad.d_s ["one","other"] Aay:=by
 refine T.F_s.ok sc_s (fun vs H Q E h=>?_) (fun cdv A outer s H vs Q E hr h=>?_)
 ·obtain ⟨a,b,rfl,_⟩:=h
  rfl
 obtain ⟨a,b,rfl,q⟩:=h
 have nd:=sc_s.nd
 refine ⟨_,(@Av _ _ _ _ _ (2<$>(@B2 _ _ _ _ _ _ _ _ _ PZ (by rfl) T.z_cp Vn (@Aj _ _ _ _ _ (pv 0) Am (by rfl)) (by decide) (by decide) (by rfl) (by rfl))) (@Av _ _ _ _ _ (3<$>(@B2 _ _ _ _ _ _ _ _ _ PZ (by rfl) T.z_cp Vn (@Aj _ _ _ _ _ (pv 1) Am (by rfl)) (by decide) (by decide) (by rfl) (by rfl))) (@Av _ _ _ _ _ (NJ CC (EO⊂((pv 3)∪Au)) (@Av _ _ _ _ _ (4<$>(@A9 _ _ _ _ _ _ _ _ Cn (pv 2) (pv 3))) (@Av _ _ _ _ _ (2<$>(pv 3)) (@Bl _ _ _ (3<$>(pv 4)))))) (~~~(pv 2))))),?_⟩
 refine ⟨_,rfl,_,rfl,?_⟩
 refine ⟨_,rfl,_,rfl,?_⟩
 refine Ab1 (fun σ' H'=>Ex3 fun (x y:Ac) (v:Ay V)=>σ'=[Aa (.int a),Aa (.int b),Aa (.int x),Aa (.int y),v]/\H'=H/\0<=x/\0<=y/\ED x y=ED a b) (fun σ' _=>match σ' with | [_,_,_,Aa (.int y),_]=>y.toNat | _=>0) ⟨_,_,_,rfl,rfl,?_,?_,Xf a b⟩ ?_ Ab2
 ·rw [KZ];omega
 ·rw [KZ];omega
 rintro σ1 H1 ⟨x,y,v,rfl,rfl,x0,y0,g⟩
 refine ⟨_,rfl,_,_,rfl,rfl,_,rfl,?_⟩
 refine Em (fun c=>?_) (fun c=>?_)
 ·have c':0 < y:=DD c
  have m:=CI x c'
  refine ⟨_,rfl,_,rfl,_,_,rfl,rfl,Ku c',?_⟩
  refine ⟨_,rfl,?_⟩
  refine ⟨_,rfl,?_⟩
  refine ⟨⟨y,x.fmod y,_,rfl,rfl,y0,m.1,(Xh x0 c').trans g⟩,?_⟩
  show (x.fmod y).toNat < y.toNat
  omega
 ·have c':¬ 0 < y:=fun e=>c (Be e)
  refine ⟨_,rfl,?_⟩
  have e:=Xg x0 y0 c'
  have e2:C5 x y=C5 a b:=by unfold C5;rw [g]
  rw [e,e2]
  exact q
theorem ok_bi (T:Tx K mg ad):AG P w K mg base CX0 1 ad.f_bi ad.d_bi ["top","bottom"] Tp:=by
 exists bi
 obtain ⟨t,b,rfl,h0,hz,q⟩:=h
 refine ⟨_,(~~~(@Lr _ _ _ _ _ _ Ly (@A9 _ _ _ _ _ _ _ _ CO (@Lr _ _ _ _ _ _ Ly (pv 0)) (pv 1)))),?_⟩
 exact ⟨_,rfl,_,rfl,_,rfl,_,_,rfl,rfl,⟨Ku h0,hz⟩,_,rfl,q⟩
theorem ok_al (T:Tx K mg ad):AG P w K mg base CX0 1 ad.f_al ad.d_al ["lines"] SQ:=by
 exists al
 obtain ⟨l,ls,p,rfl,hl,g,hp,p64,q⟩:=h
 refine ⟨_,(@Av _ _ _ _ _ (1<$>Rt) (@Av _ _ _ _ _ (CW CC rfl (B_ (pv 0)) (Fz rfl (CV (Ci (i:=2) sc_al.nd rfl (BW rfl)) (CV (Ci (i:=3) sc_al.nd rfl (BW rfl)) F0))) (@Bl _ _ _ (RB (u1 hr.units) (pv 1) (pv 2) (@A9 _ _ _ _ _ _ _ _ Ch (NC (u1 hr.units) (pv 1) (pv 2) Au ⟨rfl,rfl,rfl,rfl⟩) (pv 3)) rfl))) (~~~(pv 1)))),?_⟩
 intro d hd
 have s0:=A2 hd (.dT [])
 have e0:(upd H d (.dT [])) d=Aa (.dT []):=Ap
 generalize upd H d (.dT [])=H0 at s0 e0 ⊢
 refine ⟨_,rfl,l,rfl,⟨_,SqL.of (s0 _ _ hl)⟩,E4 (xs:=vls ls) (fun i σ' H'=>Ex3 fun (v2 v3:Ay V) (kvs:Ab (Ab Key × V))=>σ'=[Aa (.ref l),Aa (.ref d),v2,v3]/\Ax H H'/\H' d=Aa (.dT kvs)/\DictOf (An (ls.take i)) kvs) ⟨Ag,Ag,[],rfl,s0,e0,DictOf.nil⟩ (fun i σ' H' _ hq_=>by obtain ⟨_,_,_,_,e,_⟩:=hq_;exact SqL.of (e _ _ hl)) ?_ ?_⟩
 ·rintro i x σ' H' hx ⟨v2,v3,kvs,rfl,s1,e1,dk⟩
  obtain ⟨f,hf,rfl,fm,et⟩:=EZ hx
  obtain ⟨g1,g2⟩:=g f fm
  have sub:∀q∈An (ls.take i),q.1∈p:=fun q m=>by
   obtain ⟨r,rm,rfl⟩:=List.mem_map.mp m
   exact hp _ (List.mem_map.mpr ⟨r,G2 rm,rfl⟩)
  have lim:=dk.len sub
  have kt:H' f.2.1=Aa (.tup ((f.2.2.1.map BC:Ab Key).map kV)):=by rw [GF];exact s1 _ _ g2
  refine ⟨f.1,_,rfl,SqT.of (s1 _ _ g1),rfl,_,_,rfl,_,_,rfl,rfl,?_⟩
  refine ⟨_,rfl,d,rfl,.inr ⟨_,.inl e1⟩,_,rfl,_,Ei.t e1 kt,?_⟩
  rw [N4 dk]
  refine ⟨_,rfl,_,_,rfl,rfl,_,rfl,_,rfl,d,_,rfl,HC.t e1 kt (DJ (by omega)),?_⟩
  refine ⟨_,_,_,rfl,Bu s1 hd,Ap,?_⟩
  rw [et,Cq]
  exact dk.put f.2.2.1 f.2.2.2
 ·rintro σ' H' ⟨v2,v3,kvs,rfl,s1,e1,dk⟩
  rw [Cr,CJ (AB _)] at dk
  exact ⟨_,rfl,q d kvs H' hd s1 e1 dk⟩
theorem ok_a4 (T:Tx K mg ad):AG P w K mg base CX0 1 ad.f_a4 ad.d_a4 ["numbers"] S':=by
 exists a4
 obtain ⟨d,kvs,rfl,hd,vd,k64,q⟩:=h
 refine ⟨_,(~~~(D3 (fsc:=Aq GP) (N:=["numbers"]) (Nc:=["numbers","slip"]) rfl rfl ⟨rfl,by decide +kernel,by decide +kernel,rfl,by decide +kernel,rfl,by decide +kernel,rfl,by decide +kernel⟩ rfl (B_ (@B2 _ _ _ _ _ _ _ _ _ (P_ rfl hr.units) (by rfl) T.z_cm Vq (@Aj _ _ _ _ _ (pv 0) Am (by rfl)) (by decide) (by decide) (by rfl) (by rfl))) (fun _ _ _ _=>(Ka (EO⊂((NB (u1 hr.units) (pv 0) (pv 1) (fun _ _=>rfl))∪Au)))) (fun _ _ _ _=>(@BI _ _ _ _ _ (@Aj _ _ _ _ _ (pv 1) (@Aj _ _ _ _ _ (NB (u1 hr.units) (pv 0) (pv 1) (fun _ _=>rfl)) Am (by rfl)) (by rfl)))))),?_⟩
 obtain ⟨ks,k1,k2,knd,kmem⟩:=vd.keys
 refine ⟨_,rfl,d,kvs,ks,rfl,.inl hd,k1,by omega,fun l rs r1 r2 r3 hl=>?_⟩
 have sl:=A2 hl (.lst (rs.map fun q=>V.ref q.1))
 have el:(upd H l (.lst (rs.map fun q=>V.ref q.1))) l=Aa (.lst (rs.map fun q=>V.ref q.1)):=Ap
 generalize upd H l (.lst (rs.map fun q=>V.ref q.1))=H1 at sl el ⊢
 have rl:rs.length=ks.length:=by
  have:=r2.length_eq
  rw [Aw] at this
  exact this
 have ov:∀r∈rs,B7 kvs (r.2.map BC:Ab Key)=Aa (.int (En kvs r.2)):=fun r m=>by
  obtain ⟨n,e⟩:=(kmem r.2).mp (r2.mem_iff.mp (List.mem_map.mpr ⟨r,m,rfl⟩))
  unfold En
  rw [e]
 refine ⟨l,rfl,⟨_,SqL.of el⟩,?_⟩
 refine DW (xs:=rs.map fun q=>V.ref q.1) (by rw [Aw];exact D7 (by omega)) (fun D i ys H2=>∃ls:Ls,ys=vls ls/\ls.length<=i/\H2 D=Aa (.lst ys)/\Ax H1 H2/\AO H2 ls/\An ls=((rs.take i).filter fun r=>decide (0 < En kvs r.2)).map fun r=>(r.2,En kvs r.2)) (fun D hD=>⟨[],rfl,AB _,Ap,A2 hD _,(fun _ m=>A8 m Cw),rfl⟩) (fun D i ys H2 hq_=>by obtain ⟨ls,f1,f2,f3,_⟩:=hq_;exact ⟨f3,by rw [f1,Cr];exact f2⟩) (fun D i ys H2 hD hq_=>by obtain ⟨ls,_,_,_,f4,_⟩:=hq_;exact SqL.of (f4 _ _ el)) ?_ ?_
 ·rintro D i x ys H2 K1 K2 hD hx ⟨ls,rfl,f2,f3,f4,f5,f6⟩ kk1 kk2
  rw [Bm] at hx
  cases er:rs[i]? with
  | none=>rw [er] at hx;cases hx
  | some r =>
    rw [er] at hx
    cases Bp hx
    have rm:=Br er
    have et:rs.take (i+1)=rs.take i++[r]:=by rw [CA,er];rfl
    have sH:=sl.trans f4
    have ek:=sH _ _ (r1 r rm)
    have dg:=Ei.t (k:=(r.2.map BC:Ab Key)) (sH _ _ hd) (by rw [GF];exact ek)
    rw [ov r rm] at dg
    refine ⟨_,rfl,_,rfl,d,_,rfl,dg,?_⟩
    and_intros
    by_cases c:0 < En kvs r.2
    ·refine ifT (Be c) ?_
     refine ⟨_,rfl,_,rfl,_,rfl,d,_,rfl,dg,(by show 2<=A5;decide),fun t ht=>?_⟩
     have s6:=A2 ht (.tup [V.ref r.1,V.int (En kvs r.2)])
     refine kk1 _ _ (s6 _ _ f3) ⟨ls++[(t,r.1,r.2,En kvs r.2)],by rw [G_];rfl,by rw [B9];exact Mr f2,Ap,Bu (f4.trans s6) hD,?_,?_⟩
     ·refine AO.upd (s6 _ _ f3) ((f5.same s6).append fun q m=>?_)
      rw [List.mem_singleton.mp m]
      exact ⟨Ap,s6 _ _ ek⟩
     ·rw [Cq,f6,et,Jh,Bc]
      simp [c,An]
    ·refine ifF (Bo c) ?_
     refine kk2 _ ⟨ls,rfl,Nat.le_succ_of_le f2,f3,f4,f5,?_⟩
     rw [f6,et,Jh,Bc]
     simp [c]
 ·rintro D ys H2 hD ⟨ls,rfl,f2,f3,f4,f5,f6⟩
  rw [Aw] at f2
  rw [Aw,CJ (AB _)] at f6
  have rnd:(rs.map (·.2)).Nodup:=r2.nodup_iff.mpr knd
  refine q D ls H2 (none_of sl hD) (sl.trans f4) f3 f5 ?_ (fun ts n=>?_) (by omega)
  ·rw [f6,Mo]
   have st:rs.Pairwise (fun x y=>HT.lexLt x.2 y.2=Af):=by
    have nd2:rs.Pairwise (fun x y=>x.2≠y.2):=List.pairwise_map.mp rnd
    refine (r3.and nd2).imp fun hq_=>?_
    obtain ⟨h1,h2⟩:=hq_
    exact Nu h1 h2
   exact st.filter _
  ·rw [f6]
   constructor
   ·intro m
    obtain ⟨r,rm,e⟩:=List.mem_map.mp m
    obtain ⟨rm1,rm2⟩:=List.mem_filter.mp rm
    injection e with e1 e2
    subst e1
    subst e2
    exact ⟨ov r rm1,by simpa using rm2⟩
   ·rintro ⟨e,n0⟩
    have tk:ts∈ks:=(kmem ts).mpr ⟨n,e⟩
    obtain ⟨r,rm,rfl⟩:=List.mem_map.mp (r2.mem_iff.mpr tk)
    have o:=ov r rm
    rw [e] at o
    injection o with o
    injection o with o
    exact List.mem_map.mpr ⟨r,List.mem_filter.mpr ⟨rm,by rw [<- o];simpa using n0⟩,by rw [<- o]⟩
theorem ok_ay (T:Tx K mg ad):AG P w K mg base CX0 1 ad.f_ay ad.d_ay ["sheet"] Sj:=by
 exists ay
 obtain ⟨l,ls,rfl,hl,g,l900,q⟩:=h
 refine ⟨_,(~~~(@B2 _ _ _ _ _ _ _ _ _ (JN rfl) (by rfl) T.z_ce KG (@Aj _ _ _ _ _ (Lq (fsc:=Aq GX) (N:=["sheet"]) (Nc:=["sheet","slip","number"]) rfl rfl ⟨rfl,by decide +kernel,by decide +kernel,by decide +kernel,by decide +kernel,rfl,by decide +kernel,rfl,by decide +kernel⟩ rfl (B_ (pv 0)) (fun _ _ _ _=>Cv) (fun _ _ _ _=>(pv 2))) Am (by rfl)) (by decide) (by decide) (by rfl) (by rfl))),?_⟩
 refine ⟨_,rfl,l,rfl,⟨_,SqL.of hl⟩,?_⟩
 refine JP (zs:=vls ls) rfl rfl (by rw [Cr];exact D8 l900) (fun D i ys H'=>ys=((An (ls.take i)).map (·.2)).map V.int/\H'=upd H D (.lst ys)) (fun D hD=>⟨rfl,rfl⟩) (fun D i ys H' hq_=>by obtain ⟨f1,f2⟩:=hq_;exact ⟨by rw [f2];exact Ap,by rw [f1,Aw,Aw];unfold An;rw [Aw];exact EF _ _⟩) (fun D i ys H' hD hq_=>by obtain ⟨_,f2⟩:=hq_;rw [f2];exact SqL.of (A2 hD _ _ _ hl)) ?_ ?_
 ·rintro D i x ys H' K1 K2 hD hx ⟨f1,rfl⟩ k1 k2
  obtain ⟨f,hf,rfl,fm,et⟩:=EZ hx
  refine ⟨f.1,_,_,rfl,SqT.of (A2 hD _ _ _ (g f fm).1),?_⟩
  refine yes (ifT rfl ?_)
  refine ⟨_,rfl,?_⟩
  refine k1 _ _ Ap ⟨?_,by rw [DM]⟩
  rw [et,Cq,Bc,Bc,f1]
  rfl
 rintro D ys H' hD ⟨rfl,rfl⟩
 rw [Cr,CJ (AB _)]
 exact ⟨D,_,rfl,SqL.of Ap,q _ (A2 hD _)⟩
theorem ok_bf (T:Tx K mg ad):AG P w K mg base CX0 1 ad.f_bf ad.d_bf ["number","many"] NP:=by
 exists bf
 obtain ⟨n,m,rfl,m60,q⟩:=h
 refine ⟨_,(@Av _ _ _ _ _ (2<$>(NE rfl (by rfl) T.z_bx (by rfl) T.z_bz (pv 1))) (@Av _ _ _ _ _ (3<$>(@Cz _ _ _ _ Am)) (@Av _ _ _ _ _ (4<$>(pv 0)) (@Av _ _ _ _ _ (NJ CC ((Rr hr.units)⊂((pv 2)∪(@Cz _ _ _ _ Am))) (@Av _ _ _ _ _ (5<$>(@A9 _ _ _ _ _ _ _ _ Cn (pv 4) (@B2 _ _ _ _ _ _ _ _ _ Dm (by rfl) T.z_bw Dh (@Aj _ _ _ _ _ (pv 2) Am (by rfl)) (by decide) (by decide) (by rfl) (by rfl)))) (@Av _ _ _ _ _ (4<$>(@A9 _ _ _ _ _ _ _ _ CO (pv 4) (@B2 _ _ _ _ _ _ _ _ _ Dm (by rfl) T.z_bw Dh (@Aj _ _ _ _ _ (pv 2) Am (by rfl)) (by decide) (by decide) (by rfl) (by rfl)))) (@Bl _ _ _ (@D4 _ _ _ _ (DY Ee FT PySem.F.type_list_append EN (pv 3) (@Aj _ _ _ _ _ (DY Ee Vy V0 Q_ (pv 2) (@Aj _ _ _ _ _ (pv 5) Am (by rfl))) Am (by rfl))) (by rfl)))))) (~~~(pv 3)))))),?_⟩
 refine ⟨_,rfl,m,rfl,by omega,fun l hl=>?_⟩
 rw [T_]
 have s1:=A2 hl (.lst ((BV m).map V.int))
 have e1:(upd H l (.lst ((BV m).map V.int))) l=Aa (.lst ((BV m).map V.int)):=Ap
 generalize upd H l (.lst ((BV m).map V.int))=H1 at s1 e1 ⊢
 refine ⟨(by show 0<=A5;decide),fun o ho=>?_⟩
 have s2:=A2 ho (.lst [])
 have e2:(upd H1 o (.lst [])) o=Aa (.lst []):=Ap
 generalize upd H1 o (.lst [])=H2 at s2 e2 ⊢
 have lo:l≠o:=fun e=>by rw [<- e,e1] at ho;cases ho
 have hoH:H o=Ag:=by
  cases e:H o with
  | none=>rfl
  | some u=>rw [s1 _ _ e] at ho;cases ho
 refine ⟨_,rfl,?_⟩
 refine ⟨fun k σ' H'=>∃(i:Ae) (r:Ac) (ls:Ab Ac) (v:Ay V),k=m - i/\σ'=[Aa (.int n),Aa (.int (m:Ac)),Aa (.ref l),Aa (.ref o),Aa (.int r),v]/\Drw m n (BV m) i r ls/\Ax H H'/\H' l=Aa (.lst (ls.map V.int))/\H' o=Aa (.lst (((dec m n (BV m)).take i).map V.int)),⟨m,0,n,BV m,Ag,rfl,rfl,Drw.zero (NY m) (TZ m),s1.trans s2,s2 _ _ e1,e2⟩,?_⟩
 rintro k σ' H' ⟨i,r,ls,v,rfl,rfl,d,s3,e3,e4⟩
 refine ⟨_,rfl,(by show 0<=A5;decide),fun a ha=>?_⟩
 have s4:=A2 ha (.lst [])
 have ea:(upd H' a (.lst [])) a=Aa (.lst (([]:Ab Ac).map V.int)):=Ap
 generalize upd H' a (.lst [])=H3 at s4 ea ⊢
 have e3:=s4 _ _ e3
 have e4:=s4 _ _ e4
 have s5:=s3.trans s4
 refine ⟨l,a,ls,[],rfl,rfl,SqL.of e3,SqL.of ea,_,rfl,?_⟩
 by_cases c:ls=[]
 ·refine ifF (by rw [Be c];rfl) ?_
  obtain rfl:=d.stop c
  rw [CJ (Mq (JQ ..))] at e4
  exact ⟨_,rfl,q o H3 hoH s5 e4⟩
 ·refine ifT (by rw [Bo c];rfl) ?_
  have dl:=d.len
  have him:i < m:=by
   have:=List.length_pos_iff.mpr c
   omega
  obtain ⟨p,x,ep,hp,hx,ix,hox,_,d'⟩:=d.step him
  have el:(((ls.map V.int).length:Ae):Ac)=((m - i:Ae):Ac):=by rw [Aw,dl]
  have ne:((m - i:Ae):Ac)≠0:=by omega
  refine ⟨fun σ' H'=>∃(r:Ac) (ls:Ab Ac) (v:Ay V),σ'=[Aa (.int n),Aa (.int (m:Ac)),Aa (.ref l),Aa (.ref o),Aa (.int r),v]/\Drw m n (BV m) (i+1) r ls/\Ax H H'/\H' l=Aa (.lst (ls.map V.int))/\H' o=Aa (.lst (((dec m n (BV m)).take (i+1)).map V.int)),fun σ' H' ⟨r,ls,v,z⟩=>⟨m - (i+1),by omega,i+1,r,ls,v,rfl,z⟩,?_⟩
  refine ⟨_,rfl,_,rfl,l,_,rfl,.inl (SqL.of e3),_,_,rfl,rfl,(by rw [el];exact ne),?_⟩
  refine ⟨_,rfl,_,rfl,l,_,rfl,.inl (SqL.of e3),_,_,rfl,rfl,⟨(by rw [el];exact ne),C1 (by rw [el];omega) (by rw [el];omega)⟩,?_⟩
  rw [el]
  dsimp only
  rw [ep]
  refine ⟨_,rfl,.inl ⟨rfl,_,SqL.of e4⟩,_,rfl,.inl ⟨rfl,_,SqL.of e3⟩,_,rfl,l,_,(p:Ac),p,V.int x,rfl,rfl,e3,by omega,by omega,QB (by rw [Aw];exact hp),(by rw [Bm,hx];rfl),?_⟩
  refine ⟨o,_,_,rfl,rfl,(by rw [AF (AM lo)];exact e4),(by rw [Aw,DP];exact DJ (by omega)),?_⟩
  refine ⟨_,_,_,rfl,d',Bu (Bu s5 hl) hoH,?_,?_⟩
  ·rw [AF lo,Ap,Nx]
  ·rw [Ap,RF hox]
theorem ok_bk (T:Tx K mg ad):AG P w K mg base CX0 1 ad.f_bk ad.d_bk ["mask","hand"] Tv:=by
 exists bk
 obtain ⟨m,h,rfl,h0,h1,q⟩:=h
 refine ⟨_,(~~~(@A9 _ _ _ _ _ _ _ _ YA (pv 0) (@A9 _ _ _ _ _ _ _ _ HP Au (pv 1)))),?_⟩
 exact ⟨_,rfl,_,rfl,_,_,rfl,rfl,⟨h0,by omega,by decide⟩,_,_,rfl,rfl,q⟩
theorem ok_v (T:Tx K mg ad):AG P w K mg base CX0 1 ad.f_v ad.d_v ["mask"] Aa1:=by
 refine T.F_v.ok sc_v (fun vs H Q E h=>?_) (fun cdv A outer s H vs Q E hr h=>?_)
 ·obtain ⟨m,rfl,_⟩:=h
  rfl
 obtain ⟨m,rfl,m0,m1,q⟩:=h
 refine ⟨_,(~~~(D3 (fsc:=Aq s_v) (N:=["mask"]) (Nc:=["mask","hand"]) rfl rfl ⟨rfl,by decide +kernel,by decide +kernel,rfl,by decide +kernel,rfl,by decide +kernel,rfl,by decide +kernel⟩ rfl (EW rfl T.z_bz (@Aj _ _ _ _ _ (YI PySem.F.plainAttrs_int PySem.F.slot_int_bit_length PySem.F.type_int_bit_length Yo (pv 0)) Am (by rfl))) (fun _ _ _ _=>(Ka (D1⊂((@A9 _ _ _ _ _ _ _ _ Y7 (@A9 _ _ _ _ _ _ _ _ YB (pv 0) (pv 1)) Au)∪Au)))) (fun _ _ _ _=>(pv 1)))),?_⟩
 have hb:(DN m)<=12:=intBits_le_iff.mpr (by show m.natAbs < 4096;omega)
 refine ⟨_,rfl,rfl,m,rfl,rfl,_,rfl,by omega,by omega,?_⟩
 have en:((DN m:Ae):Ac).toNat=DN m:=by omega
 rw [en]
 refine Gf (D7 (by omega)) (fun D i ys H'=>ys=(hands i (bit m)).map V.int/\H'=upd H D (.lst ys)) (fun D hD=>⟨rfl,rfl⟩) (fun D i ys H' hq_=>by obtain ⟨e1,e2⟩:=hq_;rw [e2,e1];exact ⟨Ap,by rw [Aw];exact Xs i (bit m)⟩) ?_ ?_
 ·rintro D i ys H' K1 K2 hD hi ⟨e1,rfl⟩ k1 k2
  have ei:(0+(i:Ac)).toNat=i:=by omega
  refine ⟨_,rfl,_,rfl,_,_,rfl,rfl,(by show (0:Ac)<=0+(i:Ac);omega),_,_,rfl,rfl,rfl,_,rfl,?_⟩
  try dsimp only
  rw [show decide (V.int (LP (m / 2 ^ (0+(i:Ac)).toNat) 1)=V.int 1)=bit m i from by rw [Xw,ei]]
  have ms:=Nk i (bit m)
  cases e:bit m i with
  | true =>
    rw [e,At rfl] at ms
    refine No ⟨_,rfl,?_⟩
    refine k1 _ _ Ap ⟨?_,by rw [DM]⟩
    rw [ms,Bc,e1,D_]
    rfl
  | false =>
    rw [e,Ao (by decide)] at ms
    refine Nn ?_
    exact k2 _ ⟨by rw [ms];exact e1,rfl⟩
 ·rintro D ys H' hD ⟨rfl,rfl⟩
  refine q D _ hD (A2 hD _) ?_
  rw [Ap,W1 m0 m1]
theorem ok_am (T:Tx K mg ad):AG P w K mg base CX0 1 ad.f_am ad.d_am ["codes"] Tb:=by
 exists am
 obtain ⟨p,cs,rfl,h1,z1,h100,q⟩:=h
 refine ⟨_,(@Av _ _ _ _ _ (1<$>Au) (@Av _ _ _ _ _ (2<$>Au) (@Av _ _ _ _ _ (3<$>Au) (@Av _ _ _ _ _ (CW CC rfl (YY rfl T.z_ck (pv 0) Au) (Fz rfl (CV (Ci (i:=4) sc_am.nd rfl (BW rfl)) (CV (Ci (i:=5) sc_am.nd rfl (BW rfl)) F0))) (@Av _ _ _ _ _ (1<$>(@A9 _ _ _ _ _ _ _ _ Ch (pv 1) (pv 5))) (@Av _ _ _ _ _ (2<$>(@A9 _ _ _ _ _ _ _ _ Ch (pv 2) (@A9 _ _ _ _ _ _ _ _ Do (pv 5) (pv 4)))) (@Bl _ _ _ (3<$>(@A9 _ _ _ _ _ _ _ _ Ch (pv 3) (@A9 _ _ _ _ _ _ _ _ Do (@A9 _ _ _ _ _ _ _ _ Do (pv 5) (pv 4)) (pv 4)))))))) (~~~(@BI _ _ _ _ _ (@Aj _ _ _ _ _ (@B2 _ _ _ _ _ _ _ _ _ Dm (by rfl) T.z_bw Dh (@Aj _ _ _ _ _ (pv 0) Am (by rfl)) (by decide) (by decide) (by rfl) (by rfl)) (@Aj _ _ _ _ _ (pv 1) (@Aj _ _ _ _ _ (pv 2) (@Aj _ _ _ _ _ (pv 3) Am (by rfl)) (by rfl)) (by rfl)) (by rfl)))))))),?_⟩
 refine ⟨_,rfl,p,rfl,⟨_,SqL.of h1⟩,W_ (xs:=cs.map V.int) (fun i σ' H'=>∃v4 v5,σ'=[Aa (.ref p),Aa (.int (ws f1 0 (cs.take i))),Aa (.int (ws f2 0 (cs.take i))),Aa (.int (ws f3 0 (cs.take i))),v4,v5]/\Ax H H') ⟨Ag,Ag,rfl,fun _ _ e=>e⟩ (fun i σ' H' _ hq_=>by obtain ⟨_,_,_,e⟩:=hq_;exact SqL.of (e _ _ h1)) ?_ ?_⟩
 ·rintro i x T0 σ' H' hx ⟨v4,v5,rfl,s1⟩ hT
  obtain ⟨c,hc,rfl⟩:=int_at hx
  have hi:i < cs.length:=(List.getElem?_eq_some_iff.mp hc).1
  have s2:=A2 hT (.tup [.int ((i:Ac)+1),.int c])
  have eT:(upd H' T0 (.tup [.int ((i:Ac)+1),.int c])) T0=Aa (.tup [.int ((i:Ac)+1),.int c]):=Ap
  generalize upd H' T0 (.tup [.int ((i:Ac)+1),.int c])=H2 at s2 eT ⊢
  have szc:Sz 300 c:=z1 c (Br hc)
  have szi:Sz 64 ((i:Ac)+1):=C1 (by omega) (by omega)
  have et:cs.take (i+1)=cs.take i++[c]:=by rw [CA,hc];rfl
  have el:((cs.take i).length:Ac)=i:=by rw [DP];omega
  refine ⟨T0,_,rfl,SqT.of eT,rfl,_,_,rfl,_,_,rfl,rfl,?_⟩
  and_intros
  have w1:ws f1 0 (cs.take (i+1))=ws f1 0 (cs.take i)+c:=by
   rw [et,LB]
   show _+c*1=_
   rw [Int.mul_one]
  have w2:ws f2 0 (cs.take (i+1))=ws f2 0 (cs.take i)+c*((i:Ac)+1):=by
   rw [et,LB,el,D_]
   rfl
  have w3:ws f3 0 (cs.take (i+1))=ws f3 0 (cs.take i)+c*((i:Ac)+1)*((i:Ac)+1):=by
   rw [et,LB,el,D_,Om]
   rfl
  exact ⟨_,_,by rw [w1,w2,w3];rfl,s1.trans s2⟩
 ·rintro σ' H' ⟨v4,v5,e,s1⟩
  rw [Aw,CJ (AB _)] at e
  subst e
  have hp:=s1 _ _ h1
  and_intros
  refine ⟨(by show 4<=A5;decide),fun t ht=>?_⟩
  exact q t _ (none_of s1 ht) (s1.trans (A2 ht _)) (by rw [Ap];unfold FB;rw [Aw];rfl)
theorem ok_bg (T:Tx K mg ad):AG P w K mg base CX0 1 ad.f_bg ad.d_bg ["lacks","many"] SW:=by
 exists bg
 obtain ⟨p,x0,x1,x2,n,rfl,h1,z0,z1,q⟩:=h
 refine ⟨_,(@Av _ _ _ _ _ ((D1⊂((B0∩((pv 0)∪Au))∪Au))⊆((~~~Au)∪Bs)) (@Av _ _ _ _ _ (2<$>(@A9 _ _ _ _ _ _ _ _ CO (B0∩((pv 0)∪Au)) (B0∩((pv 0)∪Au)))) (@Av _ _ _ _ _ ((PW.pt (@De _ _ _ _ _ _ _ (Fx⊂((pv 2)∪Au)) (@DI _ _ _ _ (EO⊂((pv 2)∪(pv 1))))))⊆((~~~Au)∪Bs)) (@Av _ _ _ _ _ ((PW.pt (@De _ _ _ _ _ _ _ (ER⊂((B0∩((pv 0)∪Au))∪(@A9 _ _ _ _ _ _ _ _ Do (B0∩((pv 0)∪Au)) (pv 2)))) (@DI _ _ _ _ (ER⊂((B0∩((pv 0)∪Au))∪(@A9 _ _ _ _ _ _ _ _ Do (@A9 _ _ _ _ _ _ _ _ Do (B0∩((pv 0)∪Au)) (pv 2)) (pv 2)))))))⊆((~~~Au)∪Bs)) (~~~(pv 2)))))),?_⟩
 and_intros
 have szp:Sz 1000 (x1.fdiv x0):=z1.fdiv
 by_cases c:x0=0
 ·have e:HU x0 x1 x2 n=0:=by unfold HU;rw [At c]
  rw [e] at q
  exact ifT (HI c) q
 refine ifF (Lc c) ?_
 and_intros
 refine ⟨⟨c,z0.mono (by decide)⟩,?_⟩
 unfold HU at q
 rw [Ao c] at q
 and_intros
 by_cases c1:x1.fdiv x0 < 1
 ·rw [At (.inl c1)] at q
  exact ifT (Be c1) (ifT rfl q)
 refine ifF (Bo c1) ?_
 and_intros
 by_cases c2:n < x1.fdiv x0
 ·rw [At (.inr c2)] at q
  exact ifT (Be c2) q
 rw [Ao (by omega)] at q
 refine ifF (Bo c2) ?_
 and_intros
 by_cases c3:x1=x0*x1.fdiv x0
 ·refine ifF (GJ c3) ?_
  and_intros
  by_cases c4:x2=x0*x1.fdiv x0*x1.fdiv x0
  ·rw [Ao (by rintro (z | z);exact z c3;exact z c4)] at q
   refine ifF (GJ c4) ⟨_,rfl,q⟩
  ·rw [At (.inr c4)] at q
   exact ifT (Rf c4) q
 ·rw [At (.inl c3)] at q
  exact ifT (Rf c3) (ifT rfl q)
theorem ok_bh (T:Tx K mg ad):AG P w K mg base CX0 1 ad.f_bh ad.d_bh ["one","other"] (Tn K):=by
 exists bh
 obtain ⟨p,r,t,b,u,c,rfl,h1,h2,st,sb,su,sc,q⟩:=h
 refine ⟨_,(~~~(@Gh _ _ _ _ _ _ _ _ Fx (@A9 _ _ _ _ _ _ _ _ Do (C6∩((pv 0)∪Au)) (C6∩((pv 1)∪Au))) (@A9 _ _ _ _ _ _ _ _ Do (C6∩((pv 1)∪Au)) (C6∩((pv 0)∪Au))) (Fw _))),?_⟩
 exact ⟨_,rfl,p,_,_,_,rfl,rfl,h1,rfl,_,rfl,r,_,_,_,rfl,rfl,h2,rfl,_,_,rfl,rfl,Ra st sc,_,rfl,r,_,_,_,rfl,rfl,h2,rfl,_,rfl,p,_,_,_,rfl,rfl,h1,rfl,_,_,rfl,rfl,Ra su sb,_,_,rfl,rfl,q⟩
theorem ok_bc (T:Tx K mg ad):AG P w K mg base CX0 1 ad.f_bc ad.d_bc ["_law_script","_law_k"] (So K):=by
 exists bc
 obtain ⟨p,ns,k,rfl,hS,h63,k0,k1,q⟩:=h
 refine ⟨_,(@Av _ _ _ _ _ ((Fx⊂((pv 1)∪(@B2 _ _ _ _ _ _ _ _ _ Dm (by rfl) T.z_bw Dh (@Aj _ _ _ _ _ (pv 0) Am (by rfl)) (by decide) (by decide) (by rfl) (by rfl))))⊆((~~~(@A9 _ _ _ _ _ _ _ _ Cn (B0∩((pv 0)∪(pv 1))) (@A9 _ _ _ _ _ _ _ _ Lp Au Au)))∪Bs)) (~~~(@A9 _ _ _ _ _ _ _ _ Cn (@A9 _ _ _ _ _ _ _ _ Do (@A9 _ _ _ _ _ _ _ _ Ch (@A9 _ _ _ _ _ _ _ _ Do (pv 1) (pv 1)) Au) Au) Au))),?_⟩
 have hl:(ns.map V.int).length=ns.length:=Aw _
 have szk:Sz 64 k:=C1 (by omega) (by omega)
 have p40:(0:Ac) < 10 ^ (40:Ac).toNat:=by decide +kernel
 refine ⟨_,rfl,_,rfl,p,_,rfl,.inl hS,_,_,rfl,rfl,_,rfl,?_⟩
 refine Em (fun c=>?_) (fun c=>?_)
 ·have c':k < (((ns.map V.int).length:Ae):Ac):=DD c
  rw [hl] at c'
  obtain ⟨v,hv⟩:=XC k0 c'
  refine ⟨_,rfl,_,rfl,p,_,_,_,rfl,rfl,hS,hv,_,_,rfl,rfl,WI,_,_,rfl,rfl,(Ku p40),?_⟩
  exact q _ (CI v p40).1 (CI v p40).2
 ·and_intros
  have m:=CI ((k*k+7)*48271) (show (0:Ac) < 10007 by decide)
  exact q _ m.1 (Int.lt_trans m.2 (by decide))
theorem ok_bd (T:Tx K mg ad):AG P w K mg base CX0 1 ad.f_bd ad.d_bd ["_law_cell_here","_law_by"] SN:=by
 exists bd
 obtain ⟨c,b,rfl,szc,szb,q⟩:=h
 refine ⟨_,(@Av _ _ _ _ _ (2<$>(@A9 _ _ _ _ _ _ _ _ Ch (@A9 _ _ _ _ _ _ _ _ Do (pv 0) Au) (@A9 _ _ _ _ _ _ _ _ Do (pv 1) Au))) (@Av _ _ _ _ _ (2<$>(@A9 _ _ _ _ _ _ _ _ Cn (@A9 _ _ _ _ _ _ _ _ Ch (pv 2) Au) (@A9 _ _ _ _ _ _ _ _ Ch (@A9 _ _ _ _ _ _ _ _ Lp Au Au) Au))) (~~~(@A9 _ _ _ _ _ _ _ _ CO (@A9 _ _ _ _ _ _ _ _ Cn (@A9 _ _ _ _ _ _ _ _ Do (pv 2) (pv 2)) (@A9 _ _ _ _ _ _ _ _ Ch (@A9 _ _ _ _ _ _ _ _ Lp Au Au) Au)) Au)))),?_⟩
 and_intros
 exact q _ (QU _).1 (QU _).2
theorem ok_ak (T:Tx K mg ad):AG P w K mg base CX0 1 ad.f_ak ad.d_ak ["_law_found_here"] Tu:=by
 refine T.F_ak.ok sc_ak (fun vs H Q E h=>?_) (fun cdv A outer s H vs Q E hr h=>?_)
 ·obtain ⟨c,rfl,_⟩:=h
  rfl
 obtain ⟨c,rfl,q⟩:=h
 refine ⟨_,(~~~(@ES _ _ _ _ _ _ _ (@B2 _ _ _ _ _ _ _ _ _ Ge (by rfl) T.z_b6 G3 (@Aj _ _ _ _ _ (pv 0) (@Aj _ _ _ _ _ (Gg (v:=.ty "int") rfl T.z_cr Vp rfl) Am (by rfl)) (by rfl)) (by decide) (by decide) (by rfl) (by rfl)) (@EV _ _ _ _ _ (@Rv _ _ _ _ (@B2 _ _ _ _ _ _ _ _ _ Ge (by rfl) T.z_b6 G3 (@Aj _ _ _ _ _ (pv 0) (@Aj _ _ _ _ _ (Gg (v:=.ty "bool") rfl T.z_cq Vo rfl) Am (by rfl)) (by rfl)) (by decide) (by decide) (by rfl) (by rfl)))))),?_⟩
 refine ⟨_,rfl,_,_,_,_,rfl,C3.int c,QD,_,rfl,?_⟩
 refine No ?_
 exact ⟨_,rfl,_,_,_,_,rfl,C3.int c,QC,_,rfl,q⟩
theorem ok_o (T:Tx K mg ad):AG P w K mg base CX0 1 ad.f_o ad.d_o ["_law_bundles_here"] Tc:=by
 exists o
 obtain ⟨B,n,cs,rfl,bd,n6,c5,q⟩:=h
 refine ⟨_,(@Av _ _ _ _ _ (1<=<Rt) (@Av _ _ _ _ _ (CW CC rfl (B_ (pv 0)) (Ci (i:=2) sc_o.nd rfl (BW rfl)) (@Bl _ _ _ (CW CC rfl (B_ (pv 2)) (Fz rfl (CV (Ci (i:=3) sc_o.nd rfl (BW rfl)) (CV (Ci (i:=4) sc_o.nd rfl (BW rfl)) F0))) (@Bl _ _ _ (RB (u1 hr.units) (pv 1) (pv 3) (@A9 _ _ _ _ _ _ _ _ Ch (NC (u1 hr.units) (pv 1) (pv 3) Au ⟨rfl,rfl,rfl,rfl⟩) (pv 4)) rfl))))) (~~~(D3 (fsc:=Aq s_o) (N:=["_law_bundles_here","_law_many","_law_lines","_law_slip_here","_law_number"]) (Nc:=["_law_bundles_here","_law_many","_law_lines",".s3","_law_number","_law_slip_here"]) rfl rfl ⟨rfl,by decide +kernel,by decide +kernel,rfl,by decide +kernel,rfl,by decide +kernel,rfl,by decide +kernel⟩ rfl (B_ (@B2 _ _ _ _ _ _ _ _ _ (P_ rfl hr.units) (by rfl) T.z_cm Vq (@Aj _ _ _ _ _ (pv 1) Am (by rfl)) (by decide) (by decide) (by rfl) (by rfl))) (fun _ _ _ _=>Cv) (fun _ _ _ _=>(@BI _ _ _ _ _ (@Aj _ _ _ _ _ (pv 5) (@Aj _ _ _ _ _ (NB (u1 hr.units) (pv 1) (pv 5) (fun _ _=>rfl)) Am (by rfl)) (by rfl)))))))),?_⟩
 have hp:∀q∈An (AU cs),q.1∈Bt n:=fun q m=>by
  obtain ⟨x,xm,k⟩:=JZ m
  exact (bd.ok x xm q k).1
 have pos:Pos (An (AU cs)):=fun q m=>by
  obtain ⟨x,xm,k⟩:=JZ m
  exact (bd.ok x xm q k).2.1
 have p64:=Gk n6
 intro d hd
 have s0:=A2 hd (.dT [])
 have e0:(upd H d (.dT [])) d=Aa (.dT []):=Ap
 generalize upd H d (.dT [])=H0 at s0 e0 ⊢
 refine ⟨_,rfl,B,rfl,⟨_,SqL.of (s0 _ _ bd.lst)⟩,E4 (xs:=cs.map fun x=>V.ref x.1) (fun i σ' H'=>Ex4 fun (v2 v3 v4:Ay V) (kvs:Ab (Ab Key × V))=>σ'=[Aa (.ref B),Aa (.ref d),v2,v3,v4]/\Ax H H'/\H' d=Aa (.dT kvs)/\DictOf (An (AU (cs.take i))) kvs) ⟨Ag,Ag,Ag,[],rfl,s0,e0,DictOf.nil⟩ (fun i σ' H' _ hq_=>by obtain ⟨_,_,_,_,_,e,_⟩:=hq_;exact SqL.of (e _ _ bd.lst)) ?_ ?_⟩
 ·rintro i y σ' H' hy ⟨v2,v3,v4,kvs,rfl,s1,e1,dk⟩
  rw [Bm] at hy
  obtain ⟨x,ex,rfl⟩:=Option.map_eq_some_iff.mp hy
  have xm:=Br ex
  obtain ⟨hx,gx⟩:=bd.lies x xm
  have al:AU (cs.take (i+1))=AU (cs.take i)++x.2:=by rw [CA,ex];exact HF _ _
  have up:∀q∈An (AU (cs.take i)++x.2),q.1∈Bt n:=fun q m=>by
   rw [<- al] at m
   obtain ⟨z,zm,k⟩:=JZ m
   exact (bd.ok z (G2 zm) q k).1
  refine ⟨_,rfl,x.1,rfl,⟨_,SqL.of (s1 _ _ hx)⟩,E4 (xs:=vls x.2) (fun j σ' H'=>Ex3 fun (v3 v4:Ay V) (kvs:Ab (Ab Key × V))=>σ'=[Aa (.ref B),Aa (.ref d),Aa (.ref x.1),v3,v4]/\Ax H H'/\H' d=Aa (.dT kvs)/\DictOf (An (AU (cs.take i)++x.2.take j)) kvs) ⟨v3,v4,kvs,rfl,s1,e1,by rw [Vc,FK];exact dk⟩ (fun i σ' H' _ hq_=>by obtain ⟨_,_,_,_,e,_⟩:=hq_;exact SqL.of (e _ _ hx)) ?_ ?_⟩
  ·rintro j y σ' H' hy ⟨v3,v4,kvs,rfl,s1,e1,dk⟩
   obtain ⟨f,hf,rfl,fm,et⟩:=EZ hy
   obtain ⟨g1,g2⟩:=gx f fm
   have lim:=dk.len (p:=Bt n) fun q m=>by
    refine up q ?_
    rw [Cq] at m ⊢
    rcases List.mem_append.mp m with m | m
    ·exact Jl _ m
    ·obtain ⟨r,rm,rfl⟩:=List.mem_map.mp m
     exact Ea _ (List.mem_map.mpr ⟨r,G2 rm,rfl⟩)
   have kt:H' f.2.1=Aa (.tup ((f.2.2.1.map BC:Ab Key).map kV)):=by rw [GF];exact s1 _ _ g2
   refine ⟨f.1,_,rfl,SqT.of (s1 _ _ g1),rfl,_,_,rfl,_,_,rfl,rfl,?_⟩
   refine ⟨_,rfl,d,rfl,.inr ⟨_,.inl e1⟩,_,rfl,_,Ei.t e1 kt,?_⟩
   rw [N4 dk]
   refine ⟨_,rfl,_,_,rfl,rfl,_,rfl,_,rfl,d,_,rfl,HC.t e1 kt (DJ (by omega)),?_⟩
   refine ⟨_,_,_,rfl,Bu s1 hd,Ap,?_⟩
   rw [et,<- Kz,Cq (AU (cs.take i)++x.2.take j)]
   exact dk.put f.2.2.1 f.2.2.2
  ·rintro σ' H' ⟨v3,v4,kvs,rfl,s1,e1,dk⟩
   rw [Cr,Eu,<- al] at dk
   exact ⟨_,_,_,kvs,rfl,s1,e1,dk⟩
 ·rintro σ' H' ⟨v2,v3,v4,kvs,rfl,s1,e1,dk⟩
  rw [Aw,Eu] at dk
  have k64:=dk.len (fun q m=>hp q m)
  obtain ⟨ks,k1,k2,knd,kmem⟩:=dk.vd.keys
  refine ⟨_,rfl,d,kvs,ks,rfl,.inl e1,k1,by omega,fun l2 rs r1 r2 r3 hl2=>?_⟩
  have sl:=A2 hl2 (.lst (rs.map fun q=>V.ref q.1))
  have el:(upd H' l2 (.lst (rs.map fun q=>V.ref q.1))) l2=Aa (.lst (rs.map fun q=>V.ref q.1)):=Ap
  generalize upd H' l2 (.lst (rs.map fun q=>V.ref q.1))=H1 at sl el ⊢
  have rl:rs.length=ks.length:=by
   have:=r2.length_eq
   rw [Aw] at this
   exact this
  have ov:∀r∈rs,B7 kvs (r.2.map BC:Ab Key)=Aa (.int (En kvs r.2)):=fun r m=>by
   obtain ⟨n,e⟩:=(kmem r.2).mp (r2.mem_iff.mp (List.mem_map.mpr ⟨r,m,rfl⟩))
   unfold En
   rw [e]
  refine ⟨l2,rfl,⟨_,SqL.of el⟩,?_⟩
  refine DW (xs:=rs.map fun q=>V.ref q.1) (by rw [Aw];exact D7 (by omega)) (fun D i ys H2=>∃ms:Ls,ys=vls ms/\ms.length=i/\H2 D=Aa (.lst ys)/\Ax H1 H2/\AO H2 ms/\An ms=(rs.take i).map fun r=>(r.2,En kvs r.2)) (fun D hD=>⟨[],rfl,rfl,Ap,A2 hD _,(fun _ m=>A8 m Cw),rfl⟩) (fun D i ys H2 hq_=>by obtain ⟨ms,f1,f2,f3,_⟩:=hq_;exact ⟨f3,by rw [f1,Cr,f2];exact AB _⟩) (fun D i ys H2 hD hq_=>by obtain ⟨ms,_,_,_,f4,_⟩:=hq_;exact SqL.of (f4 _ _ el)) ?_ ?_
  ·rintro D i x ys H2 K1 K2 hD hx ⟨ms,rfl,f2,f3,f4,f5,f6⟩ kk1 kk2
   rw [Bm] at hx
   obtain ⟨r,er,rfl⟩:=Option.map_eq_some_iff.mp hx
   have rm:=Br er
   have et:rs.take (i+1)=rs.take i++[r]:=by rw [CA,er];rfl
   have sH:=sl.trans f4
   have ek:=sH _ _ (r1 r rm)
   have dg:=Ei.t (k:=(r.2.map BC:Ab Key)) (sH _ _ e1) (by rw [GF];exact ek)
   rw [ov r rm] at dg
   refine yes (ifT rfl ?_)
   refine ⟨_,rfl,_,rfl,_,rfl,d,_,rfl,dg,(by show 2<=A5;decide),fun t ht=>?_⟩
   have s6:=A2 ht (.tup [V.ref r.1,V.int (En kvs r.2)])
   refine kk1 _ _ (s6 _ _ f3) ⟨ms++[(t,r.1,r.2,En kvs r.2)],by rw [G_];rfl,by rw [B9,f2];rfl,Ap,Bu (f4.trans s6) hD,?_,?_⟩
   ·refine AO.upd (s6 _ _ f3) ((f5.same s6).append fun q m=>?_)
    rw [List.mem_singleton.mp m]
    exact ⟨Ap,s6 _ _ ek⟩
   ·rw [Cq,f6,et,Bc]
    rfl
  ·rintro D ys H2 hD ⟨ms,rfl,f2,f3,f4,f5,f6⟩
   rw [Aw] at f2 f6
   rw [Eu] at f6
   have rnd:(rs.map (·.2)).Nodup:=r2.nodup_iff.mpr knd
   have pv:∀(ts:Ab Ac) (n:Ac),B7 kvs (ts.map BC)=Aa (.int n)->0 < n:=fun ts n e=>by
    rw [dk.val] at e
    by_cases c:ts∈(An (AU cs)).map (·.1)
    ·rw [At c] at e
     injection e with e
     injection e with e
     rw [<- e]
     exact TR pos c
    ·rw [Ao c] at e
     cases e
   refine q D ms H2 (none_of (s1.trans sl) hD) ((s1.trans sl).trans f4) f3 f5 (dk.sheet pos ?_ (fun ts n=>?_)) (by omega)
   ·rw [f6,Mo]
    have nd2:rs.Pairwise (fun x y=>x.2≠y.2):=List.pairwise_map.mp rnd
    refine (r3.and nd2).imp fun hq_=>?_
    obtain ⟨h1,h2⟩:=hq_
    exact Nu h1 h2
   ·rw [f6]
    constructor
    ·intro m
     obtain ⟨r,rm,e⟩:=List.mem_map.mp m
     injection e with e1 e2
     subst e1
     subst e2
     exact ⟨ov r rm,pv _ _ (ov r rm)⟩
    ·rintro ⟨e,n0⟩
     have tk:ts∈ks:=(kmem ts).mpr ⟨n,e⟩
     obtain ⟨r,rm,rfl⟩:=List.mem_map.mp (r2.mem_iff.mpr tk)
     have o:=ov r rm
     rw [e] at o
     injection o with o
     injection o with o
     exact List.mem_map.mpr ⟨r,rm,by rw [<- o]⟩
theorem ok_a1 (T:Tx K mg ad):AG P w K mg base CX0 1 ad.f_a1 ad.d_a1 ["_law_number","_law_many"] NP:=by
 exists a1
 obtain ⟨n,m,rfl,m60,q⟩:=h
 refine ⟨_,(@Av _ _ _ _ _ (2<$>(NE rfl (by rfl) T.z_bx (by rfl) T.z_bz (pv 1))) (@Av _ _ _ _ _ (3<$>(@Cz _ _ _ _ Am)) (@Av _ _ _ _ _ (CW CC rfl (YW rfl T.z_bz (@Aj _ _ _ _ _ (pv 1) (@Aj _ _ _ _ _ Au (@Aj _ _ _ _ _ (@Lr _ _ _ _ _ _ Ly Au) Am (by rfl)) (by rfl)) (by rfl))) (Ci (i:=4) sc_a1.nd rfl (BW rfl)) (@Av _ _ _ _ _ (@D4 _ _ _ _ (DY Ee FT PySem.F.type_list_append EN (pv 3) (@Aj _ _ _ _ _ (DY Ee Vy V0 Q_ (pv 2) (@Aj _ _ _ _ _ (@A9 _ _ _ _ _ _ _ _ Cn (pv 0) (pv 4)) Am (by rfl))) Am (by rfl))) (by rfl)) (@Bl _ _ _ (0<$>(@A9 _ _ _ _ _ _ _ _ CO (pv 0) (pv 4)))))) (~~~(pv 3))))),?_⟩
 refine ⟨_,rfl,m,rfl,by omega,fun l hl=>?_⟩
 rw [T_]
 have s1:=A2 hl (.lst ((BV m).map V.int))
 have e1:(upd H l (.lst ((BV m).map V.int))) l=Aa (.lst ((BV m).map V.int)):=Ap
 generalize upd H l (.lst ((BV m).map V.int))=H1 at s1 e1 ⊢
 refine ⟨(by show 0<=A5;decide),fun o ho=>?_⟩
 have s2:=A2 ho (.lst [])
 have e2:(upd H1 o (.lst [])) o=Aa (.lst []):=Ap
 generalize upd H1 o (.lst [])=H2 at s2 e2 ⊢
 have lo:l≠o:=fun e=>by rw [<- e,e1] at ho;cases ho
 have hoH:H o=Ag:=by
  cases e:H o with
  | none=>rfl
  | some u=>rw [s1 _ _ e] at ho;cases ho
 refine ⟨_,rfl,_,rfl,(m:Ac),0,rfl,⟨by omega,by omega,by decide,by decide⟩,?_⟩
 rw [show ((m:Ac) - 0).toNat=m from by omega]
 refine WY (fun i σ' H'=>Ex3 fun (r:Ac) (ls:Ab Ac) (v:Ay V)=>σ'=[Aa (.int r),Aa (.int (m:Ac)),Aa (.ref l),Aa (.ref o),v]/\Drw m n (BV m) i r ls/\Ax H H'/\H' l=Aa (.lst (ls.map V.int))/\H' o=Aa (.lst (((dec m n (BV m)).take i).map V.int))) ⟨n,BV m,Ag,rfl,Drw.zero (NY m) (TZ m),s1.trans s2,s2 _ _ e1,e2⟩ ?_ ?_
 ·rintro i σ' H' him ⟨r,ls,v,rfl,d,s3,e3,e4⟩
  have dl:=d.len
  obtain ⟨p,x,ep,hp,hx,ix,hox,_,d'⟩:=d.step him
  have el:(m:Ac) - (i:Ac)=((m - i:Ae):Ac):=by omega
  have ne:((m - i:Ae):Ac)≠0:=by omega
  rw [el]
  refine ⟨_,rfl,.inl ⟨rfl,_,SqL.of e4⟩,_,rfl,.inl ⟨rfl,_,SqL.of e3⟩,_,rfl,_,rfl,_,_,rfl,rfl,ne,?_⟩
  dsimp only
  rw [ep]
  refine ⟨l,_,(p:Ac),p,V.int x,rfl,rfl,e3,by omega,by omega,QB (by rw [Aw];exact hp),(by rw [Bm,hx];rfl),?_⟩
  refine ⟨o,_,_,rfl,rfl,(by rw [AF (AM lo)];exact e4),(by rw [Aw,DP];exact DJ (by omega)),?_⟩
  refine ⟨_,rfl,_,rfl,_,_,rfl,rfl,⟨ne,C1 (by omega) (by omega)⟩,?_⟩
  refine ⟨_,_,_,rfl,d',Bu (Bu s3 hl) hoH,?_,?_⟩
  ·rw [AF lo,Ap,Nx]
  ·rw [Ap,RF hox]
 ·rintro σ' H' ⟨r,ls,v,rfl,d,s3,e3,e4⟩
  rw [CJ (Mq (JQ ..))] at e4
  exact ⟨_,rfl,q o H' hoH s3 e4⟩
theorem ok_ah (T:Tx K mg ad):AG P w K mg base CX0 1 ad.f_ah ad.d_ah ["_law_bundles_here"] Sr:=by
 exists ah
 obtain ⟨B,cs,rfl,hB,lies,c9,c30,q⟩:=h
 refine ⟨_,(~~~(@B2 _ _ _ _ _ _ _ _ _ (JN rfl) (by rfl) T.z_ce KG (@Aj _ _ _ _ _ (D3 (fsc:=Aq Go) (N:=["_law_bundles_here"]) (Nc:=["_law_bundles_here","_law_lines"]) rfl rfl ⟨rfl,by decide +kernel,by decide +kernel,rfl,by decide +kernel,rfl,by decide +kernel,rfl,by decide +kernel⟩ rfl (B_ (pv 0)) (fun _ _ _ _=>Cv) (fun _ _ _ _=>(@B2 _ _ _ _ _ _ _ _ _ (WC K) (by rfl) T.z_ce KG (@Aj _ _ _ _ _ (by exact (YM (fsc:=Aq Go) (Nc:=["_law_bundles_here","_law_lines"]) (Nd:=["_law_bundles_here","_law_lines","_law_slip_here","_law_number"]) rfl ⟨rfl,by decide +kernel,by decide +kernel,by decide +kernel,by decide +kernel,rfl,by decide +kernel,rfl,by decide +kernel⟩ rfl (Y_ K (pv 1)) (fun _ _ _ _=>Cv) (fun _ _ _ _=>(pv 3)))) Am (by rfl)) (by decide) (by decide) (by rfl) (by rfl)))) Am (by rfl)) (by decide) (by decide) (by rfl) (by rfl))),?_⟩
 refine ⟨_,rfl,B,rfl,⟨_,SqL.of hB⟩,?_⟩
 refine DW (xs:=cs.map fun x=>V.ref x.1) (by rw [Aw];exact D8 (by omega)) (fun D i ys H'=>ys=((cs.take i).map fun x=>AX (An x.2)).map V.int/\H' D=Aa (.lst ys)/\Ax H H') (fun D hD=>⟨rfl,Ap,A2 hD _⟩) (fun D i ys H' hq_=>by obtain ⟨f1,f2,_⟩:=hq_;exact ⟨f2,by rw [f1,Aw,Aw];exact EF _ _⟩) (fun D i ys H' hD hq_=>by obtain ⟨_,_,f3⟩:=hq_;exact SqL.of (f3 _ _ hB)) ?_ ?_
 ·rintro D i y ys H' K1 K2 hD hy ⟨f1,f2,f3⟩ k1 k2
  rw [Bm] at hy
  obtain ⟨x,ex,rfl⟩:=Option.map_eq_some_iff.mp hy
  have xm:=Br ex
  have hx:=f3 _ _ (lies x xm).1
  have gx:=(lies x xm).2.same f3
  refine yes (ifT rfl ?_)
  refine ⟨_,rfl,x.1,rfl,⟨_,SqL.of hx⟩,?_⟩
  have x30:=c30 x xm
  refine JP (zs:=vls x.2) rfl rfl (by rw [Cr];exact D8 (by omega)) (fun D2 i ys H2=>ys=((An (x.2.take i)).map (·.2)).map V.int/\H2=upd H' D2 (.lst ys)) (fun D hD=>⟨rfl,rfl⟩) (fun D i ys H' hq_=>by obtain ⟨f1,f2⟩:=hq_;exact ⟨by rw [f2];exact Ap,by rw [f1,Aw,Aw];unfold An;rw [Aw];exact EF _ _⟩) (fun D i ys H' hD hq_=>by obtain ⟨_,f2⟩:=hq_;rw [f2];exact SqL.of (A2 hD _ _ _ hx)) ?_ ?_
  ·rintro D2 i2 y2 ys2 H2 K3 K4 hD2 hy2 ⟨g1,rfl⟩ k3 k4
   obtain ⟨f,hf,rfl,fm,et⟩:=EZ hy2
   refine ⟨f.1,_,_,rfl,SqT.of (A2 hD2 _ _ _ (gx f fm).1),?_⟩
   refine yes (ifT rfl ?_)
   refine ⟨_,rfl,?_⟩
   refine k3 _ _ Ap ⟨?_,by rw [DM]⟩
   rw [et,Cq,Bc,Bc,g1]
   rfl
  rintro D2 ys2 H2 hD2 ⟨rfl,rfl⟩
  rw [Cr,CJ (AB _)]
  refine ⟨D2,_,rfl,SqL.of Ap,?_⟩
  have s5:=A2 hD2 (.lst (((An x.2).map (·.2)).map V.int))
  refine k1 _ _ (s5 _ _ f2) ⟨?_,Ap,Bu (f3.trans s5) hD⟩
  rw [f1,CA,ex,Bc,Bc]
  rfl
 ·rintro D ys H' hD ⟨f1,f2,f3⟩
  rw [Aw,Eu] at f1
  subst f1
  exact ⟨D,_,rfl,SqL.of f2,q _ f3⟩
theorem ok_j (T:Tx K mg ad):AG P w K mg base CX0 1 ad.f_j ad.d_j ["self"] (Tw ad.c_a):=by
 exists j
 obtain ⟨a,m,S,O,f,dx,k,w,rfl,ha,q⟩:=h
 refine ⟨_,(~~~(B4 (pv 0) rfl)),?_⟩
 exact ⟨_,rfl,a,_,dx,_,_,rfl,ha,T.cl_a,T.na_a_b3,rfl,q⟩
theorem ok_i (T:Tx K mg ad):AG P w K mg base CX0 1 ad.f_i ad.d_i ["self"] (Su ad.c_a):=by
 exists i
 obtain ⟨a,m,S,O,f,k,w,bs,dss,os,rfl,lk,kl,q⟩:=h
 refine ⟨_,(~~~(GN (D1⊂((B4 (pv 0) rfl)∪Gj)) (B0∩((B4 (pv 0) rfl)∪(B4 (pv 0) rfl))) E8)),?_⟩
 obtain ⟨dx,ha⟩:=lk.at_
 refine ⟨_,rfl,a,_,dx,_,_,rfl,ha,T.cl_a,T.na_a_b3,rfl,?_⟩
 and_intros
 by_cases c:w="open"
 ·rw [At c] at q
  refine ifT (Be (by rw [c])) ?_
  refine ⟨_,rfl,a,_,dx,_,_,rfl,ha,T.cl_a,T.na_a_b7,rfl,?_⟩
  refine ⟨_,rfl,a,_,dx,_,_,rfl,ha,T.cl_a,T.na_a_b2,rfl,?_⟩
  have kk:=kl c
  refine ⟨O,_,_,_,rfl,rfl,SqL.of lk.od,atN (BF kk),?_⟩
  rw [BP,BF kk] at q
  exact q
 ·rw [Ao c] at q
  refine ifF (Bo (fun e=>c (by injection e))) ?_
  exact q
theorem ok_f (T:Tx K mg ad):AG P w K mg base CX0 1 ad.f_f ad.d_f ["self"] (SI ad.c_c):=by
 exists f
 obtain ⟨b,L,n,bs,rfl,ib,q⟩:=h
 refine ⟨_,(~~~(@B2 _ _ _ _ _ _ _ _ _ Dm (by rfl) T.z_bw Dh (@Aj _ _ _ _ _ (B4 (pv 0) rfl) Am (by rfl)) (by decide) (by decide) (by rfl) (by rfl))),?_⟩
 obtain ⟨⟨dx,hb⟩,hL,hx,hn⟩:=ib
 refine ⟨_,rfl,b,_,dx,_,_,rfl,hb,T.cl_c,T.na_c_b1,rfl,?_⟩
 refine ⟨L,_,rfl,.inl (SqL.of hL),?_⟩
 rw [Aw]
 exact q
theorem ok_ar (T:Tx K mg ad):AG P w K mg base CX0 1 ad.f_ar ad.d_ar ["self","paper"] (Tl ad.c_b):=by
 exists ar
 obtain ⟨a,p,h,s,st,u,v,ns,xs,l,rfl,il,sn,pp,q⟩:=h
 refine ⟨_,(@Av _ _ _ _ _ (2<=<(Lq (fsc:=Aq Gp) (N:=["self","paper","given"]) (Nc:=["self","paper","given","marks","hand"]) rfl rfl ⟨rfl,by decide +kernel,by decide +kernel,by decide +kernel,by decide +kernel,rfl,by decide +kernel,rfl,by decide +kernel⟩ rfl (B_ (C6∩((pv 1)∪Au))) (fun _ _ _ _=>Cv) (fun _ _ _ _=>(pv 4)))) (~~~(D3 (fsc:=Aq Gp) (N:=["self","paper","given"]) (Nc:=["self","paper","given","hand"]) rfl rfl ⟨rfl,by decide +kernel,by decide +kernel,rfl,by decide +kernel,rfl,by decide +kernel,rfl,by decide +kernel⟩ rfl (EW rfl T.z_bz (@Aj _ _ _ _ _ (B4 (pv 0) rfl) Am (by rfl))) (fun _ _ _ _=>Cv) (fun _ _ _ _=>(@YJ _ _ _ _ _ _ _ _ _ _ _ _ K Ee PySem.F.slot_list_count PySem.F.type_list_count (Yp (K:=K)) (pv 2) (@Aj _ _ _ _ _ (pv 3) Am (by rfl)) (by rfl) (by rfl) (by rfl) (by rfl) (by rfl) (by rfl)))))),?_⟩
 obtain ⟨dx,la,t,k1,k2,k3⟩:=id il
 obtain ⟨pv,pr,p1,p2,ms,r1,r2,r3⟩:=id pp
 have h12:=sn.h12
 have mk60:ms.length<=60:=by rw [r2];unfold many;have:=sn.s60;split <;> omega
 refine ⟨_,rfl,p,_,_,_,rfl,rfl,SqT.of p1,rfl,?_⟩
 refine ⟨pr,rfl,⟨_,SqL.of r1⟩,?_⟩
 refine JP (zs:=ms.map fun q=>V.ref q.1) rfl rfl (by rw [Aw];exact D7 (by omega)) (fun D i ys H'=>ys=(Dp xs ns l st h i).map V.int/\H'=upd H D (.lst ys)) (fun D hD=>⟨rfl,rfl⟩) (fun D i ys H' hq_=>by obtain ⟨f1,f2⟩:=hq_;exact ⟨by rw [f2];exact Ap,by rw [f1,Aw,R1];exact AB _⟩) (fun D i ys H' hD hq_=>by obtain ⟨_,f2⟩:=hq_;rw [f2];exact SqL.of (A2 hD _ _ _ r1)) ?_ ?_
 ·rintro D i x ys H' K1 K2 hD hx ⟨f1,rfl⟩ c1 c2
  rw [Bm] at hx
  obtain ⟨q0,hq,rfl⟩:=Option.map_eq_some_iff.mp hx
  refine ⟨q0.1,_,_,rfl,SqT.of (A2 hD _ _ _ (r3 i q0 hq).1),?_⟩
  refine yes (ifT rfl ?_)
  refine ⟨_,rfl,?_⟩
  refine c1 _ _ Ap ⟨?_,by rw [DM]⟩
  rw [f1,R3,Bc]
  rfl
 rintro D ys H1 hD ⟨rfl,rfl⟩
 rw [Aw,r2]
 have s1:=A2 hD (.lst ((Dp xs ns l st h (many xs ns l s)).map V.int))
 have e1:(upd H D (.lst ((Dp xs ns l st h (many xs ns l s)).map V.int))) D=Aa (.lst ((Dp xs ns l st h (many xs ns l s)).map V.int)):=Ap
 generalize upd H D (.lst ((Dp xs ns l st h (many xs ns l s)).map V.int))=H1 at s1 e1 ⊢
 refine ⟨_,rfl,a,_,dx,_,_,rfl,s1 _ _ k1,T.cl_b,T.na_b_bv,rfl,?_⟩
 and_intros
 refine ⟨by omega,by omega,?_⟩
 refine Gf (D7 (by omega)) (fun D2 i ys H'=>ys=((Bz i).map fun j:Ae=>(((Dp xs ns l st h (many xs ns l s)).count (j:Ac):Ae):Ac)).map V.int/\H'=upd H1 D2 (.lst ys)) (fun D2 hD2=>⟨rfl,rfl⟩) (fun D2 i ys H' hq_=>by obtain ⟨f1,f2⟩:=hq_;exact ⟨by rw [f2];exact Ap,by rw [f1,Aw,Aw,DB];exact AB _⟩) ?_ ?_
 ·rintro D2 i ys H' K1 K2 hD2 hi ⟨f1,rfl⟩ c1 c2
  refine yes (ifT rfl ?_)
  have e1':=A2 hD2 (.lst ys) _ _ e1
  refine ⟨_,rfl,.inl ⟨rfl,_,SqL.of e1'⟩,_,rfl,D,_,_,rfl,rfl,SqL.of e1',?_⟩
  refine c1 _ _ Ap ⟨?_,by rw [DM]⟩
  rw [f1,O8,Bc,Bc,D_]
  rfl
 rintro D2 ys H2 hD2 ⟨rfl,rfl⟩
 have fin:((Bz h).map fun j:Ae=>(((Dp xs ns l st h (many xs ns l s)).count (j:Ac):Ae):Ac))=By xs ns l st h (many xs ns l s):=by
  by_cases c:Cu xs ns l=[]
  ·have e:many xs ns l s=0:=At c
   rw [e]
   exact Xr
  ·exact Xp (sn.pk c) _
 rw [Ce,fin]
 exact q D2 _ (none_of s1 hD2) (s1.trans (A2 hD2 _)) Ap
theorem ok_au (T:Tx K mg ad):AG P w K mg base CX0 1 ad.f_au ad.d_au ["self","way"] (SJ K):=by
 exists au
 obtain ⟨g,C,dx,a,rfl,hg,cl,na,q⟩:=h
 refine ⟨_,(@Bl _ _ _ (Dq (pv 0) (pv 1) rfl)),?_⟩
 refine ⟨_,rfl,_,rfl,g,C,dx,[],rfl,hg,cl,na,(by simp only [Cs];decide),?_⟩
 rw [Z7]
 exact q _ (E7 (DH H g)) Ap
theorem ok_av (T:Tx K mg ad):AG P w K mg base CX0 1 ad.f_av ad.d_av ["self","sheet"] Aa0:=by
 refine T.F_av.ok sc_av (fun vs H Q E h=>?_) (fun cdv A outer s H vs Q E hr h=>?_)
 ·obtain ⟨m,l,rfl,_⟩:=h
  rfl
 obtain ⟨m,l,rfl,q⟩:=h
 refine ⟨_,(~~~(@BI _ _ _ _ _ (@Aj _ _ _ _ _ Au (@Aj _ _ _ _ _ (@Cz _ _ _ _ Am) Am (by rfl)) (by rfl)))),?_⟩
 and_intros
 refine ⟨(by show 0<=A5;decide),fun e he=>?_⟩
 have s1:=A2 he (.lst [])
 generalize upd H e (.lst [])=H1 at s1 ⊢
 refine ⟨(by show 2<=A5;decide),fun t ht=>?_⟩
 exact q t e _ (s1.trans (A2 ht _)) Ap
theorem ok_ba (T:Tx K mg ad):AG P w K mg base CX0 2 ad.f_ba ad.d_ba ["thing"] SU:=by
 exists ba
 obtain ⟨n,rfl,n0,n1,q⟩:=h
 refine ⟨_,(~~~(@ES _ _ _ _ _ _ _ (ag<*(@Aj _ _ _ _ _ (pv 0) Am (by rfl))) (@EV _ _ _ _ _ (J_ EQ EQ Au (pv 0) (Gi (v:=.int 1000000000) rfl T.k_cv ⟨_,rfl⟩))))),?_⟩
 refine ⟨_,rfl,n,rfl,?_⟩
 and_intros
 refine ifT (Be n0) ?_
 and_intros
 show Q (.bl (decide (n<=1000000000))) H
 rw [Be n1]
 exact q
theorem ok_a0 (T:Tx K mg ad):AG P w K mg base CX0 2 ad.f_a0 ad.d_a0 ["sheets"] Sx:=by
 exists a0
 obtain ⟨l,bs,p,rfl,hl,g,hp,p64,pos,l900,q⟩:=h
 refine ⟨_,(@Av _ _ _ _ _ (1<$>(@Cz _ _ _ _ Am)) (@Av _ _ _ _ _ (CW CC rfl (B_ (pv 0)) (Ci (i:=2) sc_a0.nd rfl (BW rfl)) (@Bl _ _ _ (@D4 _ _ _ _ (DY Ee PySem.F.slot_list_extend PySem.F.type_list_extend Yq (pv 1) (@Aj _ _ _ _ _ (pv 2) Am (by rfl))) (by rfl)))) (~~~(a4<*(@Aj _ _ _ _ _ (al<*(@Aj _ _ _ _ _ (pv 1) Am (by rfl))) Am (by rfl)))))),?_⟩
 refine ⟨(by show 0<=A5;decide),fun a ha=>?_⟩
 have s0:=A2 ha (.lst [])
 have e0:(upd H a (.lst [])) a=Aa (.lst (vls [])):=Ap
 generalize upd H a (.lst [])=H0 at s0 e0 ⊢
 refine ⟨_,rfl,l,rfl,⟨_,SqL.of (s0 _ _ hl)⟩,E4 (xs:=bs.map fun b=>V.ref b.1) (fun i σ' H'=>∃v,σ'=[Aa (.ref l),Aa (.ref a),v]/\Ax H H'/\H' a=Aa (.lst (vls (AU (bs.take i))))) ⟨Ag,rfl,s0,e0⟩ (fun i σ' H' _ hq_=>by obtain ⟨_,_,e,_⟩:=hq_;exact SqL.of (e _ _ hl)) ?_ ?_⟩
 ·rintro i x σ' H' hx ⟨v,rfl,s1,e1⟩
  rw [Bm] at hx
  cases eb:bs[i]? with
  | none=>rw [eb] at hx;cases hx
  | some b =>
    rw [eb] at hx
    cases Bp hx
    have bm:=Br eb
    have et:bs.take (i+1)=bs.take i++[b]:=by rw [CA,eb];rfl
    have ea:AU (bs.take (i+1))=AU (bs.take i)++b.2:=by
     unfold AU
     rw [et,Bc,LZ]
     simp
    have le:(AU (bs.take i)).length+b.2.length<=900:=by
     have e2:AU bs=AU (bs.take (i+1))++AU (bs.drop (i+1)):=by
      unfold AU
      rw [<- LZ,<- Bc,OD]
     rw [e2,ea,B9,B9] at l900
     omega
    refine ⟨_,rfl,.inl ⟨rfl,_,SqL.of e1⟩,_,rfl,a,b.1,_,_,rfl,rfl,e1,s1 _ _ (g b bm).1,(by rw [Cr,Cr];exact D8 le),?_⟩
    refine ⟨_,rfl,Bu s1 ha,?_⟩
    rw [Ap,ea,G_]
 ·rintro σ' H' ⟨v,rfl,s1,e1⟩
  rw [Aw,CJ (AB _)] at e1
  have gA:AO H' (AU bs):=fun q m=>by
   obtain ⟨ls,lm,qm⟩:=List.mem_flatten.mp m
   obtain ⟨b,bm,rfl⟩:=List.mem_map.mp lm
   exact ((g b bm).2.same s1) q qm
  refine ⟨_,rfl,a,AU bs,p,rfl,e1,gA,hp,p64,fun d kvs H1 hd s2 e2 dk=>?_⟩
  refine ⟨d,kvs,rfl,e2,dk.vd,Hl (dk.len hp) p64,fun l' ls' H2 hl' s3 e3 g2 srt mem l64=>?_⟩
  exact q l' ls' H2 (none_of (s1.trans s2) hl') ((s1.trans s2).trans s3) e3 g2 (dk.sheet pos srt mem) l64
theorem ok_aw (T:Tx K mg ad):AG P w K mg base CX0 2 ad.f_aw ad.d_aw ["one","other"] Sg:=by
 exists aw
 obtain ⟨l,m,ls,ms,p,rfl,hl,gl,l64,hm,gm,kp,p64,q⟩:=h
 refine ⟨_,(@Av _ _ _ _ _ (2<=<(al<*(@Aj _ _ _ _ _ (pv 1) Am (by rfl)))) (~~~(@B2 _ _ _ _ _ _ _ _ _ (JN rfl) (by rfl) T.z_ce KG (@Aj _ _ _ _ _ (Lq (fsc:=Aq GV) (N:=["one","other","others"]) (Nc:=["one","other","others","slip","number"]) rfl rfl ⟨rfl,by decide +kernel,by decide +kernel,by decide +kernel,by decide +kernel,rfl,by decide +kernel,rfl,by decide +kernel⟩ rfl (B_ (pv 0)) (fun _ _ _ _=>Cv) (fun _ _ _ _=>(@B2 _ _ _ _ _ _ _ _ _ (MY rfl) (by rfl) T.z_ch Mu (@Aj _ _ _ _ _ Au (@Aj _ _ _ _ _ (@A9 _ _ _ _ _ _ _ _ GM (pv 4) (NC (u1 hr.units) (pv 2) (pv 3) Au ⟨rfl,rfl,rfl,rfl⟩)) Am (by rfl)) (by rfl)) (by decide) (by decide) (by rfl) (by rfl)))) Am (by rfl)) (by decide) (by decide) (by rfl) (by rfl)))),?_⟩
 refine ⟨_,rfl,m,ms,p,rfl,hm,gm,kp,p64,fun d kvs H1 hd s1 e1 dk=>?_⟩
 have hl1:=s1 _ _ hl
 refine ⟨_,rfl,l,rfl,⟨_,SqL.of hl1⟩,?_⟩
 refine JP (zs:=vls ls) rfl rfl (by rw [Cr];exact D7 (by omega)) (fun D i ys H'=>ys=((An (ls.take i)).map fun q=>if q.2 - tot (An ms) q.1 > 0 then q.2 - tot (An ms) q.1 else 0).map V.int/\H'=upd H1 D (.lst ys)) (fun D hD=>⟨rfl,rfl⟩) (fun D i ys H' hq_=>by obtain ⟨f1,f2⟩:=hq_;exact ⟨by rw [f2];exact Ap,by rw [f1,Aw,Aw];unfold An;rw [Aw];exact EF _ _⟩) (fun D i ys H' hD hq_=>by obtain ⟨_,f2⟩:=hq_;rw [f2];exact SqL.of (A2 hD _ _ _ hl1)) ?_ ?_
 ·rintro D i x ys H' K1 K2 hD hx ⟨f1,rfl⟩ k1 k2
  obtain ⟨f,hf,rfl,fm,et⟩:=EZ hx
  have sD:=A2 hD (.lst ys)
  obtain ⟨g1,g2⟩:=gl f fm
  have kt:(upd H1 D (.lst ys)) f.2.1=Aa (.tup ((f.2.2.1.map BC:Ab Key).map kV)):=by rw [GF];exact (s1.trans sD) _ _ g2
  refine ⟨f.1,_,_,rfl,SqT.of ((s1.trans sD) _ _ g1),?_⟩
  refine yes (ifT rfl ?_)
  refine ⟨_,rfl,_,rfl,d,rfl,.inr ⟨_,.inl (sD _ _ e1)⟩,_,rfl,_,Ei.t (sD _ _ e1) kt,?_⟩
  rw [N4 dk]
  refine ⟨_,_,rfl,rfl,_,_,rfl,?_⟩
  refine k1 _ _ Ap ⟨?_,by rw [DM]⟩
  rw [et,Cq,Bc,Bc,f1]
  rfl
 rintro D ys H' hD ⟨rfl,rfl⟩
 rw [Cr,CJ (AB _)]
 exact ⟨D,_,rfl,SqL.of Ap,q _ (s1.trans (A2 hD _))⟩
theorem ok_bb (T:Tx K mg ad):AG P w K mg base CX0 2 ad.f_bb ad.d_bb ["thing"] SY:=by
 exists bb
 obtain ⟨r,rfl,r0,r1,q⟩:=h
 refine ⟨_,(~~~(@ES _ _ _ _ _ _ _ (ag<*(@Aj _ _ _ _ _ (pv 0) Am (by rfl))) (@EV _ _ _ _ _ (J_ EQ EQ Au (pv 0) (Gi (v:=.int 1000000000) rfl T.k_cx ⟨_,rfl⟩))))),?_⟩
 refine ⟨_,rfl,r,rfl,?_⟩
 and_intros
 refine ifT (Be r0) ?_
 and_intros
 show Q (.bl (decide (r<=1000000000))) H
 rw [Be r1]
 exact q
theorem ok_an (T:Tx K mg ad):AG P w K mg base CX0 2 ad.f_an ad.d_an ["ranks","wanted"] (Tk K):=by
 exists an
 obtain ⟨p,rs,r,rfl,hS,h12,q⟩:=h
 refine ⟨_,(@Av _ _ _ _ _ (2<$>Au) (@Av _ _ _ _ _ (CW CC rfl (YX rfl T.z_ck (@Aj _ _ _ _ _ (pv 0) Am (by rfl))) (Fz rfl (CV (Ci (i:=3) sc_an.nd rfl (BW rfl)) (CV (Ci (i:=4) sc_an.nd rfl (BW rfl)) F0))) (@Bl _ _ _ ((D1⊂((pv 4)∪(pv 1)))⊆((@Bl _ _ _ (2<$>(bk<*(@Aj _ _ _ _ _ (pv 2) (@Aj _ _ _ _ _ (pv 3) Am (by rfl)) (by rfl)))))∪Bs)))) (~~~(pv 2)))),?_⟩
 refine ⟨_,rfl,p,rfl,⟨_,hS⟩,WZ (xs:=rs.map V.int) (fun i σ' H'=>∃v3 v4,σ'=[Aa (.ref p),Aa (.int r),Aa (.int (BU i (isR rs r))),v3,v4]/\Ax H H') ⟨Ag,Ag,rfl,fun _ _ e=>e⟩ (fun i σ' H' _ hq_=>by obtain ⟨_,_,_,e⟩:=hq_;exact e.seq hS) ?_ ?_⟩
 ·rintro i x T0 σ' H' hx ⟨v3,v4,rfl,s1⟩ hT
  obtain ⟨z,hz,rfl⟩:=int_at hx
  have hi:i < rs.length:=(List.getElem?_eq_some_iff.mp hz).1
  have s2:=A2 hT (.tup [.int (i:Ac),.int z])
  have eT:(upd H' T0 (.tup [.int (i:Ac),.int z])) T0=Aa (.tup [.int (i:Ac),.int z]):=Ap
  generalize upd H' T0 (.tup [.int (i:Ac),.int z])=H2 at s2 eT ⊢
  refine ⟨T0,_,rfl,SqT.of eT,rfl,_,_,rfl,_,_,rfl,rfl,?_⟩
  have ms:=Ny i (isR rs r)
  have eb:decide (V.int z=V.int r)=isR rs r i:=by
   unfold isR
   rw [hz]
   by_cases c:z=r
   ·rw [Be (by rw [c]),Be (by rw [c])]
   ·rw [Bo (fun e=>c (V.int.inj e)),Bo (fun e=>c (Bp e))]
  and_intros
  cases er:isR rs r i with
  | true =>
    refine ifT (eb.trans er) ?_
    refine ⟨_,rfl,_,rfl,BU i (isR rs r),(i:Ac),rfl,by omega,by omega,?_⟩
    have e:Ko (BU i (isR rs r)) (1*2 ^ (i:Ac).toNat)=BU (i+1) (isR rs r):=by
     rw [ms,er,At rfl,Ce]
     exact YC i _
    rw [e]
    exact ⟨_,_,rfl,s1.trans s2⟩
  | false =>
    refine ifF (eb.trans er) ?_
    rw [er,Ao (by decide),Es] at ms
    exact ⟨_,_,by rw [ms];rfl,s1.trans s2⟩
 ·rintro σ' H' ⟨v3,v4,rfl,s1⟩
  refine ⟨_,rfl,?_⟩
  rw [Aw]
  exact q _ s1
theorem ok_l (T:Tx K mg ad):AG P w K mg base CX0 2 ad.f_l ad.d_l ["slip","hands"] SZ:=by
 exists l
 obtain ⟨t,ts,n,rfl,ht,n12,hts,q⟩:=h
 refine ⟨_,(@Av _ _ _ _ _ (Gm (j:=2) (fsc:=Aq s_l) (N:=["slip","hands","ranks","place","tier","hand"]) (Nc:=["slip","hands","ranks","place","tier",".s5","hand"]) rfl rfl ⟨rfl,by decide +kernel,by decide +kernel,rfl,by decide +kernel,rfl,by decide +kernel,rfl,by decide +kernel⟩ rfl sc_l.nd rfl rfl (EW rfl T.z_bz (@Aj _ _ _ _ _ (pv 1) Am (by rfl))) (fun _ _ _ _=>Cv) (fun _ _ _ _=>Au) rfl) (@Av _ _ _ _ _ (CW CC rfl (YZ rfl T.z_ck (@Aj _ _ _ _ _ (pv 0) Am (by rfl))) (Fz rfl (CV (Ci (i:=3) sc_l.nd rfl (BW rfl)) (CV (Ci (i:=4) sc_l.nd rfl (BW rfl)) F0))) (@Bl _ _ _ (CW CC rfl (B_ (v<*(@Aj _ _ _ _ _ (pv 4) Am (by rfl)))) (Ci (i:=5) sc_l.nd rfl (BW rfl)) (@Bl _ _ _ (EX (@A9 _ _ _ _ _ _ _ _ Ch (pv 3) Au) (Fy (pv 2) (pv 5) FC)))))) (~~~(pv 2)))),?_⟩
 refine ⟨_,rfl,(n:Ac),rfl,by omega,by omega,?_⟩
 rw [show ((n:Ac)).toNat=n from Ce n]
 refine Gf (D7 (by omega)) (fun D i ys H'=>ys=(Ct i (0:Ac)).map V.int/\H'=upd H D (.lst ys)) (fun D hD=>⟨rfl,rfl⟩) (fun D i ys H' hq_=>by obtain ⟨f1,f2⟩:=hq_;exact ⟨by rw [f2];exact Ap,by rw [f1,Aw,Fc];exact AB _⟩) ?_ ?_
 ·rintro D i ys H' K1 K2 hD hi ⟨f1,rfl⟩ k1 k2
  refine yes (ifT rfl ?_)
  refine k1 _ _ Ap ⟨?_,by rw [DM]⟩
  rw [f1,LG,Bc]
  rfl
 rintro l ys H1 hl ⟨rfl,rfl⟩
 have s1:=A2 hl (.lst ((Ct n (0:Ac)).map V.int))
 have e1:(upd H l (.lst ((Ct n (0:Ac)).map V.int))) l=Aa (.lst ((Ct n (0:Ac)).map V.int)):=Ap
 generalize upd H l (.lst ((Ct n (0:Ac)).map V.int))=H1 at s1 e1 ⊢
 have e0:H1 l=Aa (.lst (((Bz n).map fun h=>rk ts h 0).map V.int)):=by
  rw [e1]
  congr 3
  apply G0
  ·simp
  ·intro i h1 h2
   simp [rk]
 refine ⟨_,rfl,t,rfl,⟨_,SqT.of (s1 _ _ ht)⟩,W' (xs:=ts.map V.int) (fun i σ' H'=>∃v3 v4 v5,σ'=[Aa (.ref t),Aa (.int (n:Ac)),Aa (.ref l),v3,v4,v5]/\Ax H H'/\H' l=Aa (.lst (((Bz n).map fun h=>rk ts h i).map V.int))) ⟨Ag,Ag,Ag,rfl,s1,e0⟩ (fun i σ' H' _ hq_=>by obtain ⟨_,_,_,_,e,_⟩:=hq_;exact SqT.of (e _ _ ht)) ?_ ?_⟩
 ·rintro i x T0 σ' H' hx ⟨v3,v4,v5,rfl,s2,e2⟩ hT
  obtain ⟨z,hz,rfl⟩:=int_at hx
  have hi:i < ts.length:=(List.getElem?_eq_some_iff.mp hz).1
  obtain ⟨z0,z1⟩:=hts z (Br hz)
  have z12:z < 4096:=by
   have q:2 ^ n<=2 ^ 12:=Hn (by decide) n12
   have a1:((2 ^ n:Ae):Ac)=(2:Ac) ^ n:=by simp
   omega
  have s3:=A2 hT (.tup [.int (i:Ac),.int z])
  have eT:(upd H' T0 (.tup [.int (i:Ac),.int z])) T0=Aa (.tup [.int (i:Ac),.int z]):=Ap
  generalize upd H' T0 (.tup [.int (i:Ac),.int z])=H2 at s3 eT ⊢
  refine ⟨T0,_,rfl,SqT.of eT,rfl,_,_,rfl,_,_,rfl,rfl,?_⟩
  refine ⟨_,rfl,z,rfl,z0,z12,fun m H3 hm s4 e4=>?_⟩
  have e3:=(s3.trans s4) _ _ e2
  have lm:l≠m:=fun e=>by
   rw [<- e] at hm
   rw [s3 _ _ e2] at hm
   cases hm
  have sH3:=s2.trans (s3.trans s4)
  refine ⟨m,rfl,⟨_,SqL.of e4⟩,E4 (xs:=(hands 12 (bit z)).map V.int) (fun j σ' H'=>∃v5,σ'=[Aa (.ref t),Aa (.int (n:Ac)),Aa (.ref l),Aa (.int (i:Ac)),Aa (.int z),v5]/\Ax H H'/\H' m=Aa (.lst ((hands 12 (bit z)).map V.int))/\H' l=Aa (.lst (((Bz n).map fun h:Ae=>if (h:Ac)∈(hands 12 (bit z)).take j then (i:Ac)+1 else rk ts h i).map V.int))) ⟨_,rfl,sH3,e4,by rw [e3];simp⟩ (fun j σ' H' _ hq_=>by obtain ⟨_,_,_,e,_⟩:=hq_;exact SqL.of e) ?_ ?_⟩
  ·rintro j y σ' H4 hy ⟨v5',rfl,s5,e5,e6⟩
   obtain ⟨h,hh,rfl⟩:=int_at hy
   obtain ⟨h',h12,hb,rfl⟩:=Nj.mp (Br hh)
   have hn:h' < n:=by
    cases Nat.lt_or_ge h' n with
    | inl c=>exact c
    | inr c =>
      have p:(2:Ac) ^ n<=2 ^ h':=by
       have q:2 ^ n<=2 ^ h':=Hn (by decide) c
       have a1:((2 ^ n:Ae):Ac)=(2:Ac) ^ n:=by simp
       have a2:((2 ^ h':Ae):Ac)=(2:Ac) ^ h':=by simp
       omega
      rw [PV z0 (by omega)] at hb
      cases hb
   have et:(hands 12 (bit z)).take (j+1)=(hands 12 (bit z)).take j++[(h':Ac)]:=by rw [CA,hh];rfl
   and_intros
   refine ⟨l,_,_,h',rfl,rfl,e6,E5 (by rw [Aw,Aw,DB];exact hn),?_⟩
   refine ⟨_,rfl,Bu s5 hl,?_,?_⟩
   ·rw [AF (AM lm)];exact e5
   ·rw [Ap,<- Et,Aal _ _ hn,et]
    congr 3
    apply Md
    intro k _
    by_cases c:k=h'
    ·subst c;simp
    ·have c':¬ (k:Ac)=(h':Ac):=by omega
     simp [c,c']
  ·rintro σ' H4 ⟨v5',rfl,s5,e5,e6⟩
   refine ⟨_,_,_,rfl,s5,?_⟩
   rw [Aw,CJ (AB _)] at e6
   rw [e6]
   congr 3
   apply Md
   intro h hm'
   have hn:=List.mem_range.mp hm'
   show _=if bit (ts.getD i 0) h=Af then (i:Ac)+1 else rk ts h i
   rw [BP,hz,Vk]
   have iff:(h:Ac)∈hands 12 (bit z)↔bit z h=Af:=by
    rw [Nj]
    constructor
    ·rintro ⟨k,_,k2,k3⟩
     have:h=k:=by omega
     rw [this];exact k2
    ·intro b
     exact ⟨h,by omega,b,rfl⟩
   by_cases c:bit z h=Af
   ·rw [At c,At (iff.mpr c)]
   ·rw [Ao c,Ao (fun e=>c (iff.mp e))]
 ·rintro σ' H' ⟨v3,v4,v5,rfl,s2,e2⟩
  rw [Aw] at e2
  exact ⟨_,rfl,q l H' hl s2 e2⟩
theorem ok_a3 (T:Tx K mg ad):AG P w K mg base CX0 2 ad.f_a3 ad.d_a3 ["codes","seal"] SM:=by
 exists a3
 obtain ⟨p,r,cs,ds,pl,rfl,h1,h2,z1,z2,h100,alt,q⟩:=h
 refine ⟨_,(@Av _ _ _ _ _ (2<=<(am<*(@Aj _ _ _ _ _ (pv 0) Am (by rfl)))) (@Av _ _ _ _ _ (((Ro hr.units0)⊂((pv 2)∪(pv 1)))⊆((~~~(@BI _ _ _ _ _ (@Aj _ _ _ _ _ (@EU _ _ _ _ _ _ _ _ _ Fo (by rfl) T.z_bx EH (@Aj _ _ _ _ _ (pv 0) Am (by rfl)) (by decide) (by decide) (by rfl) (by rfl)) (@Aj _ _ _ _ _ Au Am (by rfl)) (by rfl))))∪Bs)) (@Av _ _ _ _ _ (3<$>(bg<*(@Aj _ _ _ _ _ (D3 (fsc:=Aq GO) (N:=["codes","seal","own","place","right"]) (Nc:=["codes","seal","own","place","right","k"]) rfl rfl ⟨rfl,by decide +kernel,by decide +kernel,rfl,by decide +kernel,rfl,by decide +kernel,rfl,by decide +kernel⟩ rfl (Rw (@BI _ _ _ _ _ (@Aj _ _ _ _ _ Au (@Aj _ _ _ _ _ Au (@Aj _ _ _ _ _ Au Am (by rfl)) (by rfl)) (by rfl)))) (fun _ _ _ _=>Cv) (fun _ _ _ _=>(@A9 _ _ _ _ _ _ _ _ GM ((Nq K)∩((pv 1)∪(pv 5))) ((Nq K)∩((pv 2)∪(pv 5)))))) (@Aj _ _ _ _ _ (@B2 _ _ _ _ _ _ _ _ _ Dm (by rfl) T.z_bw Dh (@Aj _ _ _ _ _ (pv 0) Am (by rfl)) (by decide) (by decide) (by rfl) (by rfl)) Am (by rfl)) (by rfl)))) (@Av _ _ _ _ _ ((PW.pt (@De _ _ _ _ _ _ _ (ER⊂((C6∩((pv 2)∪Au))∪(C6∩((pv 1)∪Au)))) (@DI _ _ _ _ (D1⊂((pv 3)∪Au)))))⊆((@Bl _ _ _ Dd)∪Bs)) (@Av _ _ _ _ _ (4<$>(@EU _ _ _ _ _ _ _ _ _ Fo (by rfl) T.z_bx EH (@Aj _ _ _ _ _ (pv 0) Am (by rfl)) (by decide) (by decide) (by rfl) (by rfl))) (@Av _ _ _ _ _ (EX (@A9 _ _ _ _ _ _ _ _ GM (@A9 _ _ _ _ _ _ _ _ Ch (B0∩((pv 4)∪(@A9 _ _ _ _ _ _ _ _ GM (pv 3) Au))) (C6∩((pv 1)∪Au))) (C6∩((pv 2)∪Au))) (Fy (pv 4) (@A9 _ _ _ _ _ _ _ _ GM (pv 3) Au) FC)) (~~~(@BI _ _ _ _ _ (@Aj _ _ _ _ _ (pv 4) (@Aj _ _ _ _ _ (pv 3) Am (by rfl)) (by rfl)))))))))),?_⟩
 refine ⟨_,rfl,p,cs,rfl,h1,z1,h100,fun o H1 ho s1 e1=>?_⟩
 refine ⟨_,rfl,_,rfl,o,r,FB cs,FB ds,rfl,rfl,SqT.of e1,SqT.of (s1 _ _ h2),_,rfl,?_⟩
 rcases alt with ⟨rfl,rfl⟩ | ⟨i,c,d,hc,d0,szd',rfl,rfl⟩
 ·refine ifT (Be rfl) ?_
  refine ⟨_,rfl,p,_,rfl,.inl (SqL.of (s1 _ _ h1)),fun a ha=>⟨(by show 2<=A5;decide),fun t ht=>?_⟩⟩
  exact q a t _ (none_of s1 ha) (s1.trans ((A2 ha _).trans (A2 ht _))) (A2 ht _ _ _ Ap) Ap
 have hi:i < cs.length:=(List.getElem?_eq_some_iff.mp hc).1
 have g1:ws f1 0 (cs.set i (c+d)) - ws f1 0 cs=d:=by
  rw [LA f1 0 cs i c d hc]
  show _+d*1 - _=d
  omega
 have g2:ws f2 0 (cs.set i (c+d)) - ws f2 0 cs=d*((i:Ac)+1):=by
  rw [LA f2 0 cs i c d hc,D_]
  show _+d*((i:Ac)+1) - _=_
  omega
 have g3:ws f3 0 (cs.set i (c+d)) - ws f3 0 cs=d*(((i:Ac)+1)*((i:Ac)+1)):=by
  rw [LA f3 0 cs i c d hc,D_]
  show _+d*(((i:Ac)+1)*((i:Ac)+1)) - _=_
  omega
 have ne:FB cs≠FB (cs.set i (c+d)):=fun e=>by
  unfold FB at e
  injection e with _ e
  injection e with e _
  rw [e] at g1
  omega
 refine ifF (Bo ne) ?_
 refine ⟨(by show 3<=A5;decide),fun a ha=>?_⟩
 have s2:=s1.trans (A2 ha (.tup [V.int 1,V.int 2,V.int 3]))
 have ea:(upd H1 a (.tup [V.int 1,V.int 2,V.int 3])) a=Aa (.tup [V.int 1,V.int 2,V.int 3]):=Ap
 have eo:=A2 ha (.tup [V.int 1,V.int 2,V.int 3]) _ _ e1
 generalize upd H1 a (.tup [V.int 1,V.int 2,V.int 3])=H2 at s2 ea eo ⊢
 refine ⟨a,rfl,⟨_,SqT.of ea⟩,?_⟩
 refine Qh (xs:=[V.int 1,V.int 2,V.int 3]) (by show 3<=A5;decide) (fun D j ys H'=>ys=([d,d*((i:Ac)+1),d*(((i:Ac)+1)*((i:Ac)+1))].take j).map V.int/\H'=upd H2 D (.lst ys)) (fun D hD=>⟨rfl,rfl⟩) (fun D j ys H' hq_=>by obtain ⟨f1,f2⟩:=hq_;exact ⟨by rw [f2];exact Ap,by rw [f1,Aw];exact EF _ _⟩) (fun D j ys H' hD hq_=>by obtain ⟨_,f2⟩:=hq_;rw [f2];exact SqT.of (A2 hD _ _ _ ea)) ?_ ?_
 ·rintro D j x ys H' K1 K2 hD hx ⟨e9,rfl⟩ k1 k2
  have er:=(s2.trans (A2 hD (.lst ys))) _ _ h2
  have eo':=A2 hD (.lst ys) _ _ eo
  refine yes (ifT rfl ?_)
  rcases j with _ | _ | _ | j
  ·cases Bp hx
   refine ⟨_,rfl,_,rfl,r,_,_,_,rfl,rfl,SqT.of er,rfl,_,rfl,_,rfl,o,_,_,_,rfl,rfl,SqT.of eo',rfl,_,_,rfl,rfl,?_⟩
   refine k1 _ _ Ap ⟨?_,by rw [DM]⟩
   rw [e9]
   try dsimp only
   rw [g1]
   rfl
  ·cases Bp hx
   refine ⟨_,rfl,_,rfl,r,_,_,_,rfl,rfl,SqT.of er,rfl,_,rfl,_,rfl,o,_,_,_,rfl,rfl,SqT.of eo',rfl,_,_,rfl,rfl,?_⟩
   refine k1 _ _ Ap ⟨?_,by rw [DM]⟩
   rw [e9]
   try dsimp only
   rw [g2]
   rfl
  ·cases Bp hx
   refine ⟨_,rfl,_,rfl,r,_,_,_,rfl,rfl,SqT.of er,rfl,_,rfl,_,rfl,o,_,_,_,rfl,rfl,SqT.of eo',rfl,_,_,rfl,rfl,?_⟩
   refine k1 _ _ Ap ⟨?_,by rw [DM]⟩
   rw [e9]
   try dsimp only
   rw [g3]
   rfl
  ·cases hx
 rintro D ys H3 hD ⟨rfl,rfl⟩
 have s3:=s2.trans (A2 hD (.lst [V.int d,V.int (d*((i:Ac)+1)),V.int (d*(((i:Ac)+1)*((i:Ac)+1)))]))
 have eo3:=A2 hD (.lst [V.int d,V.int (d*((i:Ac)+1)),V.int (d*(((i:Ac)+1)*((i:Ac)+1)))]) _ _ eo
 have eD:(upd H2 D (.lst [V.int d,V.int (d*((i:Ac)+1)),V.int (d*(((i:Ac)+1)*((i:Ac)+1)))])) D=Aa (.lst [V.int d,V.int (d*((i:Ac)+1)),V.int (d*(((i:Ac)+1)*((i:Ac)+1)))]):=Ap
 rw [show ([d,d*((i:Ac)+1),d*(((i:Ac)+1)*((i:Ac)+1))].take [V.int 1,V.int 2,V.int 3].length).map V.int=[V.int d,V.int (d*((i:Ac)+1)),V.int (d*(((i:Ac)+1)*((i:Ac)+1)))] from rfl]
 generalize upd H2 D (.lst [V.int d,V.int (d*((i:Ac)+1)),V.int (d*(((i:Ac)+1)*((i:Ac)+1)))])=H3 at s3 eo3 eD ⊢
 have hp3:=s3 _ _ h1
 have hr3:=s3 _ _ h2
 have szi:Sz 64 ((i:Ac)+1):=C1 (by omega) (by omega)
 refine ⟨_,rfl,p,_,rfl,.inl (SqL.of hp3),?_⟩
 refine ⟨D,_,_,_,_,rfl,eD,szd'.mono (by decide),(szd'.mul szi).mono (by decide),?_⟩
 rw [Zf d0 (by omega) (by rw [Aw];omega)]
 and_intros
 refine ifF (GJ (by rw [DO])) ?_
 and_intros
 intro b hb
 have s4:=s3.trans (A2 hb (.lst (cs.map V.int)))
 have eb:(upd H3 b (.lst (cs.map V.int))) b=Aa (.lst (cs.map V.int)):=Ap
 have eo4:=A2 hb (.lst (cs.map V.int)) _ _ eo3
 have hbH:=none_of s3 hb
 generalize upd H3 b (.lst (cs.map V.int))=H4 at s4 eb eo4 ⊢
 have hr4:=s4 _ _ h2
 have e1':(i:Ac)+1 - 1=(i:Ac):=by omega
 refine ⟨_,rfl,_,rfl,_,_,rfl,rfl,b,_,_,_,rfl,rfl,SqL.of eb,(by rw [e1'];exact atN hc),?_⟩
 and_intros
 refine ⟨b,_,_,i,rfl,rfl,eb,(by rw [e1'];exact E5 (by rw [Aw];exact hi)),?_⟩
 have ev:c+ws f1 0 (cs.set i (c+d)) - ws f1 0 cs=c+d:=by omega
 have es:(cs.map V.int).set i (V.int (c+ws f1 0 (cs.set i (c+d)) - ws f1 0 cs))=(cs.set i (c+d)).map V.int:=by rw [ev,Et]
 show (fun (σ':St) (H':Hp)=>_) _ (upd H4 b (.lst ((cs.map V.int).set i (V.int (c+ws f1 0 (cs.set i (c+d)) - ws f1 0 cs)))))
 rw [es]
 and_intros
 refine ⟨(by show 2<=A5;decide),fun t ht=>?_⟩
 exact q b t _ hbH ((Bu s4 hbH).trans (A2 ht _)) (A2 ht _ _ _ Ap) Ap
theorem ok_ab (T:Tx K mg ad):AG P w K mg base CX0 2 ad.f_ab ad.d_ab ["thing"] Aaz:=by
 refine T.F_ab.ok sc_ab (fun vs H Q E h=>?_) (fun cdv A outer s H vs Q E hr h=>?_)
 ·obtain ⟨n,rfl,_⟩:=h
  rfl
 obtain ⟨n,rfl,n0,n1,q⟩:=h
 refine ⟨_,(~~~(@ES _ _ _ _ _ _ _ (ag<*(@Aj _ _ _ _ _ (pv 0) Am (by rfl))) (@EV _ _ _ _ _ (J_ EQ EQ Au (pv 0) (Gi (v:=.int 12) rfl T.k_cw ⟨_,rfl⟩))))),?_⟩
 refine ⟨_,rfl,n,rfl,?_⟩
 and_intros
 refine ifT (Be n0) ?_
 and_intros
 show Q (.bl (decide (n<=12))) H
 rw [Be n1]
 exact q
theorem ok_ad (T:Tx K mg ad):AG P w K mg base CX0 2 ad.f_ad ad.d_ad ["thing"] Aa2:=by
 refine T.F_ad.ok sc_ad (fun vs H Q E h=>?_) (fun cdv A outer s H vs Q E hr h=>?_)
 ·obtain ⟨n,rfl,_⟩:=h
  rfl
 obtain ⟨n,rfl,n0,n1,q⟩:=h
 refine ⟨_,(~~~(@ES _ _ _ _ _ _ _ (ag<*(@Aj _ _ _ _ _ (pv 0) Am (by rfl))) (@EV _ _ _ _ _ (J_ EQ EQ Au (pv 0) (Gi (v:=.int 60) rfl T.k_cy ⟨_,rfl⟩))))),?_⟩
 refine ⟨_,rfl,n,rfl,?_⟩
 and_intros
 refine ifT (Be n0) ?_
 and_intros
 show Q (.bl (decide (n<=60))) H
 rw [Be n1]
 exact q
theorem ok_ac (T:Tx K mg ad):AG P w K mg base CX0 2 ad.f_ac ad.d_ac ["thing","hands"] SR:=by
 exact T.F_ac.ok sc_ac (fun _ _ _ _ h=>h.elim) (fun _ _ _ _ _ _ _ _ _ h=>h.elim)
theorem ok_a9 (T:Tx K mg ad):AG P w K mg base CX0 2 ad.f_a9 ad.d_a9 ["top","bottom"] SD:=by
 exists a9
 obtain ⟨t,b,rfl,b0,szt,szb,q⟩:=h
 refine ⟨_,(@Av _ _ _ _ _ ((PW.pt (@De _ _ _ _ _ _ _ (@Co _ _ _ _ (@Cj _ _ _ (ag<*(@Aj _ _ _ _ _ (pv 0) Am (by rfl))) (by intro _;rfl))) (@DI _ _ _ _ (@Co _ _ _ _ (@Cj _ _ _ (ag<*(@Aj _ _ _ _ _ (pv 1) Am (by rfl))) (by intro _;rfl))))))⊆((@Bl _ _ _ Dd)∪Bs)) (@Av _ _ _ _ _ ((D1⊂((pv 1)∪Au))⊆((@Bl _ _ _ Dd)∪Bs)) (@Av _ _ _ _ _ (2<$>(s<*(@Aj _ _ _ _ _ (pv 0) (@Aj _ _ _ _ _ (pv 1) Am (by rfl)) (by rfl)))) (@Av _ _ _ _ _ (@NI _ _ _ _ _ _ _ _ (Fx⊂((pv 1)∪Au)) (@Bl _ _ _ (2<$>(@Lr _ _ _ _ _ _ Ly (pv 2)))) Bs) (~~~(@BI _ _ _ _ _ (@Aj _ _ _ _ _ (@A9 _ _ _ _ _ _ _ _ Rp (pv 0) (pv 2)) (@Aj _ _ _ _ _ (@A9 _ _ _ _ _ _ _ _ Rp (pv 1) (pv 2)) Am (by rfl)) (by rfl)))))))),?_⟩
 refine ⟨_,rfl,_,rfl,_,rfl,?_⟩
 refine Nn ?_
 refine ⟨_,rfl,_,rfl,_,rfl,?_⟩
 refine Nn ?_
 refine ⟨_,rfl,rfl,_,rfl,?_⟩
 refine Em (fun c=>A8 (V.int.inj (DD c)) b0) (fun _=>?_)
 refine ⟨_,rfl,_,rfl,t,b,rfl,?_⟩
 refine ⟨fun σ' H'=>σ'=[Aa (.int t),Aa (.int b),Aa (.int (Dl t b))]/\H'=H,?_,?_⟩
 ·refine ⟨_,rfl,_,_,rfl,rfl,_,rfl,?_⟩
  refine Em (fun c=>?_) (fun c=>?_)
  ·have c':b < 0:=DD c
   refine ⟨_,rfl,_,rfl,?_⟩
   refine ⟨?_,rfl⟩
   show [Aa (V.int t),Aa (V.int b),Aa (V.int (-(C5 t b)))]=[Aa (V.int t),Aa (V.int b),Aa (V.int (Dl t b))]
   unfold Dl
   rw [At c']
  ·have c':¬ b < 0:=fun e=>c (Be e)
   refine ⟨?_,rfl⟩
   show [Aa (V.int t),Aa (V.int b),Aa (V.int (C5 t b))]=[Aa (V.int t),Aa (V.int b),Aa (V.int (Dl t b))]
   unfold Dl
   rw [Ao c']
 rintro σ' H' ⟨rfl,rfl⟩
 have ne:=PY (t:=t) b0
 refine ⟨_,rfl,_,rfl,_,_,rfl,rfl,⟨ne,szt⟩,_,rfl,_,rfl,_,_,rfl,rfl,⟨ne,szb⟩,(by show 2<=A5;decide),fun r hr'=>?_⟩
 exact q r _ (A2 hr' _) Ap
theorem ok_bj (T:Tx K mg ad):AG P w K mg base CX0 2 ad.f_bj ad.d_bj ["slip"] (Tq K):=by
 exists bj
 obtain ⟨t,ts,h,rfl,ht,f,h12,q0,q1⟩:=h
 refine ⟨_,(@Av _ _ _ _ _ (((Ro hr.units0)⊂((pv 0)∪(@BI _ _ _ _ _ Am)))⊆((~~~E8)∪Bs)) (@Av _ _ _ _ _ (1<$>(v<*(@Aj _ _ _ _ _ (C6∩((pv 0)∪Au)) Am (by rfl)))) (~~~(GN (D1⊂((@B2 _ _ _ _ _ _ _ _ _ Dm (by rfl) T.z_bw Dh (@Aj _ _ _ _ _ (pv 1) Am (by rfl)) (by decide) (by decide) (by rfl) (by rfl))∪Au)) (B0∩((pv 1)∪Au)) E8)))),?_⟩
 refine ⟨_,rfl,(by show 0<=A5;decide),fun e he=>?_⟩
 have s1:=A2 he (.tup [])
 have ee:(upd H e (.tup [])) e=Aa (.tup (([]:Ab Ac).map V.int)):=Ap
 generalize upd H e (.tup [])=H1 at s1 ee ⊢
 have ht1:=s1 _ _ ht
 refine ⟨t,e,ts,[],rfl,rfl,SqT.of ht1,SqT.of ee,_,rfl,?_⟩
 rcases f with rfl | ⟨t0,r,rfl,t00,t01⟩
 ·exact ifT (Be rfl) (q0 rfl _ s1)
 refine ifF (Bo (by simp)) ?_
 have lt:t0 < 4096:=by
  have p:2 ^ h<=2 ^ 12:=Hn (by decide) h12
  have e1:((2 ^ h:Ae):Ac)=(2:Ac) ^ h:=by simp
  omega
 refine ⟨_,rfl,t,_,_,_,rfl,rfl,SqT.of ht1,(show atI ((t0 :: r).map V.int) ((0:Ae):Ac)=Aa (.int t0) from atN rfl),t0,rfl,t00,lt,fun p H2 hp s2 e2=>?_⟩
 and_intros
 have s12:=s1.trans s2
 by_cases c:(hands 12 (bit t0)).length=1
 ·obtain ⟨z,ez⟩:∃z,hands 12 (bit t0)=[z]:=List.length_eq_one_iff.mp c
  obtain ⟨p1,p2⟩:=Ze (r:=r) h12 t00 t01 ez
  refine ifT (HI (by rw [Aw,c];rfl)) ?_
  refine ⟨_,rfl,p,_,_,_,rfl,rfl,SqL.of e2,(by rw [ez];rfl),?_⟩
  rw [<- p1]
  exact q1 p2 _ s12
 ·refine ifF (Lc (by rw [Aw];omega)) ?_
  exact q0 (Zd h12 c) _ s12
theorem ok_ae (T:Tx K mg ad):AG P w K mg base CX0 2 ad.f_ae ad.d_ae ["thing"] SR:=by
 exact T.F_ae.ok sc_ae (fun _ _ _ _ h=>h.elim) (fun _ _ _ _ _ _ _ _ _ h=>h.elim)
theorem ok_af (T:Tx K mg ad):AG P w K mg base CX0 2 ad.f_af ad.d_af ["thing"] Aa3:=by
 refine T.F_af.ok sc_af (fun vs H Q E h=>?_) (fun cdv A outer s H vs Q E hr h=>?_)
 ·obtain ⟨n,rfl,_⟩:=h
  rfl
 obtain ⟨n,rfl,n0,n1,q⟩:=h
 refine ⟨_,(~~~(@ES _ _ _ _ _ _ _ (ag<*(@Aj _ _ _ _ _ (pv 0) Am (by rfl))) (@EV _ _ _ _ _ (J_ EQ EQ Au (pv 0) (Gi (v:=.int 9) rfl T.k_cz ⟨_,rfl⟩))))),?_⟩
 refine ⟨_,rfl,n,rfl,?_⟩
 and_intros
 refine ifT (Be n0) ?_
 and_intros
 show Q (.bl (decide (n<=9))) H
 rw [Be n1]
 exact q
theorem ok_be (T:Tx K mg ad):AG P w K mg base CX0 2 ad.f_be ad.d_be ["_law_cell_here","_law_hands"] Tg:=by
 exists be
 obtain ⟨c,n,rfl,c0,c1,n2,n6,q⟩:=h
 refine ⟨_,(@Av _ _ _ _ _ (2<$>(bd<*(@Aj _ _ _ _ _ (pv 0) (@Aj _ _ _ _ _ Au Am (by rfl)) (by rfl)))) (@Av _ _ _ _ _ (3<$>(@A9 _ _ _ _ _ _ _ _ Cn (@A9 _ _ _ _ _ _ _ _ CO (pv 2) Au) (pv 1))) (@Av _ _ _ _ _ (4<$>(@A9 _ _ _ _ _ _ _ _ Cn (@A9 _ _ _ _ _ _ _ _ CO (pv 2) Au) (pv 1))) (@Av _ _ _ _ _ ((D1⊂((@A9 _ _ _ _ _ _ _ _ Cn (pv 2) Au)∪Au))⊆((~~~(@BI _ _ _ _ _ Am))∪Bs)) (@Av _ _ _ _ _ ((PW.pt (@De _ _ _ _ _ _ _ (D1⊂((pv 4)∪(pv 3))) (@DI _ _ _ _ (Fx⊂((@A9 _ _ _ _ _ _ _ _ Cn (pv 2) Au)∪Au)))))⊆((~~~(@BI _ _ _ _ _ (@Aj _ _ _ _ _ (@A9 _ _ _ _ _ _ _ _ HP Au (pv 3)) Am (by rfl))))∪Bs)) (@Av _ _ _ _ _ ((D1⊂((@A9 _ _ _ _ _ _ _ _ Cn (pv 2) Au)∪Au))⊆((~~~(@BI _ _ _ _ _ (@Aj _ _ _ _ _ (@A9 _ _ _ _ _ _ _ _ Ch (@A9 _ _ _ _ _ _ _ _ HP Au (pv 3)) (@A9 _ _ _ _ _ _ _ _ HP Au (pv 4))) Am (by rfl))))∪Bs)) (~~~(@BI _ _ _ _ _ (@Aj _ _ _ _ _ (@A9 _ _ _ _ _ _ _ _ HP Au (pv 3)) (@Aj _ _ _ _ _ (@A9 _ _ _ _ _ _ _ _ HP Au (pv 4)) Am (by rfl)) (by rfl)))))))))),?_⟩
 and_intros
 refine ⟨c,5,rfl,GZ c0 c1,szd 64,fun y y0 y1=>?_⟩
 have szy:=Ki y0 y1
 have n0:(0:Ac) < (n:Ac):=by omega
 have mf:=CI (y.fdiv 8) n0
 have mg:=CI (y.fdiv 128) n0
 obtain ⟨f,ef⟩:∃f:Ae,(y.fdiv 8).fmod (n:Ac)=(f:Ac):=⟨_,(Gw mf.1).symm⟩
 obtain ⟨g,eg⟩:∃g:Ae,(y.fdiv 128).fmod (n:Ac)=(g:Ac):=⟨_,(Gw mg.1).symm⟩
 have cf:F' 1 (f:Ac):=RA (by omega)
 have cg:F' 1 (g:Ac):=RA (by omega)
 have one:∀t,H t=Ag->Q (.ref t) (upd H t (.tup [.int (1*2 ^ (f:Ac).toNat)])):=fun t ht=>q t [2 ^ f] _ (A2 ht _) (by rw [Ap,He,Ce];rfl) (R8 (by omega))
 and_intros
 refine ⟨by show (_:Ac)≠0;omega,?_⟩
 dsimp only
 rw [ef]
 and_intros
 refine ⟨by show (_:Ac)≠0;omega,?_⟩
 dsimp only
 rw [eg]
 and_intros
 refine Em (fun _=>?_) (fun _=>?_)
 ·refine ⟨(by show 0<=A5;decide),fun t ht=>?_⟩
  exact q t [] _ (A2 ht _) Ap (Bw ..)
 and_intros
 by_cases c:g=f
 ·refine ifT (HI (by omega)) ?_
  and_intros
  exact ⟨cf,(by show 1<=A5;decide),one⟩
 refine ifF (Lc (by omega)) ?_
 and_intros
 refine Em (fun _=>?_) (fun _=>?_)
 ·and_intros
  exact ⟨cf,(by show 1<=A5;decide),one⟩
 and_intros
 refine Em (fun _=>?_) (fun _=>?_)
 ·and_intros
  refine ⟨cf,?_⟩
  and_intros
  refine ⟨cg,?_⟩
  and_intros
  refine ⟨(by show 1<=A5;decide),fun t ht=>?_⟩
  exact q t [2 ^ f+2 ^ g] _ (A2 ht _) (by rw [Ap];show Aa (HO.tup [V.int (1*2 ^ (f:Ac).toNat+1*2 ^ (g:Ac).toNat)])=_;rw [He,He,Ce,Ce];rfl) (Zi (by omega) (by omega) c)
 and_intros
 refine ⟨cf,?_⟩
 and_intros
 refine ⟨cg,?_⟩
 and_intros
 refine ⟨(by show 2<=A5;decide),fun t ht=>?_⟩
 exact q t [2 ^ f,2 ^ g] _ (A2 ht _) (by rw [Ap];show Aa (HO.tup [V.int (1*2 ^ (f:Ac).toNat),V.int (1*2 ^ (g:Ac).toNat)])=_;rw [He,He,Ce,Ce];rfl) (Zh (by omega) (by omega) c)
theorem ok_aj (T:Tx K mg ad):AG P w K mg base CX0 2 ad.f_aj ad.d_aj ["_law_found_here","_law_due"] Ta:=by
 exists aj
 obtain ⟨a,b,ls,ms,rfl,ha,hb,ga,gb,e,l64,l6,q⟩:=h
 refine ⟨_,(@Av _ _ _ _ _ ((PW.pt (@De _ _ _ _ _ _ _ (@Co _ _ _ _ (@Cj _ _ _ (@B2 _ _ _ _ _ _ _ _ _ Ge (by rfl) T.z_b6 G3 (@Aj _ _ _ _ _ (pv 0) (@Aj _ _ _ _ _ (Gg (v:=.ty "list") rfl T.z_bx EH rfl) Am (by rfl)) (by rfl)) (by decide) (by decide) (by rfl) (by rfl)) (by intro _;rfl))) (@DI _ _ _ _ ((Y9 (K:=K) hr.units)⊂((pv 0)∪(pv 1))))))⊆((~~~ET)∪Bs)) (@Av _ _ _ _ _ (CW CC rfl (B_ (pv 0)) (Ci (i:=2) sc_aj.nd rfl (BW rfl)) (@Av _ _ _ _ _ ((PW.pt (@De _ _ _ _ _ _ _ (@Co _ _ _ _ (@Cj _ _ _ (@B2 _ _ _ _ _ _ _ _ _ Ge (by rfl) T.z_b6 G3 (@Aj _ _ _ _ _ (pv 2) (@Aj _ _ _ _ _ (Gg (v:=.ty "tuple") rfl T.z_cn OK rfl) Am (by rfl)) (by rfl)) (by decide) (by decide) (by rfl) (by rfl)) (by intro _;rfl))) (@De _ _ _ _ _ _ _ (@Co _ _ _ _ (@Cj _ _ _ (@B2 _ _ _ _ _ _ _ _ _ Ge (by rfl) T.z_b6 G3 (@Aj _ _ _ _ _ (C6∩((pv 2)∪Au)) (@Aj _ _ _ _ _ (Gg (v:=.ty "tuple") rfl T.z_cn OK rfl) Am (by rfl)) (by rfl)) (by decide) (by decide) (by rfl) (by rfl)) (by intro _;rfl))) (@DI _ _ _ _ (@Co _ _ _ _ (@Cj _ _ _ (ak<*(@Aj _ _ _ _ _ (C6∩((pv 2)∪Au)) Am (by rfl))) (by intro _;rfl)))))))⊆((~~~ET)∪Bs)) (@Bl _ _ _ ((EO⊂((@B2 _ _ _ _ _ _ _ _ _ Dm (by rfl) T.z_bw Dh (@Aj _ _ _ _ _ (D3 (fsc:=Aq GS) (N:=["_law_found_here","_law_due","_law_line"]) (Nc:=["_law_found_here","_law_due","_law_line","_law_tier"]) rfl rfl ⟨rfl,by decide +kernel,by decide +kernel,rfl,by decide +kernel,rfl,by decide +kernel,rfl,by decide +kernel⟩ rfl (Rw (C6∩((pv 2)∪Au))) (fun _ _ _ _=>(Ka (@Co _ _ _ _ (@Cj _ _ _ (ak<*(@Aj _ _ _ _ _ (pv 3) Am (by rfl))) (by intro _;rfl))))) (fun _ _ _ _=>(pv 3))) Am (by rfl)) (by decide) (by decide) (by rfl) (by rfl))∪Au))⊆((~~~ET)∪Bs))))) (~~~ET))),?_⟩
 refine ⟨_,rfl,_,_,_,_,rfl,C3.lst ha,QE,?_⟩
 and_intros
 refine ⟨.list ((An ls).map ld),.list ((An ms).map ld),.lst (SqL.of ha) (HX ga),.lst (SqL.of hb) (HX gb),IW _,IW _,?_⟩
 rw [<- e,show Mt (.list ((An ls).map ld)) (.list ((An ls).map ld))=Af from Nf _]
 and_intros
 refine ⟨⟨_,SqL.of ha⟩,E4 (xs:=vls ls) (fun i σ' H'=>∃v,σ'=[Aa (.ref a),Aa (.ref b),v]/\Ax H H') ⟨Ag,rfl,fun _ _ e=>e⟩ (fun i σ' H' _ hq_=>by obtain ⟨_,_,s⟩:=hq_;exact SqL.of (s _ _ ha)) ?_ ?_⟩
 ·rintro i x σ' H' hx ⟨v,rfl,s1⟩
  obtain ⟨f,hf,rfl,fm,et⟩:=EZ hx
  have hp:=s1 _ _ (ga f fm).1
  have ht:=s1 _ _ (ga f fm).2
  have f6:=l6 f fm
  and_intros
  refine ⟨_,_,_,_,rfl,C3.tup hp,QF,?_⟩
  and_intros
  refine ⟨_,_,_,_,rfl,C3.tup ht,QF,?_⟩
  and_intros
  refine ⟨⟨_,SqT.of ht⟩,?_⟩
  refine Qh (xs:=f.2.2.1.map V.int) (by rw [Aw];exact D7 (by omega)) (fun D i ys J=>ys=[]/\J=upd H' D (.lst [])) (fun D hD=>⟨rfl,rfl⟩) (fun D i ys J hq_=>by obtain ⟨f1,f2⟩:=hq_;rw [f2,f1];exact ⟨Ap,BQ _⟩) (fun D i ys J hD hq_=>by obtain ⟨_,f2⟩:=hq_;rw [f2];exact SqT.of (A2 hD _ _ _ ht)) ?_ ?_
  ·rintro D i x ys J K1 K2 hD hx ⟨rfl,rfl⟩ k1 k2
   obtain ⟨z,hz,rfl⟩:=int_at hx
   refine ⟨_,rfl,z,rfl,_,rfl,?_⟩
   exact k2 _ ⟨rfl,rfl⟩
  rintro D ys H1 hD ⟨rfl,rfl⟩
  refine ⟨D,_,rfl,.inl (SqL.of Ap),?_⟩
  and_intros
  exact s1.trans (A2 hD _)
 ·rintro σ' H' ⟨v,rfl,s1⟩
  and_intros
  exact q _ s1
theorem ok_m (T:Tx K mg ad):AG P w K mg base CX0 2 ad.f_m ad.d_m ["self"] (To ad.c_a):=by
 exists m
 obtain ⟨a,m,S,O,f,k,n,rest,bs,dss,os,rfl,lk,pk,q⟩:=h
 refine ⟨_,(~~~(@B2 _ _ _ _ _ _ _ _ _ (JN rfl) (by rfl) T.z_ce KG (@Aj _ _ _ _ _ (D3 (fsc:=Aq s_m) (N:=["self"]) (Nc:=["self","k"]) rfl rfl ⟨rfl,by decide +kernel,by decide +kernel,rfl,by decide +kernel,rfl,by decide +kernel,rfl,by decide +kernel⟩ rfl (B_ (HR IX (B4 (pv 0) rfl) (HW (B4 (pv 0) rfl)) HV)) (fun _ _ _ _=>Cv) (fun _ _ _ _=>(ay<*(@Aj _ _ _ _ _ ((HL K)∩((ND K (pv 0) rfl)∪(pv 1))) Am (by rfl))))) Am (by rfl)) (by decide) (by decide) (by rfl) (by rfl))),?_⟩
 obtain ⟨dx,ha⟩:=lk.at_
 refine ⟨_,rfl,a,_,dx,_,_,rfl,ha,T.cl_a,T.na_a_b7,rfl,?_⟩
 refine ⟨_,rfl,a,_,dx,_,_,rfl,ha,T.cl_a,T.na_a_b2,rfl,?_⟩
 refine ⟨_,rfl,O,_,rfl,SqL.of lk.od,fun c hc=>?_⟩
 rw [M',<- Me]
 have s1:=A2 hc (.lst ((os.drop k).map V.int))
 have e1:(upd H c (.lst ((os.drop k).map V.int))) c=Aa (.lst ((os.drop k).map V.int)):=Ap
 generalize upd H c (.lst ((os.drop k).map V.int))=H1 at s1 e1 ⊢
 have ol:=pk.ol
 have d5:=pk.d5
 have dl:((os.drop k).map V.int).length<=5:=by rw [Aw,Hh];omega
 refine ⟨c,rfl,⟨_,SqL.of e1⟩,?_⟩
 refine DW (xs:=(os.drop k).map V.int) (D8 (by omega)) (fun D i ys H'=>ys=(((os.drop k).take i).map fun j=>AX (dss.getD j.toNat [])).map V.int/\H' D=Aa (.lst ys)/\Ax H1 H') (fun D hD=>⟨rfl,Ap,A2 hD _⟩) (fun D i ys H' hq_=>by obtain ⟨f1,f2,_⟩:=hq_;exact ⟨f2,by rw [f1,Aw,Aw];exact EF _ _⟩) (fun D i ys H' hD hq_=>by obtain ⟨_,_,f3⟩:=hq_;exact SqL.of (f3 _ _ e1)) ?_ ?_
 ·rintro D i y ys H' K1 K2 hD hy ⟨f1,f2,f3⟩ k1 k2
  rw [Bm] at hy
  obtain ⟨j,hj,rfl⟩:=Option.map_eq_some_iff.mp hy
  obtain ⟨x,ex,xm,je,sx⟩:=lk.sum pk (Mn (Br hj))
  have s2:=s1.trans f3
  have xl:=(lk.keys pk xm).2
  refine yes (ifT rfl ?_)
  refine ⟨_,rfl,a,_,dx,_,_,rfl,s2 _ _ ha,T.cl_a,T.na_a_b4,rfl,?_⟩
  and_intros
  refine ⟨S,_,_,_,rfl,rfl,SqL.of (s2 _ _ lk.sh),(by rw [je];exact Dv (by rw [Bm,ex];rfl)),?_⟩
  refine ⟨x.1,x.2,rfl,s2 _ _ (lk.lies x xm).1,(lk.lies x xm).2.same s2,by omega,fun H5 s5=>?_⟩
  rw [sx]
  refine k1 _ _ (s5 _ _ f2) ⟨?_,Ap,Bu (f3.trans s5) hD⟩
  rw [f1,CA,hj,Bc,Bc]
  rfl
 ·rintro D ys H' hD ⟨f1,f2,f3⟩
  rw [Aw,Eu] at f1
  subst f1
  exact ⟨D,_,rfl,SqL.of f2,q _ (s1.trans f3)⟩
theorem ok_bl (T:Tx K mg ad):AG P w K mg base CX0 2 ad.f_bl ad.d_bl ["self","k"] (SA ad.c_c):=by
 exists bl
 obtain ⟨b,L,n,bs,k,x,rfl,ib,ex,q⟩:=h
 refine ⟨_,(@Av _ _ _ _ _ ((PW.pt (@De _ _ _ _ _ _ _ (@Co _ _ _ _ (@Cj _ _ _ (ag<*(@Aj _ _ _ _ _ (pv 1) Am (by rfl))) (by intro _;rfl))) (@De _ _ _ _ _ _ _ (Fx⊂((pv 1)∪Au)) (@DI _ _ _ _ (Rq⊂((pv 1)∪(CP (pv 0) T.cl_c T.me_c_cg (ok_f T) (hr.mono (by decide)) T.b_f .nil Cd)))))))⊆((@Bl _ _ _ Dd)∪Bs)) (~~~(@EU _ _ _ _ _ _ _ _ _ Fo (by rfl) T.z_bx EH (@Aj _ _ _ _ _ (B0∩((B4 (pv 0) rfl)∪(pv 1))) Am (by rfl)) (by decide) (by decide) (by rfl) (by rfl)))),?_⟩
 have kl:k < bs.length:=(List.getElem?_eq_some_iff.mp ex).1
 have ib':=ib
 obtain ⟨⟨dx,hb⟩,hL,hx,hn⟩:=ib'
 and_intros
 refine ⟨b,dx,_,rfl,hb,rfl,?_⟩
 refine ⟨b,L,n,bs,rfl,ib,?_⟩
 and_intros
 refine ifF (Bo (by omega)) ?_
 and_intros
 refine ⟨b,_,dx,_,_,rfl,hb,T.cl_c,T.na_c_b1,rfl,?_⟩
 and_intros
 refine ⟨L,_,_,_,rfl,rfl,SqL.of hL,(Dv (by rw [Bm,ex];rfl)),?_⟩
 refine ⟨x.1,_,rfl,.inl (SqL.of (hx x (Br ex)).1),fun l hl=>?_⟩
 exact q l _ hl (A2 hl _) Ap
theorem ok_bo (T:Tx K mg ad):AG P w K mg base CX0 2 ad.f_bo ad.d_bo ["self","ballots"] (S7 ad.c_b):=by
 exists bo
 obtain ⟨a,h,s,st,u,v,ns,n,rfl,k,v0,su,sv,sn,q⟩:=h
 refine ⟨_,(~~~(@B2 _ _ _ _ _ _ _ _ _ (MY rfl) (by rfl) T.z_ch Mu (@Aj _ _ _ _ _ Au (@Aj _ _ _ _ _ (bi<*(@Aj _ _ _ _ _ (@A9 _ _ _ _ _ _ _ _ Do (C6∩((B4 (pv 0) rfl)∪Au)) (pv 1)) (@Aj _ _ _ _ _ (C6∩((B4 (pv 0) rfl)∪Au)) Am (by rfl)) (by rfl))) Am (by rfl)) (by rfl)) (by decide) (by decide) (by rfl) (by rfl))),?_⟩
 obtain ⟨dx,l,t,k1,k2,k3⟩:=k
 refine ⟨_,rfl,a,_,dx,_,_,rfl,k1,T.cl_b,T.na_b_b8,rfl,?_⟩
 and_intros
 refine ⟨a,_,dx,_,_,rfl,k1,T.cl_b,T.na_b_b8,rfl,?_⟩
 and_intros
 refine ⟨_,_,rfl,v0,sv.mono (by decide),?_⟩
 and_intros
 refine ⟨1,_,rfl,?_⟩
 rw [show (if -((-(u*n)).fdiv v) > 1 then -((-(u*n)).fdiv v) else 1)=max 1 (-((-(u*n)).fdiv v)) from by split <;> omega]
 exact q
theorem ok_y (T:Tx K mg ad):AG P w K mg base CX0 2 ad.f_y ad.d_y ["self","marks"] (Sw ad.c_b):=by
 exists y
 obtain ⟨a,m,h,s,st,u,v,ns,xs,had,l,rfl,il,sn,mk,hp,ne,q⟩:=h
 refine ⟨_,(@Av _ _ _ _ _ (Gm (j:=2) (fsc:=Aq s_y) (N:=["self","marks","by_lots","best","hand"]) (Nc:=["self","marks","by_lots","best",".s4","hand"]) rfl rfl ⟨rfl,by decide +kernel,by decide +kernel,rfl,by decide +kernel,rfl,by decide +kernel,rfl,by decide +kernel⟩ rfl sc_y.nd rfl rfl (B_ (B4 (pv 0) rfl)) (fun _ _ _ _=>(Ka (N9⊂(((HL K)∩((pv 1)∪(pv 5)))∪E8)))) (fun _ _ _ _=>(pv 5)) rfl) (@Av _ _ _ _ _ (3<$>(B0∩((pv 2)∪Au))) (@Av _ _ _ _ _ (CW CC rfl (B_ (pv 2)) (Ci (i:=4) sc_y.nd rfl (BW rfl)) (@Bl _ _ _ ((@Cj _ _ _ (bh<*(@Aj _ _ _ _ _ (B0∩((pv 1)∪(pv 3))) (@Aj _ _ _ _ _ (B0∩((pv 1)∪(pv 4))) Am (by rfl)) (by rfl))) (by intro _;rfl))⊆((@Bl _ _ _ (3<$>(pv 4)))∪Bs)))) (~~~(pv 3))))),?_⟩
 obtain ⟨dx,la,t,k1,k2,k3⟩:=id il
 obtain ⟨ys,m1,m2,m3⟩:=id mk
 have h12:=sn.h12
 have st1:=sn.st1
 have st9:=sn.st9
 have nl:ns.length=h:=by rw [sn.perm.length_eq,Abw]
 have inr:∀z∈ns,0<=z/\z < h:=fun z m=>Lz.mp (sn.perm.mem_iff.mp m)
 refine ⟨_,rfl,a,_,dx,_,_,rfl,k1,T.cl_b,T.na_b_cc,rfl,?_⟩
 refine ⟨la,rfl,⟨_,SqL.of k2⟩,?_⟩
 refine DW (xs:=ns.map V.int) (by rw [Aw];exact D7 (by omega)) (fun D i ys' H'=>ys'=(Cu xs (ns.take i) l).map V.int/\H'=upd H D (.lst ys')) (fun D hD=>⟨rfl,rfl⟩) (fun D i ys' H' hq_=>by obtain ⟨f1,f2⟩:=hq_;exact ⟨by rw [f2];exact Ap,by rw [f1,Aw];unfold Cu;exact CK (Mc _ _) (EF _ _)⟩) (fun D i ys' H' hD hq_=>by obtain ⟨_,f2⟩:=hq_;rw [f2];exact SqL.of (A2 hD _ _ _ k2)) ?_ ?_
 ·rintro D i x ys' H' K1 K2 hD hx ⟨f1,rfl⟩ c1 c2
  obtain ⟨z,hz,rfl⟩:=int_at hx
  have zm:=Br hz
  obtain ⟨z0,z1⟩:=inr z zm
  have et:ns.take (i+1)=ns.take i++[z]:=by rw [CA,hz];rfl
  have m1':=A2 hD (.lst ys') _ _ m1
  rcases m3 z.toNat (by omega) with ⟨lo,e⟩ | ⟨lo,p,e,ep⟩
  ·have ea:atI ys z=Aa .non:=by have:=Dv e;rwa [Gw z0] at this
   refine ⟨_,rfl,_,rfl,m,_,_,_,rfl,rfl,SqL.of m1',ea,rfl,?_⟩
   refine ⟨_,rfl,?_⟩
   refine ifF rfl ?_
   refine c2 _ ⟨?_,rfl⟩
   rw [f1,et,TM,Ao (by omega),FK]
  ·have ea:atI ys z=Aa (.ref p):=by have:=Dv e;rwa [Gw z0] at this
   refine ⟨_,rfl,_,rfl,m,_,_,_,rfl,rfl,SqL.of m1',ea,rfl,?_⟩
   refine ⟨_,rfl,?_⟩
   refine ifT rfl ?_
   refine ⟨_,rfl,?_⟩
   refine c1 _ _ Ap ⟨?_,by rw [DM]⟩
   rw [f1,et,TM,At lo,Bc]
   rfl
 rintro D ys' H1 hD ⟨rfl,rfl⟩
 rw [Aw,CJ (AB _)]
 have s1:=A2 hD (.lst ((Cu xs ns l).map V.int))
 have e1:(upd H D (.lst ((Cu xs ns l).map V.int))) D=Aa (.lst ((Cu xs ns l).map V.int)):=Ap
 generalize upd H D (.lst ((Cu xs ns l).map V.int))=H1 at s1 e1 ⊢
 have mark:∀x∈Cu xs ns l,∃p,atI ys x=Aa (.ref p)/\H1 p=Aa (.tup [.int (Dy (xs.getD x.toNat 0) (1+st*had.getD x.toNat 0)),.int (Db (xs.getD x.toNat 0) (1+st*had.getD x.toNat 0))]):=fun x xm=>by
  obtain ⟨xn,xl⟩:=TL xm
  obtain ⟨x0,x1⟩:=inr x xn
  rcases m3 x.toNat (by omega) with ⟨lo,e⟩ | ⟨lo,p,e,ep⟩
  ·omega
  ·exact ⟨p,by have:=Dv e;rwa [Gw x0] at this,s1 _ _ ep⟩
 have pos:∀x:Ac,0 < 1+st*had.getD x.toNat 0/\1+st*had.getD x.toNat 0<=541:=fun x=>by
  have:=Op (show 0<=st by omega) (hp x.toNat).1
  have:=UJ st9 (hp x.toNat).2 (hp x.toNat).1 (by decide)
  omega
 have q':Q (.int (C0 xs ns had l st)) H1:=q _ s1
 unfold C0 at q'
 cases et:Cu xs ns l with
 | nil=>exact A8 et ne
 | cons b r =>
   rw [et] at e1 mark q'
   dsimp only at q'
   have a0:atI ((b :: r).map V.int) 0=Aa (.int b):=atN (i:=0) rfl
   refine ⟨_,rfl,D,_,_,_,rfl,rfl,SqL.of e1,a0,?_⟩
   refine ⟨_,rfl,D,rfl,⟨_,SqL.of e1⟩,E4 (xs:=(b :: r).map V.int) (fun i σ' H'=>∃v4,σ'=[Aa (.ref a),Aa (.ref m),Aa (.ref D),Aa (.int (El xs had st b ((b :: r).take i))),v4]/\H1=H') ⟨Ag,rfl,rfl⟩ (fun i σ' H' _ hq_=>by obtain ⟨_,_,e⟩:=hq_;rw [<- e];exact SqL.of e1) ?_ ?_⟩
   ·rintro i x σ' H' hx ⟨v4,rfl,rfl⟩
    obtain ⟨z,hz,rfl⟩:=int_at hx
    have zm:=Br hz
    have tk:(b :: r).take (i+1)=(b :: r).take i++[z]:=by rw [CA,hz];rfl
    have bm:El xs had st b ((b :: r).take i)∈b :: r:=by
     rcases MT xs had st ((b :: r).take i) b with e | e
     ·rw [e];exact Bw ..
     ·exact G2 e
    have nx:El xs had st b ((b :: r).take (i+1))=if Gr xs had st (El xs had st b ((b :: r).take i)) z=Af then z else El xs had st b ((b :: r).take i):=by
     rw [tk]
     unfold El
     rw [UR]
     rfl
    rw [nx]
    generalize El xs had st b ((b :: r).take i)=c at bm ⊢
    obtain ⟨p1,a1,h1⟩:=mark c bm
    obtain ⟨p2,a2,h2⟩:=mark z zm
    have z1:=QR (v:=xs.getD c.toNat 0) (pos c).1
    have z2:=QR (v:=xs.getD z.toNat 0) (pos z).1
    have b1:=sn.big c.toNat
    have b2:=sn.big z.toNat
    rw [Ao (by omega)] at z1 z2
    have pc:=pos c
    have pz:=pos z
    have m1':=s1 _ _ m1
    refine ⟨_,rfl,_,rfl,m,_,_,_,rfl,rfl,SqL.of m1',a1,_,rfl,_,rfl,m,_,_,_,rfl,rfl,SqL.of m1',a2,p1,p2,_,_,_,_,rfl,SqT.of h1,SqT.of h2,(C1 (n:=64) (by omega) (by omega)).mono (by decide),(C1 (n:=64) (by omega) (by omega)).mono (by decide),(C1 (n:=64) (by omega) (by omega)).mono (by decide),(C1 (n:=64) (by omega) (by omega)).mono (by decide),?_⟩
    rw [XY pc.1 pz.1]
    refine ⟨_,rfl,?_⟩
    refine Em (fun k=>?_) (fun k=>?_)
    ·refine ⟨_,rfl,?_⟩
     exact ⟨_,by rw [At (show Gr xs had st c z=Af from k)];rfl,rfl⟩
    ·exact ⟨_,by rw [Ao (show ¬ Gr xs had st c z=Af from k)];rfl,rfl⟩
   ·rintro σ' H' ⟨v4,rfl,rfl⟩
    rw [Aw,CJ (AB _)]
    exact ⟨_,rfl,q'⟩
theorem ok_bs (T:Tx K mg ad):AG P w K mg base CX0 2 ad.f_bs ad.d_bs ["self","sheet"] (SG ad.c_d ad.c_b):=by
 exists bs
 obtain ⟨m,w,l,n,ls,rfl,mg,n2,hl,gl,l64,q⟩:=h
 refine ⟨_,(~~~(@ES _ _ _ _ _ _ _ (@Gh _ _ _ _ _ _ _ _ EO (ay<*(@Aj _ _ _ _ _ (pv 1) Am (by rfl))) Au (Fw _)) (@EV _ _ _ _ _ (@Gh _ _ _ _ _ _ _ _ EO (B4 (B4 (pv 0) rfl) rfl) (B4 (B4 (pv 0) rfl) rfl) (Fw _))))),?_⟩
 obtain ⟨⟨dx,hm⟩,md⟩:=mg
 obtain ⟨dw,la,tt,k1,k2,k3⟩:=md.is
 and_intros
 refine ⟨l,ls,rfl,hl,gl,by omega,fun H1 s1=>?_⟩
 and_intros
 rw [show ((An ls).map (·.2)).sum=AX (An ls) from rfl]
 have q1:=q _ s1
 by_cases c:0 < AX (An ls)
 ·refine ifT (Be c) ?_
  refine ⟨_,rfl,m,_,dx,_,_,rfl,s1 _ _ hm,T.cl_d,T.na_d_b5,rfl,?_⟩
  refine ⟨w,_,dw,_,_,rfl,s1 _ _ k1,T.cl_b,T.na_b_bv,rfl,?_⟩
  refine ⟨_,rfl,m,_,dx,_,_,rfl,s1 _ _ hm,T.cl_d,T.na_d_b5,rfl,?_⟩
  refine ⟨w,_,dw,_,_,rfl,s1 _ _ k1,T.cl_b,T.na_b_ca,rfl,?_⟩
  refine ⟨_,_,rfl,rfl,?_⟩
  rw [Be c] at q1
  show Q (.bl (decide (((1:Ae):Ac) < (n:Ac)))) H1
  rw [Be (by omega)]
  exact q1
 ·refine ifF (Bo c) ?_
  rw [Bo c] at q1
  exact q1
theorem ok_a8 (T:Tx K mg ad):AG P w K mg base CX0 2 ad.f_a8 ad.d_a8 ["self","sheet"] (SH ad.c_d):=by
 exists a8
 obtain ⟨m,w,l,dx,rfl,hm,q⟩:=h
 refine ⟨_,(@Bl _ _ _ (Zp ⟨rfl,rfl,rfl⟩ (fun _ _=>(~~~((Nq K)∩(((pv 0)=<<(d.c9.av>=>(@Aj _ _ _ _ _ (pv 1) Am (by rfl))))∪Au)))) (YU (i:=2) ⟨rfl,rfl,rfl⟩ T.h_b0 rfl T.m_b0 sc_a8.nd rfl rfl (fun ev=>(~~~(YT (K:=K) (pv 2) rfl))) YV))),?_⟩
 and_intros
 refine ⟨m,dx,_,rfl,hm,rfl,?_⟩
 and_intros
 refine ⟨m,_,rfl,fun t e H1 s1 et=>?_⟩
 and_intros
 exact q _ s1
theorem ok_a5 (T:Tx K mg ad):AG P w K mg base CX0 3 ad.f_a5 ad.d_a5 ["lines"] Tf:=by
 exists a5
 obtain ⟨l,ls,p,rfl,hl,g,hp,p64,hn,q⟩:=h
 refine ⟨_,(@Av _ _ _ _ _ (CW CC rfl (B_ (pv 0)) (Ci (i:=1) sc_a5.nd rfl (BW rfl)) (@Bl _ _ _ ((@Co _ _ _ _ (@Cj _ _ _ (ba<*(@Aj _ _ _ _ _ (C6∩((pv 1)∪Au)) Am (by rfl))) (by intro _;rfl)))⊆((@Bl _ _ _ Dd)∪Bs)))) (~~~(a4<*(@Aj _ _ _ _ _ (al<*(@Aj _ _ _ _ _ (pv 0) Am (by rfl))) Am (by rfl))))),?_⟩
 refine ⟨_,rfl,l,rfl,⟨_,SqL.of hl⟩,E4 (xs:=vls ls) (fun i σ' H'=>∃v,σ'=[Aa (.ref l),v]/\H'=H) ⟨Ag,rfl,rfl⟩ (fun i σ' H' _ hq_=>by obtain ⟨_,_,e⟩:=hq_;rw [e];exact SqL.of hl) ?_ ?_⟩
 ·rintro i x σ' H' hx ⟨v,rfl,rfl⟩
  obtain ⟨f,hf,rfl,fm,et⟩:=EZ hx
  obtain ⟨n0,n1⟩:=hn (f.2.2.1,f.2.2.2) (List.mem_map.mpr ⟨f,fm,rfl⟩)
  refine ⟨_,rfl,f.1,_,_,_,rfl,rfl,SqT.of (g f fm).1,rfl,f.2.2.2,rfl,n0,n1,?_⟩
  and_intros
  rfl
 ·rintro σ' H' ⟨v,rfl,rfl⟩
  refine ⟨_,rfl,l,ls,p,rfl,hl,g,hp,p64,fun d kvs H1 hd s1 e1 dk=>?_⟩
  refine ⟨d,kvs,rfl,e1,dk.vd,Hl (dk.len hp) p64,fun l' ls' H2 hl' s2 e2 g2 srt mem l64=>?_⟩
  exact q l' ls' H2 (none_of s1 hl') (s1.trans s2) e2 g2 (dk.sheet (fun q m=>(hn q m).1) srt mem) l64
theorem ok_ax (T:Tx K mg ad):AG P w K mg base CX0 3 ad.f_ax ad.d_ax ["thing","hands"] (Sh K):=by
 exists ax
 obtain ⟨p,rs,rfl,hS,h12,hR,q⟩:=h
 refine ⟨_,(@Av _ _ _ _ _ ((@Co _ _ _ _ (@Cj _ _ _ (@B2 _ _ _ _ _ _ _ _ _ Ge (by rfl) T.z_b6 G3 (@Aj _ _ _ _ _ (pv 0) (@Aj _ _ _ _ _ (Gg (v:=.ty "list") rfl T.z_bx EH rfl) Am (by rfl)) (by rfl)) (by decide) (by decide) (by rfl) (by rfl)) (by intro _;rfl)))⊆((~~~ET)∪Bs)) (~~~(@ES _ _ _ _ _ _ _ (@Gh _ _ _ _ _ _ _ _ D1 (@B2 _ _ _ _ _ _ _ _ _ Dm (by rfl) T.z_bw Dh (@Aj _ _ _ _ _ (pv 0) Am (by rfl)) (by decide) (by decide) (by rfl) (by rfl)) (pv 1) (Fw _)) (@EV _ _ _ _ _ (@B2 _ _ _ _ _ _ _ _ _ (W4 rfl) (by rfl) T.z_c0 PyProof.Rows.boot_all (@Aj _ _ _ _ _ (D3 (fsc:=Aq GW) (N:=["thing","hands"]) (Nc:=["thing","hands","rank"]) rfl rfl ⟨rfl,by decide +kernel,by decide +kernel,rfl,by decide +kernel,rfl,by decide +kernel,rfl,by decide +kernel⟩ rfl (B_ (pv 0)) (fun _ _ _ _=>Cv) (fun _ _ _ _=>(bb<*(@Aj _ _ _ _ _ (pv 2) Am (by rfl))))) Am (by rfl)) (by decide) (by decide) (by rfl) (by rfl)))))),?_⟩
 refine ⟨_,rfl,_,_,_,_,rfl,C3.lst hS,QE,?_⟩
 and_intros
 first | refine ifT (HI (by rw [Aw])) ?_ | (refine ⟨p,_,rfl,.inl (SqL.of hS),?_⟩;and_intros;refine ifT (HI (by rw [Aw])) ?_)
 refine ⟨_,rfl,p,rfl,⟨_,SqL.of hS⟩,?_⟩
 refine DW (xs:=rs.map V.int) (by rw [Aw];exact D7 (by omega)) (fun D i ys H'=>ys=(Ct i Af).map V.bl/\H'=upd H D (.lst ys)) (fun D hD=>⟨rfl,rfl⟩) (fun D i ys H' hq_=>by obtain ⟨f1,f2⟩:=hq_;exact ⟨by rw [f2];exact Ap,by rw [f1,Aw,Fc];exact AB _⟩) (fun D i ys H' hD hq_=>by obtain ⟨_,f2⟩:=hq_;rw [f2];exact SqL.of (A2 hD _ _ _ hS)) ?_ ?_
 ·rintro D i x ys H' K1 K2 hD hx ⟨f1,rfl⟩ k1 k2
  obtain ⟨z,hz,rfl⟩:=int_at hx
  obtain ⟨z0,z1⟩:=hR z (Br hz)
  refine yes (ifT rfl ?_)
  refine ⟨_,rfl,z,rfl,z0,z1,?_⟩
  refine k1 _ _ Ap ⟨?_,by rw [DM]⟩
  rw [f1,LG,Bc]
  rfl
 ·rintro D ys H' hD ⟨rfl,rfl⟩
  refine ⟨D,_,rfl,SqL.of Ap,?_⟩
  rw [show (Ct (rs.map V.int).length Af).all id=Af from List.all_eq_true.mpr fun b m=>(List.mem_replicate.mp m).2]
  exact q _ (A2 hD _)
theorem ok_az (T:Tx K mg ad):AG P w K mg base CX0 3 ad.f_az ad.d_az ["line","hands"] Sq:=by
 exists az
 obtain ⟨p,t,ts,c,n,rfl,hp,ht,n12,hts,c0,c1,hr12,q⟩:=h
 refine ⟨_,(@Av _ _ _ _ _ (2<$>(C6∩((pv 0)∪Au))) (@Av _ _ _ _ _ (CW CC rfl (B_ (l<*(@Aj _ _ _ _ _ (C6∩((pv 0)∪Au)) (@Aj _ _ _ _ _ (pv 1) Am (by rfl)) (by rfl)))) (Ci (i:=3) sc_az.nd rfl (BW rfl)) (@Bl _ _ _ (2<$>(@A9 _ _ _ _ _ _ _ _ Ch (@A9 _ _ _ _ _ _ _ _ Do (pv 2) (Gi (v:=.int 13) rfl T.k_ci ⟨_,rfl⟩)) (pv 3))))) (~~~(pv 2)))),?_⟩
 refine ⟨_,rfl,p,_,_,_,rfl,rfl,SqT.of hp,rfl,?_⟩
 refine ⟨_,rfl,p,_,_,_,rfl,rfl,SqT.of hp,rfl,_,rfl,t,ts,n,rfl,ht,n12,hts,fun l H1 hl s1 e1=>?_⟩
 have ln:(BJ ts n).length=n:=by unfold BJ;rw [Aw,DB]
 refine ⟨l,rfl,⟨_,SqL.of e1⟩,E4 (xs:=(BJ ts n).map V.int) (fun i σ' H'=>∃v3,σ'=[Aa (.ref p),Aa (.int (n:Ac)),Aa (.int (Cm c ((BJ ts n).take i))),v3]/\H'=H1) ⟨Ag,rfl,rfl⟩ (fun i σ' H' _ hq_=>by obtain ⟨_,_,e⟩:=hq_;rw [e];exact SqL.of e1) ?_ ?_⟩
 ·rintro i x σ' H' hx ⟨v3,rfl,rfl⟩
  obtain ⟨z,hz,rfl⟩:=int_at hx
  have et:(BJ ts n).take (i+1)=(BJ ts n).take i++[z]:=by rw [CA,hz];rfl
  have cl:=Qd c0 (show c<=2000000000 by omega) (rs:=(BJ ts n).take i) (fun r m=>hr12 r (G2 m)) (by rw [DP];omega)
  have szc:=GZ cl.1 cl.2
  and_intros
  refine ⟨Aa (.int z),?_,rfl⟩
  rw [et,M_]
  rfl
 ·rintro σ' H' ⟨v3,rfl,rfl⟩
  rw [Aw,CJ (AB _)]
  exact ⟨_,rfl,q _ s1⟩
theorem ok_r (T:Tx K mg ad):AG P w K mg base CX0 3 ad.f_r ad.d_r ["sheet","hands"] (Tr K):=by
 exists r
 obtain ⟨l,ls,h,rfl,hl,g,h1,h12,q⟩:=h
 refine ⟨_,(@Av _ _ _ _ _ (Gm (j:=2) (fsc:=Aq s_r) (N:=["sheet","hands","votes","slip","number","hand","place"]) (Nc:=["sheet","hands","votes","slip","number","hand",".s6","place"]) rfl rfl ⟨rfl,by decide +kernel,by decide +kernel,rfl,by decide +kernel,rfl,by decide +kernel,rfl,by decide +kernel⟩ rfl sc_r.nd rfl rfl (EW rfl T.z_bz (@Aj _ _ _ _ _ (@A9 _ _ _ _ _ _ _ _ Ch (pv 1) Au) Am (by rfl))) (fun _ _ _ _=>Cv) (fun _ _ _ _=>Au) rfl) (@Av _ _ _ _ _ (CW CC rfl (B_ (pv 0)) (Fz rfl (CV (Ci (i:=3) sc_r.nd rfl (BW rfl)) (CV (Ci (i:=4) sc_r.nd rfl (BW rfl)) F0))) (@Av _ _ _ _ _ (5<$>(bj<*(@Aj _ _ _ _ _ (pv 3) Am (by rfl)))) (@Av _ _ _ _ _ (6<$>(GN (N8⊂((pv 5)∪E8)) (pv 1) (pv 5))) (@Bl _ _ _ (EX (@A9 _ _ _ _ _ _ _ _ Ch (B0∩((pv 2)∪(pv 6))) (pv 4)) (Fy (pv 2) (pv 6) FC)))))) (~~~(pv 2)))),?_⟩
 refine ⟨_,rfl,_,_,rfl,rfl,_,rfl,by omega,by omega,?_⟩
 have en:(h+1).toNat=h.toNat+1:=by omega
 rw [en]
 refine Gf (D7 (by omega)) (fun D i ys H'=>ys=(Ct i (0:Ac)).map V.int/\H'=upd H D (.lst ys)) (fun D hD=>⟨rfl,rfl⟩) (fun D i ys H' hq_=>by obtain ⟨f1,f2⟩:=hq_;exact ⟨by rw [f2];exact Ap,by rw [f1,Aw,Fc];exact AB _⟩) ?_ ?_
 ·rintro D i ys H' K1 K2 hD hi ⟨f1,rfl⟩ k1 k2
  refine yes (ifT rfl ?_)
  refine k1 _ _ Ap ⟨?_,by rw [DM]⟩
  rw [f1,LG,Bc]
  rfl
 rintro D ys H1 hD ⟨rfl,rfl⟩
 have s1:=A2 hD (.lst ((Ct (h.toNat+1) (0:Ac)).map V.int))
 have eD:(upd H D (.lst ((Ct (h.toNat+1) (0:Ac)).map V.int))) D=Aa (.lst ((BO h.toNat []).map V.int)):=Ap
 generalize upd H D (.lst ((Ct (h.toNat+1) (0:Ac)).map V.int))=H1 at s1 eD ⊢
 refine ⟨_,rfl,l,rfl,⟨_,SqL.of (s1 _ _ hl)⟩,E4 (xs:=vls ls) (fun i σ' H'=>∃v3 v4 v5 v6,σ'=[Aa (.ref l),Aa (.int h),Aa (.ref D),v3,v4,v5,v6]/\Ax H H'/\H' D=Aa (.lst ((BO h.toNat (ls.take i)).map V.int))) ⟨Ag,Ag,Ag,Ag,rfl,s1,eD⟩ (fun i σ' H' _ hq_=>by obtain ⟨_,_,_,_,_,e,_⟩:=hq_;exact SqL.of (e _ _ hl)) ?_ ?_⟩
 ·rintro i x σ' H' hx ⟨v3,v4,v5,v6,rfl,s2,e2⟩
  obtain ⟨f,hf,rfl,fm,et⟩:=EZ hx
  obtain ⟨g1,g2,g3⟩:=g f fm
  refine ⟨f.1,_,rfl,SqT.of (s2 _ _ g1),rfl,_,_,rfl,_,_,rfl,rfl,?_⟩
  have tl:=NV h.toNat (ls.take i)
  have ple:=R7 h.toNat f.2.2.1
  have fin:∀(H3:Hp) (v5:Ay V),Ax H' H3->∃w3 w4 w5 w6,[Aa (V.ref l),Aa (.int h),Aa (.ref D),Aa (.ref f.2.1),Aa (.int f.2.2.2),v5,Aa (.int (pl h.toNat f.2.2.1:Ae))]=[Aa (V.ref l),Aa (.int h),Aa (.ref D),w3,w4,w5,w6]/\Ax H (upd H3 D (.lst ((BO h.toNat (ls.take (i+1))).map V.int)))/\(upd H3 D (.lst ((BO h.toNat (ls.take (i+1))).map V.int))) D=Aa (.lst ((BO h.toNat (ls.take (i+1))).map V.int)):=fun H3 v5 s3 =>
   ⟨_,_,_,_,rfl,Bu (s2.trans s3) hD,Ap⟩
  have gv:(BO h.toNat (ls.take i))[pl h.toNat f.2.2.1]?=Aa ((BO h.toNat (ls.take i)).getD (pl h.toNat f.2.2.1) 0):=by
   rw [BP,BF (by omega)]
   rfl
  have es:((BO h.toNat (ls.take i)).map V.int).set (pl h.toNat f.2.2.1) (V.int ((BO h.toNat (ls.take i)).getD (pl h.toNat f.2.2.1) 0+f.2.2.2))=(BO h.toNat (ls.take (i+1))).map V.int:=by
   rw [et,Abc]
   unfold E3
   rw [Et]
  refine ⟨_,rfl,f.2.1,f.2.2.1,h.toNat,rfl,s2 _ _ g2,g3,by omega,fun ep H3 s3=>?_,fun lp H3 s3=>?_⟩
  ·and_intros
   have eh:h=((pl h.toNat f.2.2.1:Ae):Ac):=by omega
   have a0:=atN gv
   have i0:=E5 (n:=((BO h.toNat (ls.take i)).map V.int).length) (i:=pl h.toNat f.2.2.1) (by rw [Aw];omega)
   rw [<- eh] at a0 i0
   refine ⟨D,_,_,_,rfl,rfl,SqL.of (s3 _ _ e2),a0,_,rfl,_,_,rfl,rfl,_,rfl,_,rfl,D,_,_,_,rfl,rfl,s3 _ _ e2,i0,?_⟩
   dsimp only
   rw [es]
   exact ⟨_,_,_,_,rfl,Bu (s2.trans s3) hD,Ap⟩
  ·and_intros
   have eh:((pl h.toNat f.2.2.1:Ae):Ac)=((pl h.toNat f.2.2.1:Ae):Ac):=by rfl
   have a0:=atN gv
   have i0:=E5 (n:=((BO h.toNat (ls.take i)).map V.int).length) (i:=pl h.toNat f.2.2.1) (by rw [Aw];omega)
   refine ⟨D,_,_,_,rfl,rfl,SqL.of (s3 _ _ e2),a0,_,rfl,_,_,rfl,rfl,_,rfl,_,rfl,D,_,_,_,rfl,rfl,s3 _ _ e2,i0,?_⟩
   dsimp only
   rw [es]
   exact ⟨_,_,_,_,rfl,Bu (s2.trans s3) hD,Ap⟩
 ·rintro σ' H' ⟨v3,v4,v5,v6,rfl,s2,e2⟩
  rw [Cr,CJ (AB _)] at e2
  exact ⟨_,rfl,q D H' hD s2 e2⟩
theorem ok_u (T:Tx K mg ad):AG P w K mg base CX0 3 ad.f_u ad.d_u ["_law_script","_law_hands"] (Sm K):=by
 exists u
 obtain ⟨s',ns,n,rfl,hS,h63,n2,n6,q⟩:=h
 refine ⟨_,(@Av _ _ _ _ _ (2<$>(bd<*(@Aj _ _ _ _ _ (bc<*(@Aj _ _ _ _ _ (pv 0) (@Aj _ _ _ _ _ Au Am (by rfl)) (by rfl))) (@Aj _ _ _ _ _ Au Am (by rfl)) (by rfl)))) (@Av _ _ _ _ _ (Gm (j:=3) (fsc:=Aq s_u) (N:=["_law_script","_law_hands","_law_drawn","_law_bundles_here","_law_k","_law_cell_here","_law_number"]) (Nc:=["_law_script","_law_hands","_law_drawn","_law_bundles_here",".s4","_law_cell_here","_law_number","_law_k"]) rfl rfl ⟨rfl,by decide +kernel,by decide +kernel,rfl,by decide +kernel,rfl,by decide +kernel,rfl,by decide +kernel⟩ rfl sc_u.nd rfl rfl (EW rfl T.z_bz (@Aj _ _ _ _ _ (@A9 _ _ _ _ _ _ _ _ Ch Au (@A9 _ _ _ _ _ _ _ _ Cn (pv 2) Au)) Am (by rfl))) (fun _ _ _ _=>Cv) (fun _ _ _ _=>(@Cz _ _ _ _ Am)) rfl) (@Av _ _ _ _ _ (CW CC rfl (Y' rfl T.z_bz (@Aj _ _ _ _ _ Au (@Aj _ _ _ _ _ (@B2 _ _ _ _ _ _ _ _ _ (MY rfl) (by rfl) T.z_ch Mu (@Aj _ _ _ _ _ Au (@Aj _ _ _ _ _ (@B2 _ _ _ _ _ _ _ _ _ (WA rfl) (by rfl) T.z_c2 PyProof.Rows.boot_min (@Aj _ _ _ _ _ (@B2 _ _ _ _ _ _ _ _ _ Dm (by rfl) T.z_bw Dh (@Aj _ _ _ _ _ (pv 0) Am (by rfl)) (by decide) (by decide) (by rfl) (by rfl)) (@Aj _ _ _ _ _ Au Am (by rfl)) (by rfl)) (by decide) (by decide) (by rfl) (by rfl)) Am (by rfl)) (by rfl)) (by decide) (by decide) (by rfl) (by rfl)) Am (by rfl)) (by rfl))) (Ci (i:=4) sc_u.nd rfl (BW rfl)) (@Av _ _ _ _ _ (5<$>(bd<*(@Aj _ _ _ _ _ (bc<*(@Aj _ _ _ _ _ (pv 0) (@Aj _ _ _ _ _ (pv 4) Am (by rfl)) (by rfl))) (@Aj _ _ _ _ _ (pv 4) Am (by rfl)) (by rfl)))) (@Av _ _ _ _ _ (6<$>(B0∩((@Cz _ _ _ _ (@Aj _ _ _ _ _ (@A9 _ _ _ _ _ _ _ _ Ch Au (@A9 _ _ _ _ _ _ _ _ Cn (@A9 _ _ _ _ _ _ _ _ CO (pv 5) Au) Au)) (@Aj _ _ _ _ _ (@A9 _ _ _ _ _ _ _ _ Ch Au (@A9 _ _ _ _ _ _ _ _ Cn (@A9 _ _ _ _ _ _ _ _ CO (pv 5) Au) (@A9 _ _ _ _ _ _ _ _ Lp Au Au))) Am (by rfl)) (by rfl)))∪(@A9 _ _ _ _ _ _ _ _ Cn (@A9 _ _ _ _ _ _ _ _ CO (pv 2) Au) Au)))) (@Bl _ _ _ (@D4 _ _ _ _ (DY Ee FT PySem.F.type_list_append EN (B0∩((pv 3)∪(@A9 _ _ _ _ _ _ _ _ Cn (@A9 _ _ _ _ _ _ _ _ CO (pv 5) Au) (@B2 _ _ _ _ _ _ _ _ _ Dm (by rfl) T.z_bw Dh (@Aj _ _ _ _ _ (pv 3) Am (by rfl)) (by decide) (by decide) (by rfl) (by rfl))))) (@Aj _ _ _ _ _ (@BI _ _ _ _ _ (@Aj _ _ _ _ _ (be<*(@Aj _ _ _ _ _ (@A9 _ _ _ _ _ _ _ _ CO (pv 5) Au) (@Aj _ _ _ _ _ (pv 1) Am (by rfl)) (by rfl))) (@Aj _ _ _ _ _ (pv 6) Am (by rfl)) (by rfl))) Am (by rfl))) (by rfl)))))) (~~~(pv 3))))),?_⟩
 have hl':(ns.map V.int).length=ns.length:=Aw _
 refine ⟨_,rfl,s',ns,0,rfl,hS,h63,by decide,by decide,fun c c0 c1=>?_⟩
 and_intros
 refine ⟨c,77,rfl,GZ c0 c1,szd 64,fun y y0 y1=>?_⟩
 have szy:=Ki y0 y1
 have m4:=CI y (show (0:Ac) < 4 by decide)
 and_intros
 obtain ⟨mb,emb,mb1,mb4⟩:∃mb:Ae,1+y.fmod 4=(mb:Ac)/\1<=mb/\mb<=4:=⟨(1+y.fmod 4).toNat,by omega,by omega,by omega⟩
 rw [emb]
 refine ⟨by omega,by omega,?_⟩
 refine Gf (D7 (by omega)) (fun D i ys H'=>∃bs:Ab (Ad × Ls),ys=(bs.map fun x=>V.ref x.1)/\bs.length=i/\H' D=Aa (.lst ys)/\Ax H H'/\Bun H H' n (Bt n) bs/\AU bs=[]/\∀x∈bs,x.1≠D) (fun D hD=>⟨[],rfl,rfl,Ap,A2 hD _,⟨(fun _ m=>A8 m Cw),(fun _ m=>A8 m Cw),Hi,(fun _ m=>A8 m Cw)⟩,rfl,(fun _ m=>A8 m Cw)⟩) (fun D i ys H' hq_=>by obtain ⟨bs,g1,g2,g3,_⟩:=hq_;exact ⟨g3,by rw [g1,Aw];omega⟩) ?_ ?_
 ·rintro D2 i ys H' K1 K2 hD2 hi ⟨bs,rfl,g2,g3,g4,g5,g6,g7⟩ k1 k2
  refine yes (ifT rfl ?_)
  refine ⟨(by show 0<=A5;decide),fun nl hnl=>?_⟩
  have s2:=A2 hnl (.lst [])
  have nD:nl≠D2:=fun z=>by rw [z,g3] at hnl;cases hnl
  have nb:∀x∈bs,x.1≠nl:=fun x m z=>by have:=(g5.lies x m).1;rw [z,hnl] at this;cases this
  refine k1 _ _ (s2 _ _ g3) ⟨bs++[(nl,[])],by rw [Bc];rfl,by rw [B9,g2];rfl,Ap,Bu (g4.trans s2) hD2,⟨fun x m=>?_,fun x m=>?_,?_,fun x m=>?_⟩,by rw [HF,g6];rfl,fun x m=>?_⟩
  ·rcases List.mem_append.mp m with m | m
   ·exact ⟨by rw [AF (g7 x m)];exact s2 _ _ (g5.lies x m).1,((g5.lies x m).2.same s2).upd (s2 _ _ g3)⟩
   ·rw [List.mem_singleton.mp m]
    exact ⟨by rw [AF nD];exact Ap,fun _ k=>nomatch k⟩
  ·rcases List.mem_append.mp m with m | m
   ·exact g5.ok x m
   ·rw [List.mem_singleton.mp m]
    exact fun _ k=>nomatch k
  ·rw [Bc,List.nodup_append]
   refine ⟨g5.nd,List.nodup_cons.mpr ⟨(fun k=>nomatch k),Hi⟩,fun a am b bm=>?_⟩
   obtain ⟨x,xm,rfl⟩:=List.mem_map.mp am
   rw [List.mem_singleton.mp bm]
   exact nb x xm
  ·rcases List.mem_append.mp m with m | m
   ·exact g5.new x m
   ·rw [List.mem_singleton.mp m]
    exact none_of g4 hnl
  ·rcases List.mem_append.mp m with m | m
   ·exact g7 x m
   ·rw [List.mem_singleton.mp m]
    exact nD
 rintro B ys H2 hB ⟨bs,rfl,g2,g3,g4,g5,g6,g7⟩
 rw [Ce] at g2
 and_intros
 refine ⟨s',_,rfl,.inl (g4.seq hS),?_⟩
 and_intros
 refine ⟨_,_,rfl,_,_,rfl,?_⟩
 have hM:7<=(if (if 23 < ((ns.map V.int).length:Ac) then 23 else ((ns.map V.int).length:Ac)) > 7 then (if 23 < ((ns.map V.int).length:Ac) then 23 else ((ns.map V.int).length:Ac)) else 7)/\(if (if 23 < ((ns.map V.int).length:Ac) then 23 else ((ns.map V.int).length:Ac)) > 7 then (if 23 < ((ns.map V.int).length:Ac) then 23 else ((ns.map V.int).length:Ac)) else 7)<=23:=by
  split <;> split at*<;> omega
 generalize (if (if 23 < ((ns.map V.int).length:Ac) then 23 else ((ns.map V.int).length:Ac)) > 7 then (if 23 < ((ns.map V.int).length:Ac) then 23 else ((ns.map V.int).length:Ac)) else 7)=M at hM ⊢
 refine ⟨3,M,rfl,⟨by decide,by decide,by omega,by omega⟩,Nh (fun i σ' J=>Ex4 fun (v4 v5 v6:Ay V) (bs:Ab (Ad × Ls))=>σ'=[Aa (.ref s'),Aa (.int (n:Ac)),Aa (.int y),Aa (.ref B),v4,v5,v6]/\Ax H J/\J B=Aa (.lst (bs.map fun x=>V.ref x.1))/\Bun H J n (Bt n) bs/\bs.length=mb/\(AU bs).length=i/\∀x∈bs,x.1≠B) ⟨Ag,Ag,Ag,bs,rfl,g4,g3,g5,g2,by rw [g6];rfl,g7⟩ ?_ ?_⟩
 ·rintro i σ' J hi ⟨v4,v5,v6,bs,rfl,sJ,eB,bu,bl,bn,bB⟩
  and_intros
  refine ⟨s',ns,3+(i:Ac),rfl,sJ.seq hS,h63,by omega,by omega,fun z z0 z1=>?_⟩
  and_intros
  refine ⟨z,3+(i:Ac),rfl,GZ z0 z1,C1 (by omega) (by omega),fun u u0 u1=>?_⟩
  have szu:=Ki u0 u1
  have m9:=CI (u.fdiv 64) (show (0:Ac) < 9 by decide)
  have mG:=CI (u.fdiv 64) (show (0:Ac) < 10 ^ (9:Ac).toNat by decide)
  have eG:(10:Ac) ^ (9:Ac).toNat=1000000000:=by decide
  have m2:=CI (y.fdiv 8) (show (0:Ac) < 2 by decide)
  and_intros
  refine ⟨(by show 2<=A5;decide),fun ml hml=>?_⟩
  dsimp only
  have s1:=A2 hml (.lst [V.int (1+(u.fdiv 64).fmod 9),V.int (1+(u.fdiv 64).fmod (10 ^ (9:Ac).toNat))])
  have eml:(upd J ml (.lst [V.int (1+(u.fdiv 64).fmod 9),V.int (1+(u.fdiv 64).fmod (10 ^ (9:Ac).toNat))])) ml=Aa (.lst [V.int (1+(u.fdiv 64).fmod 9),V.int (1+(u.fdiv 64).fmod (10 ^ (9:Ac).toNat))]):=Ap
  generalize upd J ml (.lst [V.int (1+(u.fdiv 64).fmod 9),V.int (1+(u.fdiv 64).fmod (10 ^ (9:Ac).toNat))])=J1 at s1 eml ⊢
  obtain ⟨v,hv,vv⟩:=Za (x0:=1+(u.fdiv 64).fmod 9) (x1:=1+(u.fdiv 64).fmod (10 ^ (9:Ac).toNat)) (fun v=>1<=v/\v<=1000000000) ((y.fdiv 8).fmod 2) m2.1 m2.2 ⟨by omega,by omega⟩ ⟨by omega,by omega⟩
  and_intros
  refine ⟨ml,_,_,_,rfl,rfl,SqL.of eml,hv,?_⟩
  have u7:0<=u.fdiv 7/\u.fdiv 7 < 10 ^ 40:=by
   rw [Jg _ (by decide)]
   omega
  have eB1:=s1 _ _ eB
  have lb:(bs.map fun x=>V.ref x.1).length=bs.length:=Aw _
  have mj:=CI (u.fdiv 4096) (show (0:Ac) < ((bs.map fun x=>V.ref x.1).length:Ac) by omega)
  obtain ⟨j,hj⟩:∃j:Ae,(u.fdiv 4096).fmod ((bs.map fun x=>V.ref x.1).length:Ac)=(j:Ac):=⟨_,(Gw mj.1).symm⟩
  obtain ⟨x,ex⟩:∃x,bs[j]?=Aa x:=⟨_,BF (by omega)⟩
  have xm:=Br ex
  have xl:=HG xm
  have bu1:=bu.same s1
  and_intros
  refine ⟨by show ((bs.map fun x=>V.ref x.1).length:Ac)≠0;omega,?_⟩
  refine ⟨B,_,_,_,rfl,rfl,SqL.of eB1,(by rw [hj];exact Dv (by rw [Bm,ex];rfl)),?_⟩
  refine ⟨.inl ⟨rfl,_,SqL.of (bu1.lies x xm).1⟩,?_⟩
  and_intros
  refine ⟨u.fdiv 7,n,rfl,u7.1,u7.2,n2,n6,fun t ts J2 s2 et tp=>?_⟩
  and_intros
  refine ⟨(by show 2<=A5;decide),fun tl htl=>?_⟩
  have s3:=A2 htl (.tup [V.ref t,V.int v])
  have etl:(upd J2 tl (.tup [V.ref t,V.int v])) tl=Aa (.tup [V.ref t,V.int v]):=Ap
  generalize upd J2 tl (.tup [V.ref t,V.int v])=J3 at s3 etl ⊢
  have s13:=s1.trans (s2.trans s3)
  have bu3:=bu.same s13
  refine ⟨x.1,_,_,rfl,rfl,(bu3.lies x xm).1,(by rw [Cr];exact DJ (by omega)),?_⟩
  have bu5:Bun H (upd J3 x.1 (.lst (vls x.2++[V.ref tl]))) n (Bt n) (bs.set j (x.1,x.2++[(tl,t,ts,v)])):=by
   have:=bu3.push (p':=Bt n) (q:=(tl,t,ts,v)) ex (fun z m=>m) etl (s3 _ _ et) ⟨tp,vv.1,vv.2,GL n6 tp⟩
   rw [G_] at this
   exact this
  have al:=MN (y:=(x.1,x.2++[(tl,t,ts,v)])) ex
  simp only [B9,BA,Cs] at al
  exact ⟨_,_,_,_,rfl,Bu (sJ.trans s13) (bu3.new x xm),(by rw [AF (AM (bB x xm)),Aam ex];exact s13 _ _ eB),bu5,(by rw [DO];exact bl),(by omega),Aah ex bB⟩
 ·rintro σ' J ⟨v4,v5,v6,bs,rfl,sJ,eB,bu,bl,bn,bB⟩
  and_intros
  exact q B bs J sJ ⟨eB,bu.lies,bu.ok,by omega⟩ (by omega) (by omega) (by omega)
theorem ok_ai (T:Tx K mg ad):AG P w K mg base CX0 3 ad.f_ai ad.d_ai ["_law_lines","_law_cell_here","_law_hands"] Sv:=by
 exists ai
 obtain ⟨l,c,n,ls,rfl,hl,g,ok,l30,c0,c1,n2,n6,q⟩:=h
 refine ⟨_,(@Av _ _ _ _ _ (3<$>(bd<*(@Aj _ _ _ _ _ (pv 1) (@Aj _ _ _ _ _ Au Am (by rfl)) (by rfl)))) (@Av _ _ _ _ _ (4<$>(Ru rfl (by rfl) T.z_bx (by rfl) T.z_cs (pv 0))) (@Av _ _ _ _ _ ((PW.pt (@De _ _ _ _ _ _ _ ((Rn (K:=K) hr.units)⊂((pv 0)∪(@Cz _ _ _ _ Am))) (@DI _ _ _ _ (D1⊂((@A9 _ _ _ _ _ _ _ _ Cn (pv 3) Au)∪Au)))))⊆((~~~(pv 4))∪Bs)) (@Av _ _ _ _ _ (5<$>(@A9 _ _ _ _ _ _ _ _ Cn (@A9 _ _ _ _ _ _ _ _ CO (pv 3) Au) (@B2 _ _ _ _ _ _ _ _ _ Dm (by rfl) T.z_bw Dh (@Aj _ _ _ _ _ (pv 0) Am (by rfl)) (by decide) (by decide) (by rfl) (by rfl)))) (@Av _ _ _ _ _ (EX (B0∩((pv 4)∪(pv 5))) (Fz rfl (CV (Ci (i:=6) sc_ai.nd rfl (BW rfl)) (CV (Ci (i:=7) sc_ai.nd rfl (BW rfl)) F0)))) (@Av _ _ _ _ _ (8<$>(B0∩((@Cz _ _ _ _ (@Aj _ _ _ _ _ (pv 7) (@Aj _ _ _ _ _ (@A9 _ _ _ _ _ _ _ _ Ch Au (@A9 _ _ _ _ _ _ _ _ Cn (@A9 _ _ _ _ _ _ _ _ CO (pv 3) Au) (pv 7))) Am (by rfl)) (by rfl)))∪(@A9 _ _ _ _ _ _ _ _ Cn (@A9 _ _ _ _ _ _ _ _ CO (pv 3) Au) Au)))) (@Av _ _ _ _ _ (EX (@BI _ _ _ _ _ (@Aj _ _ _ _ _ (be<*(@Aj _ _ _ _ _ (@A9 _ _ _ _ _ _ _ _ CO (pv 3) Au) (@Aj _ _ _ _ _ (pv 2) Am (by rfl)) (by rfl))) (@Aj _ _ _ _ _ (pv 8) Am (by rfl)) (by rfl))) (Fy (pv 4) (pv 5) FC)) (@Av _ _ _ _ _ ((Fx⊂((pv 8)∪(pv 7)))⊆((@Bl _ _ _ (@D4 _ _ _ _ (DY Ee FT PySem.F.type_list_append EN (pv 4) (@Aj _ _ _ _ _ (@BI _ _ _ _ _ (@Aj _ _ _ _ _ (pv 6) (@Aj _ _ _ _ _ (@A9 _ _ _ _ _ _ _ _ GM (pv 7) (pv 8)) Am (by rfl)) (by rfl))) Am (by rfl))) (by rfl)))∪Bs)) (~~~(pv 4)))))))))),?_⟩
 and_intros
 refine ⟨c,3,rfl,GZ c0 c1,szd 64,fun y y0 y1=>?_⟩
 have szy:=Ki y0 y1
 and_intros
 refine ⟨l,_,rfl,SqL.of hl,fun f hf=>?_⟩
 have s1:=A2 hf (.lst (vls ls).reverse)
 have e1:(upd H f (.lst (vls ls).reverse)) f=Aa (.lst (vls ls.reverse)):=by rw [Ap];unfold vls;rw [Mi]
 generalize upd H f (.lst (vls ls).reverse)=H1 at s1 e1 ⊢
 have g1:AO H1 ls.reverse:=fun q m=>(g.same s1) q (List.mem_reverse.mp m)
 have ok1:Cp n (Bt n) (An ls.reverse):=fun q m=>ok q (by rw [Qs] at m;exact List.mem_reverse.mp m)
 have sm1:AX (An ls.reverse)=AX (An ls):=by rw [Qs,Aa8]
 have ln1:ls.reverse.length=ls.length:=UW
 and_intros
 refine ⟨(by show 0<=A5;decide),fun n0 hn0=>?_⟩
 have s2:=A2 hn0 (.lst [])
 have en0:(upd H1 n0 (.lst [])) n0=Aa (.lst []):=Ap
 generalize upd H1 n0 (.lst [])=H2 at s2 en0 ⊢
 have e2:=s2 _ _ e1
 have g2:=g1.same s2
 have hl2:=(s1.trans s2) _ _ hl
 refine ⟨.list ((An ls).map ld),.list [],.lst (SqL.of hl2) (HX (g.same (s1.trans s2))),.lst (SqL.of en0) .nil,IW _,IW [],?_⟩
 rw [show Mt (.list ((An ls).map ld)) (.list [])=decide (ls=[]) from by cases ls <;> rfl]
 have plain:Q (.ref f) H2:=q f ls.reverse H2 hf (s1.trans s2) e2 g2 ok1 sm1 (by omega)
 by_cases c0:ls=[]
 ·refine ⟨_,rfl,ifT (Be c0) ?_⟩
  and_intros
  exact plain
 have lp:0 < ls.length:=List.length_pos_iff.mpr c0
 refine ⟨_,rfl,ifF (Bo c0) ?_⟩
 and_intros
 refine Em (fun _=>?_) (fun _=>?_)
 ·and_intros
  exact plain
 clear plain
 have lv:(vls ls).length=ls.length:=Cr ls
 and_intros
 refine ⟨by show ((vls ls).length:Ac)≠0;omega,?_⟩
 have mi:=CI (y.fdiv 4) (show (0:Ac) < ((vls ls).length:Ac) by omega)
 dsimp only
 generalize hi0:(y.fdiv 4).fmod ((vls ls).length:Ac)=w1 at mi ⊢
 obtain ⟨i,rfl⟩:∃i:Ae,w1=(i:Ac):=⟨w1.toNat,by omega⟩
 clear hi0
 obtain ⟨o,eo⟩:∃o,ls.reverse[i]?=Aa o:=⟨_,BF (by omega)⟩
 have om:=Br eo
 obtain ⟨go1,go2⟩:=g2 o om
 obtain ⟨opp,o1,o9,oks⟩:=ok1 (o.2.2.1,o.2.2.2) (List.mem_map.mpr ⟨o,om,rfl⟩)
 have ato:atI (vls ls.reverse) (i:Ac)=Aa (.ref o.1):=Dv (by unfold vls;rw [Bm,eo];rfl)
 and_intros
 refine ⟨f,_,_,_,rfl,rfl,SqL.of e2,ato,?_⟩
 refine ⟨o.1,_,rfl,SqT.of go1,rfl,_,_,rfl,_,_,rfl,rfl,?_⟩
 and_intros
 refine ⟨by show o.2.2.2≠0;omega,?_⟩
 have mm:=CI (y.fdiv 64) (show 0 < o.2.2.2 by omega)
 and_intros
 refine ⟨(by show 2<=A5;decide),fun ml hml=>?_⟩
 dsimp only
 have s3:=A2 hml (.lst [V.int o.2.2.2,V.int (1+(y.fdiv 64).fmod o.2.2.2)])
 have eml:(upd H2 ml (.lst [V.int o.2.2.2,V.int (1+(y.fdiv 64).fmod o.2.2.2)])) ml=Aa (.lst [V.int o.2.2.2,V.int (1+(y.fdiv 64).fmod o.2.2.2)]):=Ap
 generalize upd H2 ml (.lst [V.int o.2.2.2,V.int (1+(y.fdiv 64).fmod o.2.2.2)])=H3 at s3 eml ⊢
 have m2:=CI (y.fdiv 32) (show (0:Ac) < 2 by decide)
 obtain ⟨mv,hv,mv1,mvM⟩:∃mv:Ac,atI [V.int o.2.2.2,V.int (1+(y.fdiv 64).fmod o.2.2.2)] ((y.fdiv 32).fmod 2)=Aa (.int mv)/\1<=mv/\mv<=o.2.2.2:=by
  rcases (by omega:(y.fdiv 32).fmod 2=0\/(y.fdiv 32).fmod 2=1) with h | h
  ·exact ⟨o.2.2.2,by rw [h];rfl,o1,Dr _⟩
  ·exact ⟨1+(y.fdiv 64).fmod o.2.2.2,by rw [h];rfl,by omega,by omega⟩
 have szm:Sz 64 mv:=C1 (by omega) (by omega)
 have szo:Sz 64 o.2.2.2:=C1 (by omega) (by omega)
 have y7:0<=y.fdiv 7/\y.fdiv 7 < 10 ^ 40:=by
  rw [Jg _ (by decide)]
  omega
 and_intros
 refine ⟨ml,_,_,_,rfl,rfl,SqL.of eml,hv,?_⟩
 and_intros
 refine ⟨y.fdiv 7,n,rfl,y7.1,y7.2,n2,n6,fun t ts H5 s5 et tp=>?_⟩
 have okS:=GL n6 tp
 and_intros
 refine ⟨(by show 2<=A5;decide),fun t1 ht1=>?_⟩
 have s6:=A2 ht1 (.tup [V.ref t,V.int mv])
 have et1:(upd H5 t1 (.tup [V.ref t,V.int mv])) t1=Aa (.tup [V.ref t,V.int mv]):=Ap
 generalize upd H5 t1 (.tup [V.ref t,V.int mv])=H6 at s6 et1 ⊢
 have s26:=s3.trans (s5.trans s6)
 have s06:=(s1.trans s2).trans s26
 have e6:=s26 _ _ e2
 have g6:=g2.same s26
 have et6:=s6 _ _ et
 have lr:(vls ls.reverse).length=ls.length:=by rw [Cr];exact ln1
 and_intros
 refine ⟨f,_,_,i,rfl,rfl,e6,E5 (by omega),?_⟩
 have s7:=Bu (o:=.lst ((vls ls.reverse).set i (.ref t1))) s06 hf
 have e7:(upd H6 f (.lst ((vls ls.reverse).set i (.ref t1)))) f=Aa (.lst (vls (ls.reverse.set i (t1,t,ts,mv)))):=by rw [Ap];exact BR (fun v=>Aa (HO.lst v)) (Ab0 (r:=(t1,t,ts,mv)))
 have g7:AO (upd H6 f (.lst ((vls ls.reverse).set i (.ref t1)))) (ls.reverse.set i (t1,t,ts,mv)):=AO.upd e6 (Xn g6 et1 et6)
 have go7:(upd H6 f (.lst ((vls ls.reverse).set i (.ref t1)))) o.2.1=Aa (.tup (o.2.2.1.map V.int)):=by rw [AF (Bq (s26 _ _ go2) e6 (fun z=>by cases z))];exact s26 _ _ go2
 generalize upd H6 f (.lst ((vls ls.reverse).set i (.ref t1)))=H7 at s7 e7 g7 go7 ⊢
 have sm7:=Aa9 (r:=(t1,t,ts,mv)) eo
 have ok7:Cp n (Bt n) (An (ls.reverse.set i (t1,t,ts,mv))):=ok_cl ok1 ⟨tp,mv1,Ol mvM o9,okS⟩
 have ln7:(ls.reverse.set i (t1,t,ts,mv)).length=ls.length:=by rw [DO];exact ln1
 generalize ls.reverse.set i (t1,t,ts,mv)=f7 at e7 g7 sm7 ok7 ln7
 replace sm7:AX (An f7)=AX (An ls) - o.2.2.2+mv:=by rw [sm7,sm1]
 and_intros
 by_cases c:mv < o.2.2.2
 ·refine ifT (Be c) ?_
  and_intros
  refine ⟨.inl ⟨rfl,_,SqL.of e7⟩,?_⟩
  and_intros
  refine ⟨(by show 2<=A5;decide),fun t2 ht2=>?_⟩
  dsimp only
  have s8:=A2 ht2 (.tup [V.ref o.2.1,V.int (o.2.2.2 - mv)])
  have et2:(upd H7 t2 (.tup [V.ref o.2.1,V.int (o.2.2.2 - mv)])) t2=Aa (.tup [V.ref o.2.1,V.int (o.2.2.2 - mv)]):=Ap
  generalize upd H7 t2 (.tup [V.ref o.2.1,V.int (o.2.2.2 - mv)])=H8 at s8 et2 ⊢
  have e8:=s8 _ _ e7
  refine ⟨f,_,_,rfl,rfl,e8,(by rw [Cr];exact DJ (by omega)),?_⟩
  and_intros
  refine q f (f7++[(t2,o.2.1,o.2.2.1,o.2.2.2 - mv)]) _ hf (Bu (s7.trans s8) hf) (by rw [Ap,G_];rfl) (AO.upd e8 ((g7.same s8).append fun q m=>by rw [List.mem_singleton.mp m];exact ⟨et2,s8 _ _ go7⟩)) (ok_c3 (by rw [FK];exact ok7) ⟨opp,by show 1<=o.2.2.2 - mv;omega,by show o.2.2.2 - mv<=_;omega,oks⟩) ?_ (by rw [B9,ln7];exact AB _)
  rw [Aa7,FK,sm7]
  show _+(o.2.2.2 - mv)=_
  omega
 ·refine ifF (Bo c) ?_
  and_intros
  exact q f f7 _ hf s7 e7 g7 ok7 (by omega) (by omega)
theorem ok_g (T:Tx K mg ad):AG P w K mg base CX0 3 ad.f_g ad.d_g ["self"] (Sy ad.c_a):=by
 exists g
 obtain ⟨a,m,S,O,f,k,n,rest,bs,dss,os,rfl,lk,pk,q⟩:=h
 refine ⟨_,(~~~(a0<*(@Aj _ _ _ _ _ (B4 (pv 0) rfl) Am (by rfl)))),?_⟩
 obtain ⟨dx,ha⟩:=lk.at_
 obtain ⟨a1,a2,a3⟩:=lk.all pk (fun _ m=>m) (by rw [lk.len];exact pk.d5)
 refine ⟨_,rfl,a,_,dx,_,_,rfl,ha,T.cl_a,T.na_a_b4,rfl,?_⟩
 refine ⟨S,bs,Bt n,rfl,lk.sh,lk.lies,a1,Gk pk.n6,a2,a3,fun l ls H1 hl s1 e1 g1 sh _=>?_⟩
 exact q l ls H1 hl s1 e1 g1 (sh.of_tot fun ts=>(lk.tot pk ts).symm)
theorem ok_k (T:Tx K mg ad):AG P w K mg base CX0 3 ad.f_k ad.d_k ["self","hands","seats","lots"] (Tt K):=by
 exists k
 obtain ⟨a,C,dx,h,s,rfl,ha,cl,n1,n2,n3,h1,h12,s1,s60,q⟩:=h
 refine ⟨_,(@Av _ _ _ _ _ ((PW.pt (@De _ _ _ _ _ _ _ (@Co _ _ _ _ (@Cj _ _ _ (ab<*(@Aj _ _ _ _ _ (pv 1) Am (by rfl))) (by intro _;rfl))) (@DI _ _ _ _ (@Co _ _ _ _ (@Cj _ _ _ (ad<*(@Aj _ _ _ _ _ (pv 2) Am (by rfl))) (by intro _;rfl))))))⊆((@Bl _ _ _ Dd)∪Bs)) (@Av _ _ _ _ _ ((PW.pt (@RG _ _ _ _ _ _ _ (N9⊂((pv 3)∪E8)) (@RH _ _ _ _ (@Co _ _ _ _ (@Cj _ _ _ (ac<*(@Aj _ _ _ _ _ (pv 3) (@Aj _ _ _ _ _ (pv 1) Am (by rfl)) (by rfl))) (by intro _;rfl))))))⊆((@Bl _ _ _ Dd)∪Bs)) (@Av _ _ _ _ _ (Dq (pv 0) (pv 1) rfl) (@Av _ _ _ _ _ (Dq (pv 0) (pv 2) rfl) (@Bl _ _ _ (Dq (pv 0) (GN (N8⊂((pv 3)∪E8)) (NE rfl (by rfl) T.z_bx (by rfl) T.z_bz (pv 1)) (@EU _ _ _ _ _ _ _ _ _ Fo (by rfl) T.z_bx EH (@Aj _ _ _ _ _ (pv 3) Am (by rfl)) (by decide) (by decide) (by rfl) (by rfl))) rfl)))))),?_⟩
 refine ⟨_,rfl,(h:Ac),rfl,by omega,by omega,?_⟩
 and_intros
 refine ⟨s1,s60,?_⟩
 and_intros
 refine ⟨a,C,dx,[],rfl,ha,cl,n1,(by simp only [BA,Cs];decide),?_⟩
 rw [Zr]
 have g2:=E7 (o:=.ins C dx [("hands",.int (h:Ac))]) (DH H a)
 have a2:(upd H a (.ins C dx [("hands",.int (h:Ac))])) a=_:=Ap
 generalize upd H a (.ins C dx [("hands",.int (h:Ac))])=H2 at g2 a2 ⊢
 and_intros
 refine ⟨a,C,dx,_,rfl,a2,cl,n2,(by simp only [BA,Cs];decide),?_⟩
 rw [Zs]
 have g3:=E7 (o:=.ins C dx [("hands",.int (h:Ac)),("seats",.int s)]) g2
 have a3:(upd H2 a (.ins C dx [("hands",.int (h:Ac)),("seats",.int s)])) a=_:=Ap
 generalize upd H2 a (.ins C dx [("hands",.int (h:Ac)),("seats",.int s)])=H3 at g3 a3 ⊢
 and_intros
 refine ⟨by omega,fun b hb=>?_⟩
 rw [<- Abx]
 have ba:b≠a:=fun z=>by rw [z,a3] at hb;cases hb
 have hbH:H b=Ag:=by
  cases e:H b with
  | none=>rfl
  | some o =>
    have:=g3 _ _ (Bj e ba)
    rw [hb] at this
    cases this
 have g4:=g3.trans (A2 hb (.lst ((ups h).map V.int)))
 have a4:=A2 hb (.lst ((ups h).map V.int)) _ _ a3
 have b4:(upd H3 b (.lst ((ups h).map V.int))) b=Aa (.lst ((ups h).map V.int)):=Ap
 generalize upd H3 b (.lst ((ups h).map V.int))=H4 at g4 a4 b4 ⊢
 refine ⟨_,rfl,a,C,dx,_,rfl,a4,cl,n3,(by simp only [BA,Cs];decide),?_⟩
 rw [Zt]
 exact q b _ ba hbH (E7 g4) Ap (by rw [AF ba];exact b4)
theorem ok_ao (T:Tx K mg ad):AG P w K mg base CX0 3 ad.f_ao ad.d_ao ["self","hands"] (Sl K):=by
 exists ao
 obtain ⟨a,C,dx,n,rfl,ha,cl,na1,na2,n1,n12,q⟩:=h
 refine ⟨_,(@Av _ _ _ _ _ ((@Co _ _ _ _ (@Cj _ _ _ (ab<*(@Aj _ _ _ _ _ (pv 1) Am (by rfl))) (by intro _;rfl)))⊆((@Bl _ _ _ Dd)∪Bs)) (@Av _ _ _ _ _ (Dq (pv 0) (pv 1) rfl) (@Bl _ _ _ (Dq (pv 0) (@Cz _ _ _ _ Am) rfl)))),?_⟩
 refine ⟨_,rfl,n,rfl,n1,n12,?_⟩
 and_intros
 refine ⟨a,C,dx,[],rfl,ha,cl,na1,(by simp only [BA,Cs];decide),?_⟩
 rw [Zw]
 have g2:=E7 (o:=.ins C dx [("hands",.int n)]) (DH H a)
 have a2:(upd H a (.ins C dx [("hands",.int n)])) a=_:=Ap
 generalize upd H a (.ins C dx [("hands",.int n)])=H2 at g2 a2 ⊢
 refine ⟨(by show 0<=A5;decide),fun L hL=>?_⟩
 have La:L≠a:=fun z=>by rw [z,a2] at hL;cases hL
 have hLH:H L=Ag:=by
  cases e:H L with
  | none=>rfl
  | some o =>
    have:=g2 _ _ (Bj e La)
    rw [hL] at this
    cases this
 have g3:=g2.trans (A2 hL (.lst []))
 have a3:=A2 hL (.lst []) _ _ a2
 have e3:(upd H2 L (.lst [])) L=Aa (.lst []):=Ap
 generalize upd H2 L (.lst [])=H3 at g3 a3 e3 ⊢
 refine ⟨_,rfl,a,C,dx,_,rfl,a3,cl,na2,(by simp only [BA,Cs];decide),?_⟩
 rw [Zx]
 exact q L _ La hLH (E7 g3) Ap (by rw [AF La];exact e3)
theorem ok_bp (T:Tx K mg ad):AG P w K mg base CX0 3 ad.f_bp ad.d_bp ["self","many","had"] (SK ad.c_b):=by
 exists bp
 obtain ⟨a,h,s,st,u,v,ns,n,k,rfl,kk,st1,st9,k0,sn,sk,q⟩:=h
 refine ⟨_,(~~~(a9<*(@Aj _ _ _ _ _ (pv 1) (@Aj _ _ _ _ _ (@A9 _ _ _ _ _ _ _ _ Ch Au (@A9 _ _ _ _ _ _ _ _ Do (B4 (pv 0) rfl) (pv 2))) Am (by rfl)) (by rfl)))),?_⟩
 obtain ⟨dx,l,t,k1,k2,k3⟩:=kk
 have szs:Sz 64 st:=C1 (by omega) (by omega)
 have pk:0<=st*k:=Op (by omega) k0
 and_intros
 refine ⟨a,_,dx,_,_,rfl,k1,T.cl_b,T.na_b_cd,rfl,?_⟩
 and_intros
 exact ⟨n,1+st*k,rfl,by omega,sn.mono (by decide),((szd 64).add (szs.mul sk)).mono (by decide),q⟩
theorem ok_br (T:Tx K mg ad):AG P w K mg base CX0 3 ad.f_br ad.d_br ["self","seen","unseen","known"] (SE ad.c_d ad.c_b):=by
 exists br
 obtain ⟨m,w,l,l2,n,ls,N,rfl,mg,n2,hl,gl,l64,N0,N1,q⟩:=h
 refine ⟨_,(@Av _ _ _ _ _ ((PW.pt (@De _ _ _ _ _ _ _ (D1⊂((pv 2)∪Au)) (@DI _ _ _ _ (@Co _ _ _ _ (@Cj _ _ _ ((pv 0)=<<(d.dg.bs>=>(@Aj _ _ _ _ _ (pv 3) Am (by rfl)))) (by intro _;rfl))))))⊆((~~~ET)∪Bs)) (~~~(@Gh _ _ _ _ _ _ _ _ EO ((pv 0)=<<(d.dk.a8>=>(@Aj _ _ _ _ _ (pv 3) Am (by rfl)))) (pv 2) (Fw _)))),?_⟩
 obtain ⟨dx,hm⟩:=mg.at_
 and_intros
 by_cases c:N=0
 ·refine ifT (HI c) ?_
  and_intros
  have q1:=q H (fun _ _ e=>e)
  rw [Be c] at q1
  exact q1
 ·refine ifF (Lc c) ?_
  and_intros
  refine ⟨m,dx,_,rfl,hm,rfl,?_⟩
  and_intros
  refine ⟨m,w,l,n,ls,rfl,mg,n2,hl,gl,l64,fun H1 s1=>?_⟩
  rw [Be (show AX (An ls) > 0 from N1 (by omega))]
  and_intros
  refine ⟨m,dx,_,rfl,s1 _ _ hm,rfl,?_⟩
  and_intros
  refine ⟨m,w,l,dx,rfl,s1 _ _ hm,fun H2 s2=>?_⟩
  and_intros
  have q1:=q _ (s1.trans s2)
  rw [Bo c] at q1
  show Q (.bl (decide (N < 1))) H2
  rw [Bo (by omega)]
  exact q1
theorem ok_a6 (T:Tx K mg ad):AG P w K mg base CX0 4 ad.f_a6 ad.d_a6 ["ranks","hands"] (Th K):=by
 exists a6
 obtain ⟨p,rs,rfl,hS,h12,hR,q⟩:=h
 refine ⟨_,(@Av _ _ _ _ _ ((@Co _ _ _ _ (@Cj _ _ _ (ax<*(@Aj _ _ _ _ _ (pv 0) (@Aj _ _ _ _ _ (pv 1) Am (by rfl)) (by rfl))) (by intro _;rfl)))⊆((@Bl _ _ _ Dd)∪Bs)) (~~~(@EU _ _ _ _ _ _ _ _ _ WD (by rfl) T.z_cn OK (@Aj _ _ _ _ _ (D3 (fsc:=Aq GQ) (N:=["ranks","hands"]) (Nc:=["ranks","hands","rank"]) rfl rfl ⟨rfl,by decide +kernel,by decide +kernel,rfl,by decide +kernel,rfl,by decide +kernel,rfl,by decide +kernel⟩ rfl (B_ (YR rfl (by rfl) T.z_cm (by rfl) T.z_cl (pv 0))) (fun _ _ _ _=>(Ka (EO⊂((pv 2)∪Au)))) (fun _ _ _ _=>(an<*(@Aj _ _ _ _ _ (pv 0) (@Aj _ _ _ _ _ (pv 2) Am (by rfl)) (by rfl))))) Am (by rfl)) (by decide) (by decide) (by rfl) (by rfl)))),?_⟩
 refine ⟨_,rfl,_,rfl,p,rs,rfl,hS,h12,hR,fun H0 s00=>?_⟩
 and_intros
 refine ⟨p,rs,rfl,SqL.of (s00 _ _ hS),by omega,fun l ms m1 m2 hl=>?_⟩
 obtain rfl:=Aa4 m1 m2
 have sl:=NQ rs
 have s0:=s00.trans (A2 hl (.lst ((Df rs).map V.int)))
 have el:(upd H0 l (.lst ((Df rs).map V.int))) l=Aa (.lst ((Df rs).map V.int)):=Ap
 generalize upd H0 l (.lst ((Df rs).map V.int))=H1 at s0 el ⊢
 refine ⟨l,rfl,⟨_,SqL.of el⟩,?_⟩
 refine DW (xs:=(Df rs).map V.int) (by rw [Aw];exact D7 (by omega)) (fun D i ys H'=>ys=((((Df rs).take i).filter fun r=>decide (0 < r)).map (Gq rs)).map V.int/\H' D=Aa (.lst ys)/\Ax H1 H') (fun D hD=>⟨rfl,Ap,A2 hD _⟩)
  (fun D i ys H' hq_=>by obtain ⟨e1,e2,_⟩:=hq_;exact ⟨e2,by rw [e1,Aw,Aw];exact CK (Mc _ _) (EF _ _)⟩) (fun D i ys H' hD hq_=>by obtain ⟨_,_,e3⟩:=hq_;exact SqL.of (e3 _ _ el)) ?_ ?_
 ·rintro D i x ys H' K1 K2 hD hx ⟨e1,e2,e3⟩ k1 k2
  obtain ⟨z,hz,rfl⟩:=int_at hx
  have et:(Df rs).take (i+1)=(Df rs).take i++[z]:=by rw [CA,hz];rfl
  refine ⟨_,rfl,_,_,rfl,rfl,_,rfl,?_⟩
  refine Em (fun c=>?_) (fun c=>?_)
  ·have c':decide (0 < z)=Af:=c
   refine ⟨_,rfl,_,rfl,p,rs,z,rfl,SqL.of ((s0.trans e3) _ _ hS),h12,fun H5 s5=>?_⟩
   refine k1 _ _ (s5 _ _ e2) ⟨?_,Ap,Bu (e3.trans s5) hD⟩
   rw [et,Jh,Bc,Bc,e1]
   simp [c']
  ·have c':decide (0 < z)=As:=Bool.eq_false_iff.mpr c
   refine k2 _ ⟨?_,e2,e3⟩
   rw [et,Jh,e1]
   simp [c']
 ·rintro D ys H' hD ⟨e1,e2,e3⟩
  rw [Aw,CJ (AB _)] at e1
  subst e1
  refine ⟨D,_,rfl,.inl ⟨SqL.of e2,fun t ht=>?_⟩⟩
  have s9:=(s0.trans e3)
  exact q t _ (by
   cases e:H t with
   | none=>rfl
   | some u=>rw [s9 _ _ e] at ht;cases ht) (s9.trans (A2 ht _)) Ap
theorem ok_p (T:Tx K mg ad):AG P w K mg base CX0 4 ad.f_p ad.d_p ["_law_look","_law_bundles_here","_law_order_here","_law_at"] (Ti ad.c_a ad.c_d ad.c_b):=by
 refine T.F_p.ok sc_p (fun vs H Q E h=>?_) (fun cdv A outer s H vs Q E hr h=>?_)
 ·obtain ⟨a,m,w,S,O,f,B,O',k,n,i,sd,bs,cs,os,rfl,_⟩:=h
  rfl
 obtain ⟨a,m,w,S,O,f,B,O',k,n,i,sd,bs,cs,os,rfl,lk,pk,io,bd,hO,as,q⟩:=h
 have nd:=sc_p.nd
 refine ⟨_,(@Av _ _ _ _ _ (4<$>(ah<*(@Aj _ _ _ _ _ (D3 (fsc:=Aq s_p) (N:=["_law_look","_law_bundles_here","_law_order_here","_law_at","_law_left","_law_due","_law_told"]) (Nc:=["_law_look","_law_bundles_here","_law_order_here","_law_at","_law_left","_law_due","_law_told","_law_k"]) rfl rfl ⟨rfl,by decide +kernel,by decide +kernel,rfl,by decide +kernel,rfl,by decide +kernel,rfl,by decide +kernel⟩ rfl (B_ (HR IX (pv 2) (HW (pv 3)) HV)) (fun _ _ _ _=>Cv) (fun _ _ _ _=>((HL K)∩((pv 1)∪(pv 7))))) Am (by rfl)))) (@Av _ _ _ _ _ (5<$>E8) (@Av _ _ _ _ _ (@NI _ _ _ _ _ _ _ _ (EO⊂((pv 4)∪Au)) (@Bl _ _ _ (5<$>(B0∩((pv 2)∪(pv 3))))) Bs) (@Av _ _ _ _ _ (6<$>(CP (pv 0) T.cl_a T.me_a_cf (ok_g T) (hr.mono (by decide)) T.b_g .nil Cd)) (@Av _ _ _ _ _ ((PW.pt (@De _ _ _ _ _ _ _ (@Co _ _ _ _ (@Cj _ _ _ (aj<*(@Aj _ _ _ _ _ (pv 6) (@Aj _ _ _ _ _ (o<*(@Aj _ _ _ _ _ (pv 1) Am (by rfl))) Am (by rfl)) (by rfl))) (by intro _;rfl))) (@De _ _ _ _ _ _ _ (ER⊂((CP (pv 0) T.cl_a T.me_a_ct (ok_m T) (hr.mono (by decide)) T.b_m .nil Cd)∪(pv 4))) (@DI _ _ _ _ (ER⊂((CP (pv 0) T.cl_a T.me_a_cj (ok_i T) (hr.mono (by decide)) T.b_i .nil Cd)∪(pv 5)))))))⊆((~~~ET)∪Bs)) (@Av _ _ _ _ _ (@D4 _ _ _ _ (DY Ee FT PySem.F.type_list_append EN (pv 6) (@Aj _ _ _ _ _ (@BI _ _ _ _ _ (@Aj _ _ _ _ _ (@BI _ _ _ _ _ Am) (@Aj _ _ _ _ _ Au Am (by rfl)) (by rfl))) Am (by rfl))) (by rfl)) (@Av _ _ _ _ _ (@NI _ _ _ _ _ _ _ _ (EO⊂((pv 4)∪Au)) (~~~(@Gh _ _ _ _ _ _ _ _ D1 (CP (pv 0) T.cl_a T.me_a_co (ok_j T) (hr.mono (by decide)) T.b_j .nil Cd) Gj (Fw _))) Bs) (~~~(@Gh _ _ _ _ _ _ _ _ ER (CP (pv 0) T.cl_a T.me_a_co (ok_j T) (hr.mono (by decide)) T.b_j .nil Cd) Gj (Fw _)))))))))),?_⟩
 obtain ⟨dx,ha⟩:=lk.at_
 and_intros
 refine ⟨O',_,rfl,SqL.of hO,fun c hc=>?_⟩
 rw [M',<- Me]
 have s1:=A2 hc (.lst ((os.drop i).map V.int))
 have e1:(upd H c (.lst ((os.drop i).map V.int))) c=Aa (.lst ((os.drop i).map V.int)):=Ap
 generalize upd H c (.lst ((os.drop i).map V.int))=H1 at s1 e1 ⊢
 have ol:=pk.ol
 have d5:=pk.d5
 rw [Aw] at ol d5
 have dl:((os.drop i).map V.int).length<=5:=by rw [Aw,Hh];omega
 refine ⟨c,rfl,⟨_,SqL.of e1⟩,?_⟩
 refine DW (xs:=(os.drop i).map V.int) (D8 (by omega)) (fun D j ys H'=>∃ds:Ab (Ad × Ls),ys=(ds.map fun x=>V.ref x.1)/\ds.length=j/\(∀x∈ds,x∈cs)/\(ds.map fun x=>AX (An x.2))=((os.drop i).take j).map (fun j=>AX ((cs.map fun x=>An x.2).getD j.toNat []))/\H' D=Aa (.lst ys)/\Ax H1 H') (fun D hD=>⟨[],rfl,rfl,(fun _ m=>A8 m Cw),rfl,Ap,A2 hD _⟩) (fun D i ys H' hq_=>by obtain ⟨ds,f1,f0,_,_,f2,_⟩:=hq_;exact ⟨f2,by rw [f1,Aw,f0];exact AB _⟩) (fun D i ys H' hD hq_=>by obtain ⟨ds,_,_,_,_,_,f3⟩:=hq_;exact SqL.of (f3 _ _ e1)) ?_ ?_
 ·rintro D j ys' ys H' K1 K2 hD hy ⟨ds,rfl,f0,fb,fs,f2,f3⟩ k1 k2
  rw [Bm] at hy
  obtain ⟨z,hz,rfl⟩:=Option.map_eq_some_iff.mp hy
  obtain ⟨z0,z1⟩:=pk.oin z (Mn (Br hz))
  rw [Aw] at z1
  obtain ⟨x,ex⟩:∃x,cs[z.toNat]?=Aa x:=⟨_,BF (by omega)⟩
  have xm:=Br ex
  refine yes (ifT rfl ?_)
  and_intros
  refine ⟨B,_,_,_,rfl,rfl,SqL.of ((s1.trans f3) _ _ bd.lst),(by rw [show z=(z.toNat:Ac) by omega];exact Dv (by rw [Bm,ex];rfl)),?_⟩
  refine k1 _ _ f2 ⟨ds++[x],by rw [Bc];rfl,by rw [B9,f0];rfl,fun z m=>?_,?_,Ap,Bu f3 hD⟩
  ·rcases List.mem_append.mp m with m | m
   ·exact fb z m
   ·rw [List.mem_singleton.mp m];exact xm
  ·rw [Bc,fs,CA,hz,Bc]
   show _++[AX (An x.2)]=_++[AX ((cs.map fun x=>An x.2).getD z.toNat [])]
   rw [BP,Bm,ex]
   rfl
 rintro D ys H2 hD ⟨ds,rfl,f0,fb,fs,f2,f3⟩
 rw [Aw,Eu] at fs
 have s2:=s1.trans f3
 have bd2:=bd.same s2
 refine ⟨D,ds,rfl,f2,(fun x m=>bd2.lies x (fb x m)),by omega,(fun x m=>CK (HG (fb x m)) bd.len),fun H3 s3=>?_⟩
 rw [show Lw ds=Un (cs.map fun x=>An x.2) (os.drop i) from BR List.sum fs]
 obtain ⟨un,ki⟩:=as.un pk
 have s03:=s2.trans s3
 have i0:0 < Un (cs.map fun x=>An x.2) (os.drop i)->i < os.length:=fun z=>by
  rcases (by omega:i < os.length\/os.length<=i) with c | c
  ·exact c
  ·rw [Ow c] at z
   exact A8 z (by show ¬ (0:Ac) < 0;decide)
 generalize hU:Un (cs.map fun x=>An x.2) (os.drop i)=U at un ki i0 ⊢
 and_intros
 refine ⟨fun σ' J=>σ'=[Aa (.ref a),Aa (.ref B),Aa (.ref O'),Aa (.int (i:Ac)),Aa (.int U),Aa (if 0 < U then .int (os.getD i 0) else .non),Ag]/\J=H3,?_,?_⟩
 ·and_intros
  by_cases cU:0 < U
  ·refine ifT (Be cU) ?_
   and_intros
   refine ⟨O',_,_,_,rfl,rfl,SqL.of (s03 _ _ hO),atN (BF (i0 cU)),?_⟩
   rw [At cU,BP,BF (i0 cU)]
   exact ⟨rfl,rfl⟩
  ·refine ifF (Bo cU) ?_
   rw [Ao cU]
   exact ⟨rfl,rfl⟩
 rintro σ' J ⟨rfl,rfl⟩
 and_intros
 refine ⟨a,dx,_,rfl,s03 _ _ ha,rfl,?_⟩
 and_intros
 refine ⟨a,m,S,O,f,k,n,_,bs,_,os,rfl,lk.same s03,pk,fun l ls H5 hl s5 e5 g5 sh5=>?_⟩
 have s05:=s03.trans s5
 and_intros
 refine ⟨B,n,cs,rfl,bd.same s05,pk.n6,by omega,fun l2 ls2 H6 hl2 s6 e6 g6 sh6 _=>?_⟩
 have s06:=s05.trans s6
 obtain ⟨_,_,l60,_,l6⟩:=pk.fit g5 sh5
 refine ⟨l,l2,ls,ls2,rfl,s6 _ _ e5,e6,g5.same s6,g6,sh5.uniq sh6 (fun ts=>by rw [JS]),by omega,l6,fun H7 s7=>?_⟩
 have s07:=s06.trans s7
 and_intros
 refine ⟨a,dx,_,rfl,s07 _ _ ha,rfl,?_⟩
 refine ⟨a,m,S,O,f,k,n,_,bs,_,os,rfl,lk.same s07,pk,fun H8 s8=>?_⟩
 have s08:=s07.trans s8
 and_intros
 refine ifF (GJ un) ?_
 and_intros
 refine ⟨a,dx,_,rfl,s08 _ _ ha,rfl,?_⟩
 refine ⟨a,m,S,O,f,k,sd,bs,_,os,rfl,lk.same s08,(fun z=>by have z:=io.mp z;rw [un] at z;rw [ki z];exact i0 z),?_⟩
 have du:(if sd="open" then V.int (os.getD k 0) else V.non)=if 0 < U then V.int (os.getD i 0) else V.non:=by
  rw [un] at io
  by_cases cU:0 < U
  ·rw [At cU,At (io.mpr cU),ki cU]
  ·rw [Ao cU,Ao (fun z=>cU (io.mp z))]
 rw [du]
 and_intros
 refine ⟨by split <;> rfl,?_⟩
 rw [Be rfl]
 and_intros
 have e8:=(s6.trans (s7.trans s8)) _ _ e5
 refine ⟨.inl ⟨rfl,_,SqL.of e8⟩,?_⟩
 and_intros
 refine ⟨(by show 0<=A5;decide),fun t0 ht0=>?_⟩
 have s9:=A2 ht0 (.tup [])
 have et0:(upd H8 t0 (.tup [])) t0=Aa (.tup []):=Ap
 generalize upd H8 t0 (.tup [])=H9 at s9 et0 ⊢
 refine ⟨(by show 2<=A5;decide),fun t1 ht1=>?_⟩
 have s10:=A2 ht1 (.tup [V.ref t0,V.int 1])
 have et1:(upd H9 t1 (.tup [V.ref t0,V.int 1])) t1=Aa (.tup [V.ref t0,V.int 1]):=Ap
 generalize upd H9 t1 (.tup [V.ref t0,V.int 1])=H10 at s10 et1 ⊢
 have e10:=(s9.trans s10) _ _ e8
 refine ⟨l,_,_,rfl,rfl,e10,(by rw [Cr];exact DJ (by omega)),?_⟩
 have s11:Ax H (upd H10 l (.lst (vls ls++[V.ref t1]))):=Bu (s08.trans (s9.trans s10)) (none_of s03 hl)
 generalize upd H10 l (.lst (vls ls++[V.ref t1]))=H11 at s11 ⊢
 rw [un] at io
 and_intros
 refine ⟨fun σ' J=>σ'=[Aa (.ref a),Aa (.ref B),Aa (.ref O'),Aa (.int (i:Ac)),Aa (.int U),Aa (if 0 < U then .int (os.getD i 0) else .non),Aa (.ref l)]/\J=H11/\¬ 0 < U,?_,?_⟩
 ·and_intros
  by_cases cU:0 < U
  ·refine ifT (Be cU) ?_
   and_intros
   refine ⟨a,dx,_,rfl,s11 _ _ ha,rfl,?_⟩
   refine ⟨a,m,S,O,f,dx,_,sd,rfl,s11 _ _ ha,?_⟩
   refine ⟨rfl,?_⟩
   rw [io.mpr cU,Be rfl]
   exact q _ s11
  ·refine ifF (Bo cU) ?_
   exact ⟨rfl,rfl,cU⟩
 rintro σ' J ⟨rfl,rfl,cU⟩
 and_intros
 refine ⟨a,dx,_,rfl,s11 _ _ ha,rfl,?_⟩
 refine ⟨a,m,S,O,f,dx,_,sd,rfl,s11 _ _ ha,?_⟩
 refine ⟨rfl,?_⟩
 rw [Bo (fun z=>cU (io.mp (by injection z)))]
 exact q _ s11
theorem ok_bm (T:Tx K mg ad):AG P w K mg base CX0 4 ad.f_bm ad.d_bm ["self","k"] (Td ad.c_c):=by
 exists bm
 obtain ⟨b,L,n,bs,k,x,p,rfl,ib,ex,ok,p64,q⟩:=h
 refine ⟨_,(~~~(a5<*(@Aj _ _ _ _ _ ((pv 0)=<<(c.db.bl>=>(@Aj _ _ _ _ _ (pv 1) Am (by rfl)))) Am (by rfl)))),?_⟩
 obtain ⟨dx,hb⟩:=ib.at_
 and_intros
 refine ⟨b,dx,_,rfl,hb,rfl,?_⟩
 and_intros
 refine ⟨b,L,n,bs,k,x,rfl,ib,ex,fun l H1 hl s1 e1=>?_⟩
 refine ⟨l,x.2,p,rfl,e1,(ib.lies x (Br ex)).2.same s1,fun q m=>(ok q m).1,p64,fun q m=>⟨(ok q m).2.1,(ok q m).2.2.1⟩,fun l' ls' H' hl' s2 e2 g2 sh ln=>?_⟩
 exact q l' ls' H' (none_of s1 hl') (s1.trans s2) e2 g2 sh ln
theorem ok_x (T:Tx K mg ad):AG P w K mg base CX0 4 ad.f_x ad.d_x ["self"] (Te ad.c_c):=by
 exists x
 obtain ⟨b,L,n,bs,p,rfl,ib,ok,p64,b12,q⟩:=h
 refine ⟨_,(~~~(a0<*(@Aj _ _ _ _ _ (D3 (fsc:=Aq s_x) (N:=["self"]) (Nc:=["self","lines"]) rfl rfl ⟨rfl,by decide +kernel,by decide +kernel,rfl,by decide +kernel,rfl,by decide +kernel,rfl,by decide +kernel⟩ rfl (B_ (B4 (pv 0) rfl)) (fun _ _ _ _=>Cv) (fun _ _ _ _=>(a5<*(@Aj _ _ _ _ _ (pv 1) Am (by rfl))))) Am (by rfl)))),?_⟩
 have ib':=ib
 obtain ⟨⟨dx,hb⟩,hL,hx,hn⟩:=ib'
 and_intros
 refine ⟨b,_,dx,_,_,rfl,hb,T.cl_c,T.na_c_b1,rfl,?_⟩
 refine ⟨L,rfl,⟨_,SqL.of hL⟩,?_⟩
 refine DW (xs:=bs.map fun x=>V.ref x.1) (by rw [Aw];exact D8 (by omega)) (fun D i ys H'=>∃ss:Ab (Ad × Ls),ys=(ss.map fun x=>V.ref x.1)/\ss.length=i/\H' D=Aa (.lst ys)/\Ax H H'/\(∀x∈ss,H' x.1=Aa (.lst (vls x.2))/\AO H' x.2/\x.1≠D)/\(∀ts,tot (An (AU ss)) ts=tot (An (AU (bs.take i))) ts)/\(∀q∈An (AU ss),q.1∈p/\1<=q.2)/\(AU ss).length<=64*i) (fun D hD=>⟨[],rfl,rfl,Ap,A2 hD _,(fun _ m=>A8 m Cw),(fun _=>rfl),(fun _ m=>A8 m Cw),BQ _⟩) (fun D i ys H' hq_=>by obtain ⟨ss,f1,f2,f3,_⟩:=hq_;exact ⟨f3,by rw [f1,Aw,f2];exact AB _⟩) (fun D i ys H' hD hq_=>by obtain ⟨_,_,_,_,f4,_⟩:=hq_;exact SqL.of (f4 _ _ hL)) ?_ ?_
 ·rintro D i y ys H' K1 K2 hD hy ⟨ss,rfl,f2,f3,f4,f5,f6,f7,f8⟩ k1 k2
  rw [Bm] at hy
  obtain ⟨x,ex,rfl⟩:=Option.map_eq_some_iff.mp hy
  have xm:=Br ex
  have et:bs.take (i+1)=bs.take i++[x]:=by rw [CA,ex];rfl
  have okx:=ok x xm
  refine yes (ifT rfl ?_)
  refine ⟨_,rfl,x.1,x.2,p,rfl,f4 _ _ (hx x xm).1,(hx x xm).2.same f4,(fun q m=>(okx q m).1),p64,(fun q m=>⟨(okx q m).2.1,(okx q m).2.2.1⟩),fun l' ls' H5 hl' s5 e5 g5 sh l64=>?_⟩
  have lD:l'≠D:=fun z=>by rw [z,f3] at hl';cases hl'
  have D5:=s5 _ _ f3
  refine k1 _ _ D5 ⟨ss++[(l',ls')],by rw [Bc];rfl,by rw [B9,f2];rfl,Ap,Bu (f4.trans s5) hD,fun z m=>?_,fun ts=>?_,fun q m=>?_,?_⟩
  ·rcases List.mem_append.mp m with m | m
   ·obtain ⟨z1,z2,z3⟩:=f5 z m
    exact ⟨by rw [AF z3];exact s5 _ _ z1,(z2.same s5).upd D5,z3⟩
   ·rw [List.mem_singleton.mp m]
    exact ⟨by rw [AF lD];exact e5,g5.upd D5,lD⟩
  ·rw [et,HF,HF,Cq,Cq,IZ,IZ,f6,sh.tot (fun q m=>(okx q m).2.1)]
  ·rw [HF,Cq] at m
   rcases List.mem_append.mp m with m | m
   ·exact f7 q m
   ·exact ⟨sh.keys (fun q m=>(okx q m).1) q m,sh.pos q m⟩
  ·rw [HF,B9]
   have:(Prod.mk l' ls').2.length < 64:=l64
   omega
 ·rintro D ys H' hD ⟨ss,rfl,f2,f3,f4,f5,f6,f7,f8⟩
  rw [Aw] at f2 f6 f8
  rw [Eu] at f6
  refine ⟨D,ss,p,rfl,f3,(fun x m=>⟨(f5 x m).1,(f5 x m).2.1⟩),(fun q m=>(f7 q m).1),p64,(fun q m=>(f7 q m).2),by omega,fun l' ls' H5 hl' s5 e5 g5 sh l64=>?_⟩
  exact q l' ls' H5 (none_of f4 hl') (f4.trans s5) e5 g5 (sh.of_tot fun ts=>(f6 ts).symm) l64
theorem ok_z (T:Tx K mg ad):AG P w K mg base CX0 4 ad.f_z ad.d_z ["self","hands","seats","lots","hurdle","step"] (SB K):=by
 exists z
 obtain ⟨a,C,dx,h,s,rfl,ha,cl,n1,n2,n3,n4,n5,h1,h12,s1,s60,q⟩:=h
 refine ⟨_,(@Av _ _ _ _ _ (@D4 _ _ _ _ (YL (ok_k T) (hr.mono (by decide)) rfl T.m_bt T.cf_bt_c1 T.F_k.kp T.b_k .nil Cd (@Aj _ _ _ _ _ (pv 0) (@Aj _ _ _ _ _ (pv 1) (@Aj _ _ _ _ _ (pv 2) (@Aj _ _ _ _ _ (pv 3) Am (by rfl)) (by rfl)) (by rfl)) (by rfl))) (by rfl)) (@Av _ _ _ _ _ ((PW.pt (@RG _ _ _ _ _ _ _ (N9⊂((pv 4)∪E8)) (@RH _ _ _ _ (@Co _ _ _ _ (@Cj _ _ _ (ae<*(@Aj _ _ _ _ _ (pv 4) Am (by rfl))) (by intro _;rfl))))))⊆((@Bl _ _ _ Dd)∪Bs)) (@Av _ _ _ _ _ ((@Co _ _ _ _ (@Cj _ _ _ (af<*(@Aj _ _ _ _ _ (pv 5) Am (by rfl))) (by intro _;rfl)))⊆((@Bl _ _ _ Dd)∪Bs)) (@Av _ _ _ _ _ (Dq (pv 0) (GN (N8⊂((pv 4)∪E8)) (@BI _ _ _ _ _ (@Aj _ _ _ _ _ Au (@Aj _ _ _ _ _ Au Am (by rfl)) (by rfl))) (pv 4)) rfl) (@Bl _ _ _ (Dq (pv 0) (pv 5) rfl)))))),?_⟩
 and_intros
 refine ⟨a,C,dx,h,s,rfl,ha,cl,n1,n2,n3,h1,h12,s1,s60,fun l' H1 la hl' g1 a1 l1=>?_⟩
 and_intros
 refine ⟨by decide,by decide,?_⟩
 and_intros
 refine ⟨(by show 2<=A5;decide),fun t ht=>?_⟩
 have g2:=g1.trans (A2 ht (.tup [V.int 0,V.int 1]))
 have a2:=A2 ht (.tup [V.int 0,V.int 1]) _ _ a1
 have l2:=A2 ht (.tup [V.int 0,V.int 1]) _ _ l1
 have t2:(upd H1 t (.tup [V.int 0,V.int 1])) t=Aa (.tup [V.int 0,V.int 1]):=Ap
 have ta:t≠a:=fun z=>by rw [z,a1] at ht;cases ht
 generalize upd H1 t (.tup [V.int 0,V.int 1])=H2 at g2 a2 l2 t2 ⊢
 refine ⟨_,rfl,a,C,dx,_,rfl,a2,cl,n4,(by simp only [BA,Cs];decide),?_⟩
 rw [Zu]
 have g3:=E7 (o:=.ins C dx [("hands",.int (h:Ac)),("seats",.int s),("lots",.ref l'),("hurdle",.ref t)]) g2
 have a3:(upd H2 a (.ins C dx [("hands",.int (h:Ac)),("seats",.int s),("lots",.ref l'),("hurdle",.ref t)])) a=_:=Ap
 have l3:(upd H2 a (.ins C dx [("hands",.int (h:Ac)),("seats",.int s),("lots",.ref l'),("hurdle",.ref t)])) l'=Aa (.lst ((ups h).map V.int)):=by rw [AF la];exact l2
 have t3:(upd H2 a (.ins C dx [("hands",.int (h:Ac)),("seats",.int s),("lots",.ref l'),("hurdle",.ref t)])) t=Aa (.tup [V.int 0,V.int 1]):=by rw [AF ta];exact t2
 generalize upd H2 a (.ins C dx [("hands",.int (h:Ac)),("seats",.int s),("lots",.ref l'),("hurdle",.ref t)])=H3 at g3 a3 l3 t3 ⊢
 and_intros
 refine ⟨a,C,dx,_,rfl,a3,cl,n5,(by simp only [BA,Cs];decide),?_⟩
 rw [Zv]
 exact q l' t _ hl' (E7 g3) Ap (by rw [AF la];exact l3) (by rw [AF ta];exact t3)
theorem ok_bq (T:Tx K mg ad):AG P w K mg base CX0 4 ad.f_bq ad.d_bq ["self","many","least","had"] (SF ad.c_b):=by
 exists bq
 obtain ⟨a,h,s,st,u,v,ns,n,l,k,rfl,il,st1,st9,k0,sn,sk,q1,q2⟩:=h
 refine ⟨_,(~~~(GN (Rq⊂((pv 1)∪(pv 2))) ((pv 0)=<<(b.dc.bp>=>(@Aj _ _ _ _ _ (pv 1) (@Aj _ _ _ _ _ (pv 3) Am (by rfl)) (by rfl)))) E8)),?_⟩
 obtain ⟨dx,la,t,k1,k2,k3⟩:=id il
 and_intros
 by_cases c:l<=n
 ·refine ifT (Be c) ?_
  refine ⟨_,rfl,a,dx,_,rfl,k1,rfl,?_⟩
  and_intros
  exact ⟨a,h,s,st,u,v,ns,n,k,rfl,il,st1,st9,k0,sn,sk,q2 c⟩
 ·refine ifF (Bo c) ?_
  exact q1 (by omega)
theorem ok_a2 (T:Tx K mg ad):AG P w K mg base CX0 5 ad.f_a2 ad.d_a2 ["code","hands"] S8:=by
 exists a2
 obtain ⟨rs,c,m,rfl,l12,hr12,c0,c1,gl,q⟩:=h
 refine ⟨_,(@Av _ _ _ _ _ ((@Co _ _ _ _ (@Cj _ _ _ (ag<*(@Aj _ _ _ _ _ (pv 0) Am (by rfl))) (by intro _;rfl)))⊆((@Bl _ _ _ Dd)∪Bs)) (@Av _ _ _ _ _ (2<$>(@Cz _ _ _ _ Am)) (@Av _ _ _ _ _ (3<$>(pv 0)) (@Av _ _ _ _ _ (CW CC rfl (EW rfl T.z_bz (@Aj _ _ _ _ _ (pv 1) Am (by rfl))) (Ci (i:=4) sc_a2.nd rfl (BW rfl)) (@Av _ _ _ _ _ (@D4 _ _ _ _ (DY Ee FT PySem.F.type_list_append EN (pv 2) (@Aj _ _ _ _ _ (@A9 _ _ _ _ _ _ _ _ Cn (pv 3) (Gi (v:=.int 13) rfl T.k_ci ⟨_,rfl⟩)) Am (by rfl))) (by rfl)) (@Bl _ _ _ (3<$>(@A9 _ _ _ _ _ _ _ _ CO (pv 3) (Gi (v:=.int 13) rfl T.k_ci ⟨_,rfl⟩)))))) (@Av _ _ _ _ _ ((@Co _ _ _ _ (@Cj _ _ _ (ba<*(@Aj _ _ _ _ _ (pv 3) Am (by rfl))) (by intro _;rfl)))⊆((@Bl _ _ _ Dd)∪Bs)) (@Av _ _ _ _ _ (5<$>(Ru rfl (by rfl) T.z_bx (by rfl) T.z_cs (pv 2))) (@Av _ _ _ _ _ (6<$>(a6<*(@Aj _ _ _ _ _ (pv 5) (@Aj _ _ _ _ _ (pv 1) Am (by rfl)) (by rfl)))) (@Av _ _ _ _ _ (((Rr hr.units)⊂((l<*(@Aj _ _ _ _ _ (pv 6) (@Aj _ _ _ _ _ (pv 1) Am (by rfl)) (by rfl)))∪(pv 5)))⊆((@Bl _ _ _ Dd)∪Bs)) (~~~(@BI _ _ _ _ _ (@Aj _ _ _ _ _ (pv 6) (@Aj _ _ _ _ _ (pv 3) Am (by rfl)) (by rfl)))))))))))),?_⟩
 refine ⟨_,rfl,_,rfl,?_⟩
 and_intros
 refine ⟨(by show 0<=A5;decide),fun l hl=>?_⟩
 have s1:=A2 hl (.lst [])
 have e1:(upd H l (.lst [])) l=Aa (.lst []):=Ap
 generalize upd H l (.lst [])=H1 at s1 e1 ⊢
 refine ⟨_,rfl,_,rfl,(rs.length:Ac),rfl,by omega,by omega,Nh (fun i σ' H'=>∃v4,σ'=[Aa (.int (Cm c rs)),Aa (.int (rs.length:Ae)),Aa (.ref l),Aa (.int (Cm c (rs.take (rs.length - i)))),v4,Ag,Ag]/\Ax H H'/\H' l=Aa (.lst ((rs.drop (rs.length - i)).reverse.map V.int))) ⟨Ag,by rw [OG,Eu];rfl,s1,by rw [e1,OG,List.drop_length];rfl⟩ ?_ ?_⟩
 ·rintro i σ' H' hi ⟨v4,rfl,s2,e2⟩
  obtain ⟨r,r0,r12,ec,ed⟩:=WG (c:=c) (show i < rs.length by omega) hr12
  obtain ⟨o1,o2⟩:=Y3 (a:=Cm c (rs.take (rs.length - (i+1)))) r0 r12
  rw [<- ec] at o1 o2
  generalize Cm c (rs.take (rs.length - i))=old at o1 o2 ⊢
  have lim:((rs.drop (rs.length - i)).reverse.map V.int).length < A5:=by
   rw [Aw,UW,Hh];exact DJ (by omega)
  refine ⟨_,rfl,.inl ⟨rfl,_,SqL.of e2⟩,?_⟩
  and_intros
  refine ⟨l,_,_,rfl,rfl,e2,lim,?_⟩
  and_intros
  refine ⟨Aa (.int (0+(i:Ac))),?_,Bu s2 hl,?_⟩
  ·rw [<- o2];rfl
  ·rw [Ap,ed,Bc,<- o1];rfl
 ·rintro σ' H' ⟨v4,rfl,s2,e2⟩
  rw [show ((rs.length:Ac)).toNat=rs.length from Ce _,Ho,UP] at e2
  rw [show ((rs.length:Ac)).toNat=rs.length from Ce _,Ho,Vc,show Cm c []=c from rfl]
  refine ⟨_,rfl,c,rfl,c0,c1,?_⟩
  and_intros
  refine ⟨l,_,rfl,SqL.of e2,fun b hb=>?_⟩
  rw [<- Mi,List.reverse_reverse]
  have s3:=A2 hb (.lst (rs.map V.int))
  have e3:(upd H' b (.lst (rs.map V.int))) b=Aa (.lst (rs.map V.int)):=Ap
  generalize upd H' b (.lst (rs.map V.int))=H3 at s3 e3 ⊢
  refine ⟨_,rfl,_,rfl,b,rs,rfl,e3,l12,fun r mr=>⟨(hr12 r mr).1,Ol (hr12 r mr).2 (by decide)⟩,fun t H4 _ s4 e4=>?_⟩
  refine ⟨_,rfl,_,rfl,t,C8 rs,rs.length,rfl,e4,l12,TN,fun l2 H5 _ s5 e5=>?_⟩
  rw [gl.ranks] at e5
  refine ⟨_,rfl,l2,b,rs,rs,rfl,rfl,SqL.of e5,SqL.of (s5 _ _ (s4 _ _ e3)),?_⟩
  and_intros
  refine ifF (by rw [Be rfl];rfl) ?_
  refine ⟨_,rfl,_,rfl,(by show 2<=A5;decide),fun a ha=>?_⟩
  have s6:=A2 ha (.tup [V.ref t,V.int c])
  exact q a t _ (((((s2.trans s3).trans s4).trans s5)).trans s6) Ap (s6 _ _ (s5 _ _ e4))
theorem ok_w (T:Tx K mg ad):AG P w K mg base CX0 5 ad.f_w ad.d_w ["self","k","lines"] (SX ad.c_c):=by
 refine T.F_w.ok sc_w (fun vs H Q E h=>?_) (fun cdv A outer s H vs Q E hr h=>?_)
 ·obtain ⟨b,L,n,bs,k,x,l,ls,p,rfl,_⟩:=h
  rfl
 obtain ⟨b,L,n,bs,k,x,l,ls,p,rfl,ib,ex,ok,hl,gl,okl,p64,lL,es,q⟩:=h
 have nd:=sc_w.nd
 refine ⟨_,(@Av _ _ _ _ _ (3<$>((pv 0)=<<(c.dj.bm>=>(@Aj _ _ _ _ _ (pv 1) Am (by rfl))))) (@Av _ _ _ _ _ (4<$>(a5<*(@Aj _ _ _ _ _ (pv 2) Am (by rfl)))) (@Av _ _ _ _ _ ((ER⊂((ay<*(@Aj _ _ _ _ _ (pv 4) Am (by rfl)))∪(ay<*(@Aj _ _ _ _ _ (pv 3) Am (by rfl)))))⊆((@Bl _ _ _ Dd)∪Bs)) (@Av _ _ _ _ _ (EX (@EU _ _ _ _ _ _ _ _ _ Fo (by rfl) T.z_bx EH (@Aj _ _ _ _ _ (pv 2) Am (by rfl)) (by decide) (by decide) (by rfl) (by rfl)) (Fy (B4 (pv 0) rfl) (pv 1) FC)) (~~~(aw<*(@Aj _ _ _ _ _ (pv 3) (@Aj _ _ _ _ _ (pv 4) Am (by rfl)) (by rfl)))))))),?_⟩
 obtain ⟨dx,hb⟩:=ib.at_
 have kl:k < bs.length:=(List.getElem?_eq_some_iff.mp ex).1
 and_intros
 refine ⟨b,dx,_,rfl,hb,rfl,?_⟩
 and_intros
 refine ⟨b,L,n,bs,k,x,p,rfl,ib,ex,ok,p64,fun o os H1 ho s1 e1 g1 sh1 l1=>?_⟩
 and_intros
 refine ⟨l,ls,p,rfl,s1 _ _ hl,gl.same s1,(fun q m=>(okl q m).1),p64,(fun q m=>(okl q m).2),fun m ms H2 hm s2 e2 g2 sh2 l2=>?_⟩
 have px:Pos (An x.2):=fun q m=>(ok q m).2.1
 have pl:Pos (An ls):=fun q m=>(okl q m).2.1
 have sm1:((An os).map (·.2)).sum=AX (An x.2):=Kg (sh1.tot px)
 have sm2:((An ms).map (·.2)).sum=AX (An ls):=Kg (sh2.tot pl)
 and_intros
 refine ⟨m,ms,rfl,e2,g2,by omega,fun H3 s3=>?_⟩
 have s23:=s2.trans s3
 have s13:=s1.trans s23
 and_intros
 refine ⟨o,os,rfl,s23 _ _ e1,g1.same s23,by omega,fun H4 s4=>?_⟩
 have s24:=s23.trans s4
 have s14:=s13.trans s4
 rw [sm1,sm2]
 and_intros
 refine ifF (GJ es) ?_
 and_intros
 refine ⟨l,_,rfl,.inl (SqL.of (s14 _ _ hl)),fun y hy=>?_⟩
 have sJ:=A2 hy (.lst (vls ls))
 have ey:(upd H4 y (.lst (vls ls))) y=Aa (.lst (vls ls)):=Ap
 generalize upd H4 y (.lst (vls ls))=J at sJ ey ⊢
 have s1J:=s14.trans sJ
 have s2J:=s24.trans sJ
 have yL:y≠L:=fun z=>by rw [z,s14 _ _ ib.lst] at hy;cases hy
 have oL:o≠L:=fun z=>by rw [z,ib.lst] at ho;cases ho
 have mL:m≠L:=fun z=>by rw [z,s1 _ _ ib.lst] at hm;cases hm
 have hbJ:=s1J _ _ hb
 have LJ:=s1J _ _ ib.lst
 and_intros
 refine ⟨b,_,dx,_,_,rfl,hbJ,T.cl_c,T.na_c_b1,rfl,?_⟩
 and_intros
 refine ⟨L,_,_,k,rfl,rfl,LJ,E5 (by rw [Aw];exact kl),?_⟩
 have z1:Ax (off H L) (upd J L (.lst ((bs.map fun x=>V.ref x.1).set k (.ref y)))):=E7 ((DH H L).trans s1J)
 have z2:(upd J L (.lst ((bs.map fun x=>V.ref x.1).set k (.ref y)))) L=Aa (.lst ((bs.set k (y,ls)).map fun x=>V.ref x.1)):=by rw [Ap,Et]
 have z3:(upd J L (.lst ((bs.map fun x=>V.ref x.1).set k (.ref y)))) y=Aa (.lst (vls ls)):=by rw [AF yL];exact ey
 have z4:(upd J L (.lst ((bs.map fun x=>V.ref x.1).set k (.ref y)))) o=Aa (.lst (vls os)):=by rw [AF oL];exact s2J _ _ e1
 have z5:(upd J L (.lst ((bs.map fun x=>V.ref x.1).set k (.ref y)))) m=Aa (.lst (vls ms)):=by rw [AF mL];exact ((s3.trans s4).trans sJ) _ _ e2
 have z6:AO (upd J L (.lst ((bs.map fun x=>V.ref x.1).set k (.ref y)))) os:=(g1.same s2J).upd LJ
 have z7:AO (upd J L (.lst ((bs.map fun x=>V.ref x.1).set k (.ref y)))) ms:=(g2.same ((s3.trans s4).trans sJ)).upd LJ
 have z8:AO (upd J L (.lst ((bs.map fun x=>V.ref x.1).set k (.ref y)))) ls:=(gl.same s1J).upd LJ
 generalize upd J L (.lst ((bs.map fun x=>V.ref x.1).set k (.ref y)))=J2 at z1 z2 z3 z4 z5 z6 z7 z8 ⊢
 and_intros
 refine ⟨o,m,os,ms,p,rfl,z4,z6,l1,z5,z7,sh2.keys (fun q m=>(okl q m).1),p64,fun J3 s5=>?_⟩
 exact q _ y J3 (none_of s14 hy) (z1.trans s5) (s5 _ _ z2) (s5 _ _ z3) (z8.same s5)
theorem ok_a7 (T:Tx K mg ad):AG P w K mg base CX0 5 ad.f_a7 ad.d_a7 ["self","votes","least","had"] (SL ad.c_b):=by
 exists a7
 obtain ⟨a,b,d,h,s,st,u,v,ns,xs,had,l,rfl,il,sn,hb,hd,hl,hp,q⟩:=h
 refine ⟨_,(~~~(D3 (fsc:=Aq GR) (N:=["self","votes","least","had"]) (Nc:=["self","votes","least","had","hand"]) rfl rfl ⟨rfl,by decide +kernel,by decide +kernel,rfl,by decide +kernel,rfl,by decide +kernel,rfl,by decide +kernel⟩ rfl (EW rfl T.z_bz (@Aj _ _ _ _ _ (B4 (pv 0) rfl) Am (by rfl))) (fun _ _ _ _=>Cv) (fun _ _ _ _=>((pv 0)=<<(b.dd.bq>=>(@Aj _ _ _ _ _ ((HL K)∩((pv 1)∪(pv 4))) (@Aj _ _ _ _ _ (pv 2) (@Aj _ _ _ _ _ ((HL K)∩((pv 3)∪(pv 4))) Am (by rfl)) (by rfl)) (by rfl))))))),?_⟩
 obtain ⟨dx,la,t,k1,k2,k3⟩:=id il
 have h12:=sn.h12
 have xl:=sn.len
 refine ⟨_,rfl,a,_,dx,_,_,rfl,k1,T.cl_b,T.na_b_bv,rfl,?_⟩
 and_intros
 refine ⟨by omega,by omega,?_⟩
 refine Gf (D7 (by omega)) (fun D i ys H'=>ys.length=i/\H' D=Aa (.lst ys)/\Ax H H'/\∀j < i,HE H' ys xs had l st j) (fun D hD=>⟨rfl,Ap,A2 hD _,(fun j z=>by omega)⟩) (fun D i ys H' hq_=>by obtain ⟨f1,f2,_⟩:=hq_;exact ⟨f2,by omega⟩) ?_ ?_
 ·rintro D i ys H' K1 K2 hD hi ⟨f1,f2,f3,f4⟩ k1' k2'
  have hi':i < h:=by omega
  have av:atI (xs.map V.int) (0+(i:Ac))=Aa (.int (xs.getD i 0)):=by
   rw [D_]
   refine atN ?_
   rw [BP,BF (by omega)]
   rfl
  have ah:atI (had.map V.int) (0+(i:Ac))=Aa (.int (had.getD i 0)):=by
   rw [D_]
   refine atN ?_
   rw [BP,BF (by omega)]
   rfl
  have bg:=sn.big i
  have hb0:=hp i
  refine yes (ifT rfl ?_)
  refine ⟨_,rfl,a,dx,_,rfl,f3 _ _ k1,rfl,?_⟩
  refine ⟨_,rfl,_,rfl,b,_,_,_,rfl,rfl,SqL.of (f3 _ _ hb),av,_,rfl,_,rfl,_,rfl,d,_,_,_,rfl,rfl,SqL.of (f3 _ _ hd),ah,?_⟩
  have last:∀y:V,(ys++[y])[i]?=Aa y:=fun y=>by rw [Jj (by omega),f1,Ho];rfl
  refine ⟨a,h,s,st,u,v,ns,_,l,_,rfl,il.same f3,sn.st1,sn.st9,hb0.1,C1 (by omega) (by omega),C1 (by omega) (by omega),fun lt=>?_,fun le p H2 s2 e2=>?_⟩
  ·have keep:∀p zs,H' p=Aa (.tup zs)->(upd H' D (.lst (ys++[.non]))) p=Aa (.tup zs):=fun p zs e=>by
    rw [AF (Bq e f2 (fun z=>by cases z))]
    exact e
   refine k1' _ _ f2 ⟨by rw [B9,f1];rfl,Ap,Bu f3 hD,fun j hj=>?_⟩
   rcases (by omega:j < i\/j=i) with z | z
   ·exact (f4 j z).push keep (by omega)
   ·rw [z];exact .inl ⟨lt,last _⟩
  ·have f2':=s2 _ _ f2
   have keep:∀q zs,H2 q=Aa (.tup zs)->(upd H2 D (.lst (ys++[.ref p]))) q=Aa (.tup zs):=fun q zs e=>by
    rw [AF (Bq e f2' (fun z=>by cases z))]
    exact e
   refine k1' _ _ f2' ⟨by rw [B9,f1];rfl,Ap,Bu (f3.trans s2) hD,fun j hj=>?_⟩
   rcases (by omega:j < i\/j=i) with z | z
   ·exact (f4 j z).push (fun q zs e=>keep _ _ (s2 _ _ e)) (by omega)
   ·rw [z];exact .inr ⟨le,p,last _,keep _ _ e2⟩
 rintro D ys H' hD ⟨f1,f2,f3,f4⟩
 exact q D H' hD f3 ⟨ys,f2,by omega,fun j hj=>f4 j (by omega)⟩
theorem ok_ap (T:Tx K mg ad):AG P w K mg base CX0 6 ad.f_ap ad.d_ap ["self","codes","seal"] (Tj ad.c_c):=by
 exists ap
 obtain ⟨b,L,n,bs,c,r,p,ds,cs,pl,rfl,ib,b900,n12,hc,szc,c130,alt,cL,hr',ok,d100,q⟩:=h
 refine ⟨_,(@Av _ _ _ _ _ (3<$>(a3<*(@Aj _ _ _ _ _ (pv 1) (@Aj _ _ _ _ _ (pv 2) Am (by rfl)) (by rfl)))) (@Av _ _ _ _ _ (Gm (j:=4) (fsc:=Aq GT) (N:=["self","codes","seal","told","lines"]) (Nc:=["self","codes","seal","told","lines","code"]) rfl rfl ⟨rfl,by decide +kernel,by decide +kernel,rfl,by decide +kernel,rfl,by decide +kernel,rfl,by decide +kernel⟩ rfl sc_ap.nd rfl rfl (B_ (C6∩((pv 3)∪Au))) (fun _ _ _ _=>Cv) (fun _ _ _ _=>(a2<*(@Aj _ _ _ _ _ (pv 5) (@Aj _ _ _ _ _ (ND K (pv 0) rfl) Am (by rfl)) (by rfl)))) rfl) (@Av _ _ _ _ _ (@D4 _ _ _ _ (DY Ee FT PySem.F.type_list_append EN (B4 (pv 0) rfl) (@Aj _ _ _ _ _ (pv 4) Am (by rfl))) (by rfl)) (~~~(@BI _ _ _ _ _ (@Aj _ _ _ _ _ (@A9 _ _ _ _ _ _ _ _ GM (CP (pv 0) T.cl_c T.me_c_cg (ok_f T) (hr.mono (by decide)) T.b_f .nil Cd) Au) (@Aj _ _ _ _ _ (C6∩((pv 3)∪Au)) Am (by rfl)) (by rfl))))))),?_⟩
 have ib':=ib
 obtain ⟨⟨dx,hb⟩,hL,hx,hn⟩:=ib'
 have sz:=JO n12 ok
 and_intros
 refine ⟨c,r,_,_,pl,rfl,hc,hr',szc,sz,c130,alt,fun a t H1 ha s1 ea et=>?_⟩
 and_intros
 refine ⟨⟨_,SqL.of ea⟩,?_⟩
 refine DW (xs:=(DV n ds).map V.int) (by rw [Aw,GB];exact D8 (by omega)) (fun D i ys H'=>∃ls:Ls,ys=vls ls/\ls.length=i/\H' D=Aa (.lst ys)/\Ax H1 H'/\AO H' ls/\An ls=ds.take i) (fun D hD=>⟨[],rfl,rfl,Ap,A2 hD _,(fun _ m=>A8 m Cw),rfl⟩) (fun D i ys H' hq_=>by obtain ⟨ls,f1,f2,f3,_⟩:=hq_;exact ⟨f3,by rw [f1,Cr,f2];exact AB _⟩) (fun D i ys H' hD hq_=>by obtain ⟨_,_,_,_,f4,_⟩:=hq_;exact SqL.of (f4 _ _ ea)) ?_ ?_
 ·rintro D i y ys H' K1 K2 hD hy ⟨ls,rfl,f2,f3,f4,f5,f6⟩ k1 k2
  obtain ⟨z,hz,rfl⟩:=int_at hy
  unfold DV at hz
  rw [Bm] at hz
  obtain ⟨d,ed,rfl⟩:=Option.map_eq_some_iff.mp hz
  obtain ⟨_,d1,d9,okd⟩:=ok d (Br ed)
  obtain ⟨rs,m,er,ets,ln,gp,r12,_⟩:=okd.ranks
  have sH:=s1.trans f4
  refine yes (ifT rfl ?_)
  and_intros
  refine ⟨b,_,dx,_,_,rfl,sH _ _ hb,T.cl_c,T.na_c_bv,rfl,?_⟩
  refine ⟨rs,d.2,m,(by show [V.int (Cm d.2 (BJ d.1 n)),V.int (n:Ac)]=_;rw [er,ln]),by omega,r12,d1,d9,gp,fun p' t' H5 s5 e5 e6=>?_⟩
  have D5:=s5 _ _ f3
  refine k1 _ _ D5 ⟨ls++[(p',t',d.1,d.2)],by rw [G_];rfl,by rw [B9,f2];rfl,Ap,Bu (f4.trans s5) hD,AO.upd D5 ((f5.same s5).append fun q m=>?_),?_⟩
  ·rw [List.mem_singleton.mp m]
   exact ⟨e5,by rw [show d.1=C8 rs from ets];exact e6⟩
  ·rw [Cq,f6,CA,ed]
   rfl
 ·rintro D ys H' hD ⟨ls,rfl,f2,f3,f4,f5,f6⟩
  rw [Aw,GB,Eu] at f6
  have sH:=s1.trans f4
  have DL:D≠L:=fun z=>by rw [z,s1 _ _ hL] at hD;cases hD
  have hDH:=none_of s1 hD
  and_intros
  refine ⟨b,_,dx,_,_,rfl,sH _ _ hb,T.cl_c,T.na_c_b1,rfl,?_⟩
  refine ⟨.inl ⟨rfl,_,SqL.of (sH _ _ hL)⟩,?_⟩
  and_intros
  refine ⟨L,_,_,rfl,rfl,sH _ _ hL,(by rw [Aw];exact DJ (by omega)),?_⟩
  have gL:=E7 (o:=.lst ((bs.map fun x=>V.ref x.1)++[V.ref D])) ((DH H L).trans sH)
  have eL:(upd H' L (.lst ((bs.map fun x=>V.ref x.1)++[V.ref D]))) L=Aa (.lst ((bs++[(D,ls)]).map fun x=>V.ref x.1)):=by rw [Ap,Bc];rfl
  have eD:(upd H' L (.lst ((bs.map fun x=>V.ref x.1)++[V.ref D]))) D=Aa (.lst (vls ls)):=by rw [AF DL];exact f3
  have eG:AO (upd H' L (.lst ((bs.map fun x=>V.ref x.1)++[V.ref D]))) ls:=f5.upd (sH _ _ hL)
  have et':(upd H' L (.lst ((bs.map fun x=>V.ref x.1)++[V.ref D]))) t=Aa (.tup [.ref a,.int pl]):=by rw [AF (Bq (f4 _ _ et) (sH _ _ hL) (fun z=>by cases z))];exact f4 _ _ et
  generalize upd H' L (.lst ((bs.map fun x=>V.ref x.1)++[V.ref D]))=H6 at gL eL eD eG et' ⊢
  have bL:b≠L:=fun z=>by rw [z,hL] at hb;cases hb
  have hb6:=gL _ _ (Bj hb bL)
  have ib6:IsB ad.c_c H6 b L n (bs++[(D,ls)]):=⟨⟨dx,hb6⟩,eL,fun x m=>by
   rcases List.mem_append.mp m with m | m
   ·refine ⟨gL _ _ (Bj (hx x m).1 (hn x m)),fun q qm=>?_⟩
    have g:=(hx x m).2 q qm
    exact ⟨gL _ _ (Bj g.1 (Bq g.1 hL (fun z=>by cases z))),gL _ _ (Bj g.2 (Bq g.2 hL (fun z=>by cases z)))⟩
   ·rw [List.mem_singleton.mp m]
    exact ⟨eD,eG⟩,fun x m=>by
   rcases List.mem_append.mp m with m | m
   ·exact hn x m
   ·rw [List.mem_singleton.mp m]
    exact DL⟩
  and_intros
  refine ⟨b,dx,_,rfl,hb6,rfl,?_⟩
  refine ⟨b,L,n,_,rfl,ib6,?_⟩
  and_intros
  have e1:(((bs++[(D,ls)]).length:Ae):Ac) - 1=(bs.length:Ae):=by rw [B9];show ((bs.length+1:Ae):Ac) - 1=_;omega
  dsimp only
  rw [e1]
  refine ⟨(by show 2<=A5;decide),fun t2 ht2=>?_⟩
  have st:=A2 ht2 (.tup [V.int (bs.length:Ae),V.int pl])
  exact q D t2 ls _ hDH (gL.trans st) (st _ _ eL) (st _ _ eD) (eG.same st) f6 Ap
theorem ok_aq (T:Tx K mg ad):AG P w K mg base CX0 6 ad.f_aq ad.d_aq ["self","votes","least"] (S_ ad.c_b):=by
 exists aq
 obtain ⟨a,b,h,s,st,u,v,ns,xs,l,rfl,il,sn,hb,ne,q⟩:=h
 refine ⟨_,(@Av _ _ _ _ _ (3<$>(@Cz _ _ _ _ Am)) (@Av _ _ _ _ _ (Gm (j:=4) (fsc:=Aq GU) (N:=["self","votes","least","rounds","had","marks","hand"]) (Nc:=["self","votes","least","rounds","had","marks",".s6","hand"]) rfl rfl ⟨rfl,by decide +kernel,by decide +kernel,rfl,by decide +kernel,rfl,by decide +kernel,rfl,by decide +kernel⟩ rfl sc_aq.nd rfl rfl (EW rfl T.z_bz (@Aj _ _ _ _ _ (B4 (pv 0) rfl) Am (by rfl))) (fun _ _ _ _=>Cv) (fun _ _ _ _=>Au) rfl) (@Av _ _ _ _ _ (NJ CC (Fx⊂((@B2 _ _ _ _ _ _ _ _ _ Dm (by rfl) T.z_bw Dh (@Aj _ _ _ _ _ (pv 3) Am (by rfl)) (by decide) (by decide) (by rfl) (by rfl))∪(B4 (pv 0) rfl))) (@Av _ _ _ _ _ (5<$>((pv 0)=<<(b.de.a7>=>(@Aj _ _ _ _ _ (pv 1) (@Aj _ _ _ _ _ (pv 2) (@Aj _ _ _ _ _ (pv 4) Am (by rfl)) (by rfl)) (by rfl))))) (@Av _ _ _ _ _ (6<$>((pv 0)=<<(b.c7.y>=>(@Aj _ _ _ _ _ (pv 5) Am (by rfl))))) (@Av _ _ _ _ _ (@D4 _ _ _ _ (DY Ee FT PySem.F.type_list_append EN (pv 3) (@Aj _ _ _ _ _ (@BI _ _ _ _ _ (@Aj _ _ _ _ _ (pv 5) (@Aj _ _ _ _ _ (pv 6) Am (by rfl)) (by rfl))) Am (by rfl))) (by rfl)) (@Bl _ _ _ (EX (@A9 _ _ _ _ _ _ _ _ Ch (B0∩((pv 4)∪(pv 6))) Au) (Fy (pv 4) (pv 6) FC))))))) (~~~(pv 3))))),?_⟩
 obtain ⟨dx,la,t,k1,k2,k3⟩:=id il
 have h12:=sn.h12
 have s60:=sn.s60
 refine ⟨(by show 0<=A5;decide),fun r hr0=>?_⟩
 have s1:=A2 hr0 (.lst [])
 have e1:(upd H r (.lst [])) r=Aa (.lst []):=Ap
 generalize upd H r (.lst [])=H1 at s1 e1 ⊢
 refine ⟨_,rfl,a,_,dx,_,_,rfl,s1 _ _ k1,T.cl_b,T.na_b_bv,rfl,?_⟩
 and_intros
 refine ⟨by omega,by omega,?_⟩
 refine Gf (D7 (by omega)) (fun D i ys H'=>ys=(Ct i (0:Ac)).map V.int/\H'=upd H1 D (.lst ys)) (fun D hD=>⟨rfl,rfl⟩) (fun D i ys H' hq_=>by obtain ⟨f1,f2⟩:=hq_;exact ⟨by rw [f2];exact Ap,by rw [f1,Aw,Fc];exact AB _⟩) ?_ ?_
 ·rintro D i ys H' K1 K2 hD hi ⟨f1,rfl⟩ c1 c2
  refine yes (ifT rfl ?_)
  refine c1 _ _ Ap ⟨?_,by rw [DM]⟩
  rw [f1,LG,Bc]
  rfl
 rintro d ys H2 hd ⟨rfl,rfl⟩
 rw [Ce]
 have rd:r≠d:=fun z=>by rw [<- z,e1] at hd;cases hd
 have s2:=s1.trans (A2 hd (.lst ((Ct h (0:Ac)).map V.int)))
 have e2:(upd H1 d (.lst ((Ct h (0:Ac)).map V.int))) r=Aa (.lst []):=by rw [AF rd];exact e1
 have d2:(upd H1 d (.lst ((Ct h (0:Ac)).map V.int))) d=Aa (.lst ((By xs ns l st h 0).map V.int)):=Ap
 generalize upd H1 d (.lst ((Ct h (0:Ac)).map V.int))=H2 at s2 e2 d2 ⊢
 have hdH:H d=Ag:=none_of s1 hd
 refine ⟨fun n σ' H'=>∃k:Ae,n+k=s/\∃(v5 v6:Ay V) (ms:Ab (Ad × Ad)),σ'=[Aa (.ref a),Aa (.ref b),Aa (.int l),Aa (.ref r),Aa (.ref d),v5,v6]/\Ax H H'/\H' r=Aa (.lst (ms.map fun q=>V.ref q.1))/\ms.length=k/\H' d=Aa (.lst ((By xs ns l st h (k)).map V.int))/\∀i q,ms[i]?=Aa q->q.2≠r/\q.2≠d/\H' q.1=Aa (.tup [.ref q.2,.int (C0 xs ns (By xs ns l st h i) l st)])/\E2 H' q.2 xs (By xs ns l st h i) l st h,⟨s,0,by omega,Ag,Ag,[],rfl,s2,e2,rfl,d2,(fun i q e=>by cases e)⟩,?_⟩
 rintro n σ' H' ⟨k,nk,v5,v6,ms,rfl,s3,e3,ml,d3,all⟩
 have hh:∀j,0<=(By xs ns l st h k).getD j 0/\(By xs ns l st h k).getD j 0<=60:=fun j=>by
  have:=Xq (sn.pk ne) k j
  omega
 refine ⟨_,rfl,r,_,rfl,.inl (SqL.of e3),_,rfl,a,_,dx,_,_,rfl,s3 _ _ k1,T.cl_b,T.na_b_ca,rfl,_,_,rfl,rfl,_,rfl,?_⟩
 rw [Aw,ml]
 refine Em (fun c=>?_) (fun c=>?_)
 ·have c':(k:Ac) < (s:Ac):=DD c
  refine ⟨fun σ' H'=>∃(v5 v6:Ay V) (ms:Ab (Ad × Ad)),σ'=[Aa (.ref a),Aa (.ref b),Aa (.int l),Aa (.ref r),Aa (.ref d),v5,v6]/\Ax H H'/\H' r=Aa (.lst (ms.map fun q=>V.ref q.1))/\ms.length=k+1/\H' d=Aa (.lst ((By xs ns l st h (k+1)).map V.int))/\∀i q,ms[i]?=Aa q->q.2≠r/\q.2≠d/\H' q.1=Aa (.tup [.ref q.2,.int (C0 xs ns (By xs ns l st h i) l st)])/\E2 H' q.2 xs (By xs ns l st h i) l st h,fun σ' H' ⟨v5,v6,ms,e⟩=>⟨n - 1,by omega,k+1,by omega,v5,v6,ms,e⟩,?_⟩
  have pk:=sn.pk ne k
  refine ⟨_,rfl,a,dx,_,rfl,s3 _ _ k1,rfl,_,rfl,_,rfl,_,rfl,a,b,d,h,s,st,u,v,ns,xs,_,l,rfl,il.same s3,sn,s3 _ _ hb,d3,GE ..,hh,fun m H4 hm s4 mk=>?_⟩
  have s34:=s3.trans s4
  refine ⟨_,rfl,a,dx,_,rfl,s34 _ _ k1,rfl,_,rfl,a,m,h,s,st,u,v,ns,xs,_,l,rfl,il.same s34,sn,mk,hh,ne,fun H5 s5=>?_⟩
  have s45:=s4.trans s5
  have e5:=s45 _ _ e3
  have d5:=s45 _ _ d3
  have mr:m≠r:=fun z=>by rw [z,e3] at hm;cases hm
  have md:m≠d:=fun z=>by rw [z,d3] at hm;cases hm
  refine ⟨_,rfl,.inl ⟨rfl,_,SqL.of e5⟩,_,rfl,_,rfl,(by show 2<=A5;decide),fun t' ht=>?_⟩
  generalize hP:C0 xs ns (By xs ns l st h k) l st=P' at pk ⊢
  have s6:=A2 ht (.tup [V.ref m,V.int P'])
  have w6:(upd H5 t' (.tup [V.ref m,V.int P'])) t'=Aa (.tup [V.ref m,V.int P']):=Ap
  generalize upd H5 t' (.tup [V.ref m,V.int P'])=H6 at s6 w6 ⊢
  have e6:=s6 _ _ e5
  have d6:=s6 _ _ d5
  have mk6:=(mk.same s5).same s6
  refine ⟨r,_,_,rfl,rfl,e6,(by rw [Aw,ml];exact DJ (by omega)),?_⟩
  have d7:(upd H6 r (.lst ((ms.map fun q=>V.ref q.1)++[V.ref t']))) d=Aa (.lst ((By xs ns l st h k).map V.int)):=by rw [AF (AM rd)];exact d6
  obtain ⟨jn,rfl⟩:∃jn:Ae,P'=(jn:Ac):=⟨P'.toNat,by omega⟩
  have hl:=GE xs ns l st h k
  have aP:atI ((By xs ns l st h k).map V.int) (jn:Ac)=Aa (.int ((By xs ns l st h k).getD jn 0)):=by
   refine atN ?_
   rw [BP,BF (by omega)]
   rfl
  have nx:((By xs ns l st h k).map V.int).set jn (.int ((By xs ns l st h k).getD jn 0+1))=(By xs ns l st h (k+1)).map V.int:=by
   show _=(GA (By xs ns l st h k) (C0 xs ns (By xs ns l st h k) l st)).map V.int
   rw [hP]
   unfold GA
   rw [Ce,Et]
  refine ⟨_,rfl,_,rfl,d,_,_,_,rfl,rfl,SqL.of d7,aP,_,_,rfl,rfl,?_⟩
  refine ⟨_,rfl,_,rfl,d,_,_,_,rfl,rfl,d7,E5 (by rw [Aw];omega),?_⟩
  refine ⟨_,_,ms++[(t',m)],rfl,Bu (Bu ((s3.trans s45).trans s6) hr0) hdH,by rw [AF rd,Ap,Bc];rfl,by rw [B9,ml];rfl,?_,fun i q0 hq=>?_⟩
  ·rw [Ap]
   exact BR (fun z=>Aa (HO.lst z)) nx
  have tk:∀p zs,H6 p=Aa (.tup zs)->∀o,(upd (upd H6 r (.lst ((ms.map fun q=>V.ref q.1)++[V.ref t']))) d o) p=Aa (.tup zs):=fun p zs e o=>by
   rw [AF (Bq e d6 (fun z=>by cases z)),AF (Bq e e6 (fun z=>by cases z))]
   exact e
  by_cases ci:i < ms.length
  ·rw [K6 ci] at hq
   obtain ⟨a1,a2,a3,a4⟩:=all i q0 hq
   exact ⟨a1,a2,tk _ _ ((s45.trans s6) _ _ a3) _,((a4.same (s45.trans s6)).upd e6 a1).upd d7 a2⟩
  ·rw [Jj (by omega)] at hq
   have ei:i=k:=by
    have:=(List.getElem?_eq_some_iff.mp hq).1
    rw [UX] at this
    omega
   rw [ei,ml,Ho] at hq
   cases Bp hq
   rw [ei,hP]
   exact ⟨mr,md,tk _ _ w6 _,(mk6.upd e6 mr).upd d7 md⟩
 ·have c':¬ (k:Ac) < (s:Ac):=fun z=>c (Be z)
  exact ⟨_,rfl,q r H' hr0 s3 ⟨ms,e3,by omega,fun i q0 hq=>(all i q0 hq).2.2⟩⟩
theorem ok_t (T:Tx K mg ad):AG P w K mg base CX0 7 ad.f_t ad.d_t ["_law_bundles_here","_law_hands"] (Sk ad.c_c):=by
 exists t
 obtain ⟨B,n,cs,rfl,bd,n2,n6,c5,q⟩:=h
 refine ⟨_,(@Av _ _ _ _ _ (2<$>(HQ T.mk_c (ok_ao T) (hr.mono (by decide)) rfl T.m_c T.b_ao .nil Cd (@Aj _ _ _ _ _ (pv 1) Am (by rfl)))) (@Av _ _ _ _ _ (CW CC rfl (B_ (pv 0)) (Ci (i:=3) sc_t.nd rfl (BW rfl)) (@Av _ _ _ _ _ (Gm (j:=4) (fsc:=Aq s_t) (N:=["_law_bundles_here","_law_hands","_law_box_here","_law_lines","_law_codes"]) (Nc:=["_law_bundles_here","_law_hands","_law_box_here","_law_lines","_law_codes","_law_line"]) rfl rfl ⟨rfl,by decide +kernel,by decide +kernel,rfl,by decide +kernel,rfl,by decide +kernel,rfl,by decide +kernel⟩ rfl sc_t.nd rfl rfl (B_ (pv 3)) (fun _ _ _ _=>Cv) (fun _ _ _ _=>(az<*(@Aj _ _ _ _ _ (pv 5) (@Aj _ _ _ _ _ (pv 1) Am (by rfl)) (by rfl)))) rfl) (@Bl _ _ _ (@D4 _ _ _ _ ((pv 2)=<<(c.dl.ap>=>(@Aj _ _ _ _ _ (pv 4) (@Aj _ _ _ _ _ (am<*(@Aj _ _ _ _ _ (pv 4) Am (by rfl))) Am (by rfl)) (by rfl)))) (by rfl))))) (~~~(pv 2)))),?_⟩
 and_intros
 intro a1 dx1 ha1 hdx1 ne1
 have sm1:=(Dn (show Ax H (upd (upd H dx1 (.own a1)) a1 (.ins ad.c_c dx1 [])) from (A2 hdx1 _).trans (A2 (by rw [AF (AM ne1)];exact ha1) _)) ha1)
 have sn1:Ax H (upd (upd H dx1 (.own a1)) a1 (.ins ad.c_c dx1 [])):=(A2 hdx1 _).trans (A2 (by rw [AF (AM ne1)];exact ha1) _)
 refine ⟨a1,ad.c_c,dx1,(n:Ac),rfl,Ap,T.cl_c,T.na_c_bv,T.na_c_b1,by omega,by omega,fun L1 J1 la1 hL1 g1 b1 l1=>⟨rfl,?_⟩⟩
 replace g1:=sm1.trans g1
 replace hL1:=none_of sn1 hL1
 clear sm1 sn1
 and_intros
 refine ⟨⟨_,SqL.of (g1 _ _ bd.lst)⟩,E4 (xs:=cs.map fun x=>V.ref x.1) (fun i σ' J=>Ex3 fun (v3 v4:Ay V) (as:Ab (Ad × Ls))=>σ'=[Aa (.ref B),Aa (.int (n:Ac)),Aa (.ref a1),v3,v4]/\Ax H J/\IsB ad.c_c J a1 L1 n as/\as.map (fun x=>An x.2)=(cs.take i).map (fun x=>An x.2)) ⟨Ag,Ag,[],rfl,g1,⟨⟨dx1,b1⟩,l1,(fun _ m=>A8 m Cw),(fun _ m=>A8 m Cw)⟩,rfl⟩ (fun i σ' H' _ hq_=>by obtain ⟨_,_,_,_,e,_⟩:=hq_;exact SqL.of (e _ _ bd.lst)) ?_ ?_⟩
 ·rintro i y σ' J hy ⟨v3,v4,as,rfl,sJ,ib,ed⟩
  rw [Bm] at hy
  obtain ⟨x,ex,rfl⟩:=Option.map_eq_some_iff.mp hy
  have xm:=Br ex
  obtain ⟨hx,gx⟩:=bd.lies x xm
  have hxJ:=sJ _ _ hx
  have x30:=CK (HG xm) bd.len
  have okx:=bd.ok x xm
  have ldx:(An x.2).length=x.2.length:=Aw _
  have il:=(List.getElem?_eq_some_iff.mp ex).1
  have la:as.length=i:=by
   have:=BR EE ed
   rw [Aw,Aw,DP] at this
   omega
  and_intros
  refine ⟨⟨_,SqL.of hxJ⟩,?_⟩
  refine DW (xs:=vls x.2) (by rw [Cr];exact D8 (by omega)) (fun D i ys H'=>ys=(DV n (An (x.2.take i))).map V.int/\H' D=Aa (.lst ys)/\Ax J H') (fun D hD=>⟨rfl,Ap,A2 hD _⟩) (fun D i ys H' hq_=>by obtain ⟨f1,f2,_⟩:=hq_;exact ⟨f2,by rw [f1,Aw,GB];unfold An;rw [Aw];exact EF _ _⟩) (fun D i ys H' hD hq_=>by obtain ⟨_,_,f3⟩:=hq_;exact SqL.of (f3 _ _ hxJ)) ?_ ?_
  ·rintro D i y ys H' K1 K2 hD hy ⟨f1,f2,f3⟩ k1 k2
   obtain ⟨f,hf,rfl,fm,et⟩:=EZ hy
   obtain ⟨g1,g2⟩:=gx f fm
   obtain ⟨_,f1',f9,okf⟩:=okx (f.2.2.1,f.2.2.2) (List.mem_map.mpr ⟨f,fm,rfl⟩)
   obtain ⟨rs,m,er,_,ln,_,r12,tin⟩:=okf.ranks
   have s3:=sJ.trans f3
   refine yes (ifT rfl ?_)
   and_intros
   refine ⟨f.1,f.2.1,f.2.2.1,f.2.2.2,n,rfl,s3 _ _ g1,s3 _ _ g2,by omega,tin,by omega,f9,(by rw [er];exact r12),fun H5 s5=>?_⟩
   refine k1 _ _ (s5 _ _ f2) ⟨?_,Ap,Bu (f3.trans s5) hD⟩
   rw [f1,et,Cq]
   unfold DV
   rw [Bc,Bc]
   rfl
  rintro c ys J1 hc ⟨f1,f2,f3⟩
  rw [Cr,Eu] at f1
  subst f1
  obtain ⟨dxb,hb⟩:=ib.at_
  have s1:=sJ.trans f3
  and_intros
  refine ⟨a1,dxb,_,rfl,f3 _ _ hb,rfl,?_⟩
  and_intros
  refine ⟨c,_,rfl,f2,JO (by omega) okx,(by rw [GB];omega),fun t2 J2 ht2 s4 et2=>?_⟩
  have s14:=f3.trans s4
  have cL:c≠L1:=fun z=>by rw [z,ib.lst] at hc;cases hc
  refine ⟨a1,L1,n,as,c,t2,Bt n,An x.2,DV n (An x.2),0,rfl,ib.same s14,by omega,by omega,s4 _ _ f2,JO (by omega) okx,(by rw [GB];omega),.inl ⟨rfl,rfl⟩,cL,et2,okx,by omega,fun x1 t3 ls' J3 hx1 g5 eL ex1 gx1 ed1 et3=>?_⟩
  have i5:=(ib.same s14).more g5 hx1 eL ex1 gx1
  have s05:=XE (sJ.trans s14) hL1 g5
  refine ⟨_,_,_,rfl,s05,i5,?_⟩
  rw [Bc,ed,CA,ex,Bc]
  show _++[An ls']=_++[An x.2]
  rw [ed1]
 ·rintro σ' J ⟨v3,v4,as,rfl,sJ,ib,ed⟩
  rw [Aw,Eu] at ed
  and_intros
  exact q a1 L1 as J hL1 sJ ib ed
theorem ok_bn (T:Tx K mg ad):AG P w K mg base CX0 7 ad.f_bn ad.d_bn ["self","sheet"] (Ss ad.c_b):=by
 exists bn
 obtain ⟨a,l,h,s,st,u,v,ns,ls,rfl,md,hl,g,l60,nl,q⟩:=h
 refine ⟨_,(@Av _ _ _ _ _ (2<$>(r<*(@Aj _ _ _ _ _ (pv 1) (@Aj _ _ _ _ _ (B4 (pv 0) rfl) Am (by rfl)) (by rfl)))) (@Av _ _ _ _ _ (3<$>((pv 0)=<<(b.da.bo>=>(@Aj _ _ _ _ _ (ay<*(@Aj _ _ _ _ _ (pv 1) Am (by rfl))) Am (by rfl))))) (@Av _ _ _ _ _ ((Fx⊂((@B2 _ _ _ _ _ _ _ _ _ (W9 rfl) (by rfl) T.z_ch Mu (@Aj _ _ _ _ _ (HR IX (pv 2) HV (HW (B4 (pv 0) rfl))) Am (by rfl)) (by decide) (by decide) (by rfl) (by rfl))∪(pv 3)))⊆((~~~(@BI _ _ _ _ _ (@Aj _ _ _ _ _ (pv 2) (@Aj _ _ _ _ _ (pv 3) (@Aj _ _ _ _ _ (@Cz _ _ _ _ Am) Am (by rfl)) (by rfl)) (by rfl))))∪Bs)) (~~~(@BI _ _ _ _ _ (@Aj _ _ _ _ _ (pv 2) (@Aj _ _ _ _ _ (pv 3) (@Aj _ _ _ _ _ ((pv 0)=<<(b.di.aq>=>(@Aj _ _ _ _ _ (pv 2) (@Aj _ _ _ _ _ (pv 3) Am (by rfl)) (by rfl)))) Am (by rfl)) (by rfl)) (by rfl))))))),?_⟩
 obtain ⟨dx,la,t,k1,k2,k3⟩:=id md.is
 have h1:=md.h1
 have h12:=md.h12
 have v0:=md.v0
 have v9:=md.v9
 have u0:=md.u0
 have uv:=md.uv
 have tl:=NX nl
 have szt:Sz 64 (total ls):=C1 (by omega) (by omega)
 have szu:Sz 64 u:=C1 (by omega) (by omega)
 have szv:Sz 64 v:=C1 (by omega) (by omega)
 refine ⟨_,rfl,_,rfl,a,_,dx,_,_,rfl,k1,T.cl_b,T.na_b_bv,rfl,?_⟩
 refine ⟨l,ls,(h:Ac),rfl,hl,(by rw [Ce];exact g),by omega,by omega,fun vv H1 hvv s1 e1=>?_⟩
 rw [Ce] at e1
 refine ⟨_,rfl,a,dx,_,rfl,s1 _ _ k1,rfl,_,rfl,l,ls,rfl,s1 _ _ hl,(fun q m=>⟨s1 _ _ (g q m).1,s1 _ _ (g q m).2.1⟩),by omega,fun H2 s2=>?_⟩
 rw [show ((An ls).map (·.2)).sum=total ls from by unfold An;rw [Fd];rfl]
 have s12:=s1.trans s2
 refine ⟨a,h,s,st,u,v,ns,total ls,rfl,md.is.same s12,v0,szu,szv,szt,?_⟩
 show CU 3 (V.int (GG u v ls)) _ H2 _
 have sn:=md.sane nl l60
 have tlen:=NV h ls
 generalize GG u v ls=L at sn q ⊢
 generalize BO h ls=xs at e1 sn tlen q ⊢
 have e2:=s2 _ _ e1
 and_intros
 refine ⟨a,_,dx,_,_,rfl,s12 _ _ k1,T.cl_b,T.na_b_bv,rfl,?_⟩
 refine ⟨_,rfl,vv,_,rfl,SqL.of e2,fun c hc=>?_⟩
 rw [Na,<- Mj]
 have s3:=A2 hc (.lst ((xs.take h).map V.int))
 have e3:(upd H2 c (.lst ((xs.take h).map V.int))) c=Aa (.lst ((xs.take h).map V.int)):=Ap
 generalize upd H2 c (.lst ((xs.take h).map V.int))=H3 at s3 e3 ⊢
 have s13:=s12.trans s3
 refine ⟨c,_,rfl,SqL.of e3,(by rw [DP];omega),fun M Mm Ma=>?_⟩
 have get:∀j < h,xs.getD j 0∈xs.take h:=fun j hj=>by
  rw [BP,BF (by omega)]
  exact Br (i:=j) (by rw [UT,At hj,BF (by omega)];rfl)
 have few:M < L↔Cu xs ns L=[]:=by
  rw [Yv md.pm]
  constructor
  ·intro z j hj
   have:=Ma _ (get j hj)
   omega
  ·intro z
   obtain ⟨j,hj⟩:=Ox Mm
   have jl:=(List.getElem?_eq_some_iff.mp hj).1
   rw [DP] at jl
   have:=z j (by omega)
   rw [BP] at this
   rw [UT,At (by omega)] at hj
   rw [hj] at this
   exact this
 and_intros
 by_cases cM:M < L
 ·refine ifT (Be cM) ?_
  have mz:many xs ns L s=0:=At (few.mp cM)
  and_intros
  refine ⟨(by show 0<=A5;decide),fun r hr0=>?_⟩
  have s4:=A2 hr0 (.lst [])
  have e4:(upd H3 r (.lst [])) r=Aa (.lst []):=Ap
  generalize upd H3 r (.lst [])=H4 at s4 e4 ⊢
  refine ⟨(by show 3<=A5;decide),fun p hp=>?_⟩
  have s5:=A2 hp (.tup [V.ref vv,V.int L,V.ref r])
  refine q p _ (none_of (s13.trans s4) hp) ((s13.trans s4).trans s5) ⟨vv,r,Ap,((s3.trans s4).trans s5) _ _ e2,?_⟩
  rw [mz]
  exact ⟨[],s5 _ _ e4,rfl,fun i q0 e=>by cases e⟩
 ·refine ifF (Bo cM) ?_
  have ne:Cu xs ns L≠[]:=fun z=>cM (few.mpr z)
  have mz:many xs ns L s=s:=Ao ne
  and_intros
  refine ⟨a,dx,_,rfl,s13 _ _ k1,rfl,?_⟩
  and_intros
  refine ⟨a,vv,h,s,st,u,v,ns,xs,L,rfl,md.is.same s13,sn,s3 _ _ e2,ne,fun r H4 hr0 s4 rr=>?_⟩
  refine ⟨(by show 3<=A5;decide),fun p hp=>?_⟩
  have s5:=A2 hp (.tup [V.ref vv,V.int L,V.ref r])
  refine q p _ (none_of (s13.trans s4) hp) ((s13.trans s4).trans s5) ⟨vv,r,Ap,((s3.trans s4).trans s5) _ _ e2,?_⟩
  rw [mz]
  exact rr.same s5
theorem ok_bu (T:Tx K mg ad):AG P w K mg base CX0 8 ad.f_bu ad.d_bu ["self","sheet"] (SV ad.c_b):=by
 exists bu
 obtain ⟨a,l,h,s,st,u,v,ns,ls,rfl,md,hl,g,l60,nl,q⟩:=h
 refine ⟨_,(~~~((pv 0)=<<(b.dm.ar>=>(@Aj _ _ _ _ _ ((pv 0)=<<(b.c5.bn>=>(@Aj _ _ _ _ _ (pv 1) Am (by rfl)))) Am (by rfl))))),?_⟩
 obtain ⟨dx,la,t,k1,k2,k3⟩:=id md.is
 refine ⟨_,rfl,a,dx,_,rfl,k1,rfl,?_⟩
 refine ⟨_,rfl,a,dx,_,rfl,k1,rfl,_,rfl,a,l,h,s,st,u,v,ns,ls,rfl,md,hl,g,l60,nl,fun p H1 hp s1 pp=>?_⟩
 exact ⟨a,p,h,s,st,u,v,ns,_,_,rfl,md.is.same s1,md.sane nl l60,pp,fun r H2 hr s2 e2=>q r H2 (none_of s1 hr) (s1.trans s2) e2⟩
theorem ok_n (T:Tx K mg ad):AG P w K mg base CX0 9 ad.f_n ad.d_n ["self"] (SS ad.c_a ad.c_d ad.c_b):=by
 exists n
 obtain ⟨a,m,w,S,O,f,k,n,rest,bs,dss,os,rfl,lk,pk,mg,hrest,q⟩:=h
 refine ⟨_,(@Av _ _ _ _ _ (1<$>(a0<*(@Aj _ _ _ _ _ (D3 (fsc:=Aq s_n) (N:=["self","seen"]) (Nc:=["self","seen","k"]) rfl rfl ⟨rfl,by decide +kernel,by decide +kernel,rfl,by decide +kernel,rfl,by decide +kernel,rfl,by decide +kernel⟩ rfl (B_ (HR IX (B4 (pv 0) rfl) HV (HW (B4 (pv 0) rfl)))) (fun _ _ _ _=>Cv) (fun _ _ _ _=>((HL K)∩((ND K (pv 0) rfl)∪(pv 2))))) Am (by rfl)))) (@Av _ _ _ _ _ ((@Co _ _ _ _ (@Cj _ _ _ ((B4 (pv 0) rfl)=<<(d.c8.br>=>(@Aj _ _ _ _ _ (pv 1) (@Aj _ _ _ _ _ (CP (pv 0) T.cl_a T.me_a_ct (ok_m T) (hr.mono (by decide)) T.b_m .nil Cd) (@Aj _ _ _ _ _ (CP (pv 0) T.cl_a T.me_a_cf (ok_g T) (hr.mono (by decide)) T.b_g .nil Cd) Am (by rfl)) (by rfl)) (by rfl)))) (by intro _;rfl)))⊆((~~~Gj)∪Bs)) (~~~(GN ((Y8 hr.units)⊂(((B4 (B4 (pv 0) rfl) rfl)=<<(b.df.bu>=>(@Aj _ _ _ _ _ (CP (pv 0) T.cl_a T.me_a_cf (ok_g T) (hr.mono (by decide)) T.b_g .nil Cd) Am (by rfl))))∪(B4 (pv 0) rfl))) Gj Gj)))),?_⟩
 obtain ⟨dx,ha⟩:=lk.at_
 obtain ⟨dm,hm⟩:=mg.at_
 and_intros
 refine ⟨a,_,dx,_,_,rfl,ha,T.cl_a,T.na_a_b7,rfl,?_⟩
 refine ⟨_,rfl,a,_,dx,_,_,rfl,ha,T.cl_a,T.na_a_b2,rfl,?_⟩
 refine ⟨_,rfl,O,_,rfl,SqL.of lk.od,fun c hc=>?_⟩
 rw [Na,<- Mj]
 have s1:=A2 hc (.lst ((os.take k).map V.int))
 have e1:(upd H c (.lst ((os.take k).map V.int))) c=Aa (.lst ((os.take k).map V.int)):=Ap
 generalize upd H c (.lst ((os.take k).map V.int))=H1 at s1 e1 ⊢
 have ol:=pk.ol
 have d5:=pk.d5
 have dl:((os.take k).map V.int).length<=5:=by rw [Aw,DP];omega
 refine ⟨c,rfl,⟨_,SqL.of e1⟩,?_⟩
 refine DW (xs:=(os.take k).map V.int) (D8 (by omega)) (fun D i ys H'=>∃cs:Ab (Ad × Ls),ys=(cs.map fun x=>V.ref x.1)/\cs.length=i/\(∀x∈cs,x∈bs)/\H' D=Aa (.lst ys)/\Ax H1 H') (fun D hD=>⟨[],rfl,rfl,(fun _ m=>A8 m Cw),Ap,A2 hD _⟩) (fun D i ys H' hq_=>by obtain ⟨cs,f1,f0,_,f2,_⟩:=hq_;exact ⟨f2,by rw [f1,Aw,f0];exact AB _⟩) (fun D i ys H' hD hq_=>by obtain ⟨cs,_,_,_,_,f3⟩:=hq_;exact SqL.of (f3 _ _ e1)) ?_ ?_
 ·rintro D i y ys H' K1 K2 hD hy ⟨cs,rfl,f0,fb,f2,f3⟩ k1 k2
  rw [Bm] at hy
  obtain ⟨j,hj,rfl⟩:=Option.map_eq_some_iff.mp hy
  obtain ⟨x,ex,xm,je,sx⟩:=lk.sum pk (G2 (Br hj))
  have s2:=s1.trans f3
  refine yes (ifT rfl ?_)
  refine ⟨_,rfl,a,_,dx,_,_,rfl,s2 _ _ ha,T.cl_a,T.na_a_b4,rfl,?_⟩
  and_intros
  refine ⟨S,_,_,_,rfl,rfl,SqL.of (s2 _ _ lk.sh),(by rw [je];exact Dv (by rw [Bm,ex];rfl)),?_⟩
  refine k1 _ _ f2 ⟨cs++[x],by rw [Bc];rfl,by rw [B9,f0];rfl,fun z m=>?_,Ap,Bu f3 hD⟩
  rcases List.mem_append.mp m with m | m
  ·exact fb z m
  ·rw [List.mem_singleton.mp m];exact xm
 rintro D ys H2 hD ⟨cs,rfl,f0,fb,f2,f3⟩
 obtain ⟨a1,a2,a3⟩:=lk.all pk fb (by rw [f0];exact dl)
 have s2:=s1.trans f3
 refine ⟨D,cs,Bt n,rfl,f2,(fun x m=>⟨s2 _ _ (lk.lies x (fb x m)).1,(lk.lies x (fb x m)).2.same s2⟩),a1,Gk pk.n6,a2,a3,fun l1 ls1 H3 hl1 s3 e3 g3 _ _=>?_⟩
 have s4:=s2.trans s3
 have lu:FM ("unlooked":Ak) (fsK m S O (k:Ac) f rest)=Ag:=by rcases hrest with rfl | ⟨v,rfl⟩ <;> rfl
 have lw:FM ("known":Ak) (fsK m S O (k:Ac) f rest)=Ag:=by rcases hrest with rfl | ⟨v,rfl⟩ <;> rfl
 and_intros
 refine ⟨a,_,dx,_,_,rfl,s4 _ _ ha,T.cl_a,T.na_a_b9,rfl,?_⟩
 refine ⟨m,dm,_,rfl,s4 _ _ hm,rfl,?_⟩
 and_intros
 refine ⟨a,dx,_,rfl,s4 _ _ ha,lu,?_⟩
 refine ⟨a,m,S,O,f,k,n,rest,bs,dss,os,rfl,lk.same s4,pk,fun H5 s5=>?_⟩
 have s6:=s4.trans s5
 and_intros
 refine ⟨a,dx,_,rfl,s6 _ _ ha,lw,?_⟩
 refine ⟨a,m,S,O,f,k,n,rest,bs,dss,os,rfl,lk.same s6,pk,fun l2 ls2 H7 hl2 s7 e7 g7 sh7=>?_⟩
 have s8:=s6.trans s7
 obtain ⟨b1,b2,b3,b4,_⟩:=pk.fit g7 sh7
 refine ⟨m,w,l2,l1,n,ls2,Un dss (os.drop k),rfl,mg.same s8,pk.n2,e7,g7,by omega,JM pk,(fun z=>by rw [b4];exact PB pk z),fun H9 s9=>?_⟩
 have s10:=s8.trans s9
 and_intros
 by_cases c0:Un dss (os.drop k)=0
 ·refine ifF (by rw [Be c0];rfl) ?_
  and_intros
  refine ⟨a,_,dx,_,_,rfl,s10 _ _ ha,T.cl_a,T.na_a_b9,rfl,?_⟩
  refine ⟨m,_,dm,_,_,rfl,s10 _ _ hm,T.cl_d,T.na_d_b5,rfl,?_⟩
  have md:=mg.md.same s10
  obtain ⟨dw,la,tt,k1,k2,k3⟩:=id md.is
  refine ⟨w,dw,_,rfl,k1,rfl,?_⟩
  and_intros
  refine ⟨a,dx,_,rfl,s10 _ _ ha,lw,?_⟩
  refine ⟨a,m,S,O,f,k,n,rest,bs,dss,os,rfl,lk.same s10,pk,fun l3 ls3 H11 hl3 s11 e11 g11 sh11=>?_⟩
  obtain ⟨c1,c2,c3,_,_⟩:=pk.fit g11 sh11
  have s12:=s10.trans s11
  refine ⟨w,l3,n,1,1,0,1,ups n,ls3,rfl,md.same s11,e11,c1,c3,c2,fun r H13 hr' s13 er=>?_⟩
  have s14:=s12.trans s13
  obtain ⟨fo,hf⟩:=lk.fs
  and_intros
  refine ⟨a,_,dx,_,_,rfl,s14 _ _ ha,T.cl_a,T.na_a_cb,rfl,?_⟩
  refine ⟨r,f,_,fo,rfl,rfl,SqL.of er,SqL.of (s14 _ _ hf),?_⟩
  and_intros
  refine Em (fun _=>?_) (fun _=>?_)
  ·exact q "sure" _ s14 ⟨fun e=>A8 e (by decide),fun z=>by omega⟩
  ·exact q "otherwise" _ s14 ⟨fun e=>A8 e (by decide),fun z=>by omega⟩
 ·refine ifT (by rw [Bo c0];rfl) ?_
  and_intros
  have un:=JM (js:=os.drop k) pk
  exact q "open" _ s10 ⟨fun _=>by omega,fun _=>rfl⟩
theorem ok_h (T:Tx K mg ad):AG P w K mg base CX0 10 ad.f_h ad.d_h ["self","margin","box","number"] (SC ad.c_a ad.c_c ad.c_d ad.c_b):=by
 exists h
 obtain ⟨H0,a,dx,m,w,b,L,n,z,as,rfl,ha,h0,s0,ib,mg,n2,n6,ok,a5,a30,q⟩:=h
 refine ⟨_,(@Av _ _ _ _ _ (Dq (pv 0) (pv 1) rfl) (@Av _ _ _ _ _ (Dq (pv 0) (D3 (fsc:=Aq s_h) (N:=["self","margin","box","number"]) (Nc:=["self","margin","box","number","k"]) rfl rfl ⟨rfl,by decide +kernel,by decide +kernel,rfl,by decide +kernel,rfl,by decide +kernel,rfl,by decide +kernel⟩ rfl (EW rfl T.z_bz (@Aj _ _ _ _ _ (CP (pv 2) T.cl_c T.me_c_cg (ok_f T) (hr.mono (by decide)) T.b_f .nil Cd) Am (by rfl))) (fun _ _ _ _=>Cv) (fun _ _ _ _=>((pv 2)=<<(c.dj.bm>=>(@Aj _ _ _ _ _ (pv 4) Am (by rfl)))))) rfl) (@Av _ _ _ _ _ (Dq (pv 0) (bf<*(@Aj _ _ _ _ _ (pv 3) (@Aj _ _ _ _ _ (CP (pv 2) T.cl_c T.me_c_cg (ok_f T) (hr.mono (by decide)) T.b_f .nil Cd) Am (by rfl)) (by rfl))) rfl) (@Av _ _ _ _ _ (Dq (pv 0) Au rfl) (@Av _ _ _ _ _ (Dq (pv 0) ((B4 (pv 1) rfl)=<<(b.df.bu>=>(@Aj _ _ _ _ _ (CP (pv 2) T.cl_c T.me_c_c4 (ok_x T) (hr.mono (by decide)) T.b_x .nil Cd) Am (by rfl)))) rfl) (@Bl _ _ _ (Dq (pv 0) (CP (pv 0) T.cl_a T.me_a_cu (ok_n T) (hr.mono (by decide)) T.b_n .nil Cd) rfl))))))),?_⟩
 and_intros
 have cl:=T.cl_a
 refine ⟨a,_,dx,[],rfl,ha,cl,T.na_a_b9,(by simp only [BA,Cs];decide),?_⟩
 rw [Zy]
 have s1:Ax H0 (upd H a (.ins ad.c_a dx [("margin",.ref m)])):=Bu s0 h0
 have a1:(upd H a (.ins ad.c_a dx [("margin",.ref m)])) a=_:=Ap
 generalize upd H a (.ins ad.c_a dx [("margin",.ref m)])=H1 at s1 a1 ⊢
 obtain ⟨db,hb⟩:=ib.at_
 and_intros
 refine ⟨b,db,_,rfl,s1 _ _ hb,rfl,?_⟩
 refine ⟨b,L,n,as,rfl,ib.same s1,?_⟩
 refine ⟨_,rfl,by omega,by omega,?_⟩
 refine Gf (by rw [Ce];exact D8 (by omega)) (fun D i ys H'=>∃bs:Ab (Ad × Ls),ys=(bs.map fun x=>V.ref x.1)/\bs.length=i/\H' D=Aa (.lst ys)/\Ax H1 H'/\(∀x∈bs,H' x.1=Aa (.lst (vls x.2))/\AO H' x.2)/\(∀x∈bs,H0 x.1=Ag/\x.1≠D)/\∀(j:Ae) (x:Ad × Ls) (ds:Ds),bs[j]?=Aa x->(as.map fun x=>An x.2)[j]?=Aa ds->BY ds (An x.2)) (fun D hD=>⟨[],rfl,rfl,Ap,A2 hD _,(fun _ m=>A8 m Cw),(fun _ m=>A8 m Cw),fun j x ds e=>by cases e⟩) (fun D i ys H' hq_=>by obtain ⟨bs,f1,f0,f2,_⟩:=hq_;exact ⟨f2,by rw [f1,Aw,f0];exact AB _⟩) ?_ ?_
 ·rintro D i ys H' K1 K2 hD hi ⟨bs,rfl,f0,f2,f3,f4,f5,f6⟩ k1 k2
  rw [Ce] at hi
  have s2:=s1.trans f3
  obtain ⟨x,ex⟩:∃x,as[i]?=Aa x:=⟨_,BF hi⟩
  have xm:=Br ex
  refine yes (ifT rfl ?_)
  and_intros
  refine ⟨b,db,_,rfl,s2 _ _ hb,rfl,?_⟩
  and_intros
  refine ⟨b,L,n,as,i,x,Bt n,(by show [_,V.int (0+(i:Ac))]=_;rw [D_]),ib.same s2,ex,ok x xm,Gk n6,fun l ls H5 hl s5 e5 g5 sh5 _=>?_⟩
  have lD:l≠D:=fun z=>by rw [z,f2] at hl;cases hl
  refine k1 _ _ (s5 _ _ f2) ⟨bs++[(l,ls)],by rw [Bc];rfl,by rw [B9,f0];rfl,Ap,Bu (f3.trans s5) hD,fun y m=>?_,fun y m=>?_,fun j y ds e1 e2=>?_⟩
  ·rcases List.mem_append.mp m with m | m
   ·exact ⟨by rw [AF (f5 y m).2];exact s5 _ _ (f4 y m).1,((f4 y m).2.same s5).upd (s5 _ _ f2)⟩
   ·rw [List.mem_singleton.mp m]
    exact ⟨by rw [AF lD];exact e5,g5.upd (s5 _ _ f2)⟩
  ·rcases List.mem_append.mp m with m | m
   ·exact f5 y m
   ·rw [List.mem_singleton.mp m]
    exact ⟨none_of s2 hl,lD⟩
  ·rcases (by omega:j < bs.length\/bs.length<=j) with c | c
   ·rw [K6 c] at e1
    exact f6 j y ds e1 e2
   ·rw [Jj c] at e1
    have j0:j - bs.length=0:=by
     have:=(List.getElem?_eq_some_iff.mp e1).1
     simp only [BA,Cs] at this
     omega
    rw [j0] at e1
    cases Bp e1
    rw [show j=i by omega,Bm,ex] at e2
    cases Bp e2
    exact sh5
 rintro S ys H2 hS ⟨bs,rfl,f0,f2,f3,f4,f5,f6⟩
 rw [Ce] at f0
 have s2:=s1.trans f3
 have a2:=f3 _ _ a1
 refine ⟨_,rfl,a,_,dx,_,rfl,a2,cl,T.na_a_b4,(by simp only [BA,Cs];decide),?_⟩
 rw [Zz]
 have s3:Ax H0 (upd H2 a (.ins ad.c_a dx [("margin",.ref m),("sheets",.ref S)])):=Bu s2 h0
 have b3:=GI (o:=.ins ad.c_a dx [("margin",.ref m),("sheets",.ref S)]) a2 f4
 have S3:=Dc (o:=.ins ad.c_a dx [("margin",.ref m),("sheets",.ref S)]) a2 f2
 have a3:(upd H2 a (.ins ad.c_a dx [("margin",.ref m),("sheets",.ref S)])) a=_:=Ap
 generalize upd H2 a (.ins ad.c_a dx [("margin",.ref m),("sheets",.ref S)])=H3 at s3 b3 S3 a3 ⊢
 and_intros
 refine ⟨b,db,_,rfl,s3 _ _ hb,rfl,?_⟩
 refine ⟨b,L,n,as,rfl,ib.same s3,?_⟩
 refine ⟨z,as.length,rfl,by omega,fun O H4 hO s4 e4=>?_⟩
 have a4:=s4 _ _ a3
 have s04:=s3.trans s4
 refine ⟨_,rfl,a,_,dx,_,rfl,a4,cl,T.na_a_b7,(by simp only [BA,Cs];decide),?_⟩
 rw [Z0]
 have s5:Ax H0 (upd H4 a (.ins ad.c_a dx [("margin",.ref m),("sheets",.ref S),("order",.ref O)])):=Bu s04 h0
 have b5:=GI (o:=.ins ad.c_a dx [("margin",.ref m),("sheets",.ref S),("order",.ref O)]) a4 (Fv s4 b3)
 have S5:=Dc (o:=.ins ad.c_a dx [("margin",.ref m),("sheets",.ref S),("order",.ref O)]) a4 (s4 _ _ S3)
 have O5:=Dc (o:=.ins ad.c_a dx [("margin",.ref m),("sheets",.ref S),("order",.ref O)]) a4 e4
 have a5':(upd H4 a (.ins ad.c_a dx [("margin",.ref m),("sheets",.ref S),("order",.ref O)])) a=_:=Ap
 generalize upd H4 a (.ins ad.c_a dx [("margin",.ref m),("sheets",.ref S),("order",.ref O)])=H5 at s5 b5 S5 O5 a5' ⊢
 and_intros
 refine ⟨a,_,dx,_,rfl,a5',cl,T.na_a_b2,(by simp only [BA,Cs];decide),?_⟩
 rw [Z1]
 have s6:Ax H0 (upd H5 a (.ins ad.c_a dx [("margin",.ref m),("sheets",.ref S),("order",.ref O),("looked",.int 0)])):=Bu s5 h0
 have b6:=GI (o:=.ins ad.c_a dx [("margin",.ref m),("sheets",.ref S),("order",.ref O),("looked",.int 0)]) a5' b5
 have S6:=Dc (o:=.ins ad.c_a dx [("margin",.ref m),("sheets",.ref S),("order",.ref O),("looked",.int 0)]) a5' S5
 have O6:=Dc (o:=.ins ad.c_a dx [("margin",.ref m),("sheets",.ref S),("order",.ref O),("looked",.int 0)]) a5' O5
 have a6:(upd H5 a (.ins ad.c_a dx [("margin",.ref m),("sheets",.ref S),("order",.ref O),("looked",.int 0)])) a=_:=Ap
 generalize upd H5 a (.ins ad.c_a dx [("margin",.ref m),("sheets",.ref S),("order",.ref O),("looked",.int 0)])=H6 at s6 b6 S6 O6 a6 ⊢
 obtain ⟨dm,hm⟩:=mg.at_
 and_intros
 refine ⟨m,_,dm,_,_,rfl,s6 _ _ hm,T.cl_d,T.na_d_b5,rfl,?_⟩
 obtain ⟨dw,la,tt,k1,k2,k3⟩:=id mg.md.is
 refine ⟨w,dw,_,rfl,s6 _ _ k1,rfl,?_⟩
 and_intros
 refine ⟨b,db,_,rfl,s6 _ _ hb,rfl,?_⟩
 refine ⟨b,L,n,as,Bt n,rfl,ib.same s6,ok,Gk n6,by omega,fun l ls H7 hl s7 e7 g7 sh7 _=>?_⟩
 have pk:=Zc (z:=z) n2 n6 ok a5 a30
 obtain ⟨c1,c2,c3,_,_⟩:=pk.fit g7 (by rw [JS];exact sh7)
 have s07:=s6.trans s7
 refine ⟨w,l,n,1,1,0,1,ups n,ls,rfl,mg.md.same s07,e7,c1,c3,c2,fun f H8 hf s8 e8=>?_⟩
 have s67:=s7.trans s8
 have s08:=s6.trans s67
 have a8:=s67 _ _ a6
 refine ⟨_,rfl,a,_,dx,_,rfl,a8,cl,T.na_a_cb,(by simp only [BA,Cs];decide),?_⟩
 rw [Z3]
 have s9:Ax H0 (upd H8 a (.ins ad.c_a dx (fsK m S O 0 f []))):=Bu s08 h0
 have b9:=GI (o:=.ins ad.c_a dx (fsK m S O 0 f [])) a8 (Fv s67 b6)
 have S9:=Dc (o:=.ins ad.c_a dx (fsK m S O 0 f [])) a8 (s67 _ _ S6)
 have O9:=Dc (o:=.ins ad.c_a dx (fsK m S O 0 f [])) a8 (s67 _ _ O6)
 have f9:=Dc (o:=.ins ad.c_a dx (fsK m S O 0 f [])) a8 e8
 have a9:(upd H8 a (.ins ad.c_a dx (fsK m S O 0 f []))) a=_:=Ap
 generalize upd H8 a (.ins ad.c_a dx (fsK m S O 0 f []))=H9 at s9 b9 S9 O9 f9 a9 ⊢
 have lk:Lk ad.c_a H9 a m S O f 0 [] bs (as.map fun x=>An x.2) (dec as.length z (BV as.length)):=⟨⟨dx,a9⟩,S9,b9,by rw [f0,Aw],f6,O9,⟨_,f9⟩⟩
 and_intros
 refine ⟨a,dx,_,rfl,a9,rfl,?_⟩
 refine ⟨a,m,w,S,O,f,0,n,[],bs,_,_,rfl,lk,pk,mg.same s9,.inl rfl,fun sd H10 s10 io=>?_⟩
 have lk2:=lk.same s10
 have a10:=s10 _ _ a9
 refine ⟨_,rfl,a,_,dx,_,rfl,a10,cl,T.na_a_b3,(by simp only [BA,Cs];decide),?_⟩
 rw [RE _ _ _ _ _ [] _ rfl]
 refine q S O f bs sd _ (Bu (s9.trans s10) h0) ⟨⟨dx,Ap⟩,Dc a10 lk2.sh,GI a10 lk2.lies,lk2.len,lk2.rel,Dc a10 lk2.od,lk2.fs.imp fun _ e=>Dc a10 e⟩ pk io (none_of s1 hS) (none_of s3 hO) (none_of s07 hf) (fun x m=>(f5 x m).1) (B3 hO S3) (B3 hf (s7 _ _ S6)) (fun x m=>(f5 x m).2)
theorem ok_aa (T:Tx K mg ad):AG P w K mg base CX0 10 ad.f_aa ad.d_aa ["self","lines"] (S2 ad.c_a ad.c_d ad.c_b):=by
 refine T.F_aa.ok sc_aa (fun vs H Q E h=>?_) (fun cdv A outer s H vs Q E hr h=>?_)
 ·obtain ⟨a,m,w,S,O,f,l,k,n,j,bs,dss,os,ls,rfl,_⟩:=h
  rfl
 obtain ⟨a,m,w,S,O,f,l,k,n,j,bs,dss,os,ls,rfl,lk,pk,mg,SO,Sf,Sb,ej,jl,hl,gl,sm,pk2,q⟩:=h
 have nd:=sc_aa.nd
 refine ⟨_,(@Av _ _ _ _ _ ((ER⊂((B4 (pv 0) rfl)∪Gj))⊆((@Bl _ _ _ Dd)∪Bs)) (@Av _ _ _ _ _ (2<$>(a5<*(@Aj _ _ _ _ _ (pv 1) Am (by rfl)))) (@Av _ _ _ _ _ (3<$>(ay<*(@Aj _ _ _ _ _ (B0∩((B4 (pv 0) rfl)∪(CP (pv 0) T.cl_a T.me_a_cj (ok_i T) (hr.mono (by decide)) T.b_i .nil Cd))) Am (by rfl)))) (@Av _ _ _ _ _ ((ER⊂((ay<*(@Aj _ _ _ _ _ (pv 2) Am (by rfl)))∪(pv 3)))⊆((@Bl _ _ _ Dd)∪Bs)) (@Av _ _ _ _ _ (EX (pv 2) (Fy (B4 (pv 0) rfl) (CP (pv 0) T.cl_a T.me_a_cj (ok_i T) (hr.mono (by decide)) T.b_i .nil Cd) FC)) (@Av _ _ _ _ _ (Dq (pv 0) (@A9 _ _ _ _ _ _ _ _ Ch (B4 (pv 0) rfl) Au) rfl) (@Av _ _ _ _ _ (Dq (pv 0) (CP (pv 0) T.cl_a T.me_a_cu (ok_n T) (hr.mono (by decide)) T.b_n .nil Cd) rfl) (~~~(B4 (pv 0) rfl))))))))),?_⟩
 obtain ⟨dx,ha⟩:=lk.at_
 have okl:=pk2.ok (An ls) (Br (i:=j) (FL jl))
 have kl:k < os.length:=(List.getElem?_eq_some_iff.mp ej).1
 have kj:os.getD k 0=(j:Ac):=by rw [BP,ej];rfl
 obtain ⟨x,ex,xm,je,sx⟩:=lk.sum pk (Br ej)
 rw [Ce] at ex sx
 have xl:=(lk.keys pk xm).2
 have cl:=T.cl_a
 and_intros
 refine ⟨a,_,dx,_,_,rfl,ha,cl,T.na_a_b3,rfl,?_⟩
 and_intros
 refine ⟨l,ls,Bt n,rfl,hl,gl,(fun q m=>(okl q m).1),Gk pk.n6,(fun q m=>⟨(okl q m).2.1,(okl q m).2.2.1⟩),fun y ls' H1 hy s1 e1 g1 sh1 l64=>?_⟩
 have sm1:((An ls').map (·.2)).sum=AX (An ls):=Kg (sh1.tot fun q m=>(okl q m).2.1)
 have xat:atI (bs.map fun x=>V.ref x.1) (j:Ac)=Aa (.ref x.1):=Dv (by rw [Bm,ex];rfl)
 and_intros
 refine ⟨a,_,dx,_,_,rfl,s1 _ _ ha,cl,T.na_a_b4,rfl,?_⟩
 and_intros
 refine ⟨a,dx,_,rfl,s1 _ _ ha,rfl,?_⟩
 refine ⟨a,m,S,O,f,k,"open",bs,dss,os,rfl,lk.same s1,fun _=>kl,?_⟩
 rw [At rfl,kj]
 refine ⟨S,_,_,_,rfl,rfl,SqL.of (s1 _ _ lk.sh),xat,?_⟩
 refine ⟨x.1,x.2,rfl,s1 _ _ (lk.lies x xm).1,(lk.lies x xm).2.same s1,by omega,fun H2 s2=>?_⟩
 have s12:=s1.trans s2
 and_intros
 refine ⟨y,ls',rfl,s2 _ _ e1,g1.same s2,by omega,fun H3 s3=>?_⟩
 have s13:=s12.trans s3
 have s23:=s2.trans s3
 and_intros
 refine ifF (GJ (by rw [sm1,sx,sm])) ?_
 and_intros
 refine ⟨a,_,dx,_,_,rfl,s13 _ _ ha,cl,T.na_a_b4,rfl,?_⟩
 and_intros
 refine ⟨a,dx,_,rfl,s13 _ _ ha,rfl,?_⟩
 refine ⟨a,m,S,O,f,k,"open",bs,dss,os,rfl,lk.same s13,fun _=>kl,?_⟩
 rw [At rfl,kj]
 have S3:=s13 _ _ lk.sh
 refine ⟨S,_,_,j,rfl,rfl,S3,E5 (by rw [Aw,lk.len];exact jl),?_⟩
 have yS:y≠S:=fun z=>by rw [z,lk.sh] at hy;cases hy
 have ya:y≠a:=fun z=>by rw [z,ha] at hy;cases hy
 have aS:a≠S:=fun z=>by rw [z,lk.sh] at ha;cases ha
 have keep:Ax (BZ H a S) H3:=(Rj H a S).trans s13
 have t4:Ax (BZ H a S) (upd H3 S (.lst ((bs.map fun x=>V.ref x.1).set j (.ref y)))):=Y4 keep
 have S4:(upd H3 S (.lst ((bs.map fun x=>V.ref x.1).set j (.ref y)))) S=Aa (.lst ((bs.set j (y,ls')).map fun x=>V.ref x.1)):=by rw [Ap,Et]
 have a4:(upd H3 S (.lst ((bs.map fun x=>V.ref x.1).set j (.ref y)))) a=_:=(AF aS).trans (s13 _ _ ha)
 have O4:(upd H3 S (.lst ((bs.map fun x=>V.ref x.1).set j (.ref y)))) O=_:=(AF (AM SO)).trans (s13 _ _ lk.od)
 obtain ⟨fo,hf⟩:=lk.fs
 have f4:(upd H3 S (.lst ((bs.map fun x=>V.ref x.1).set j (.ref y)))) f=_:=(AF (AM Sf)).trans (s13 _ _ hf)
 have b4:∀x∈bs.set j (y,ls'),(upd H3 S (.lst ((bs.map fun x=>V.ref x.1).set j (.ref y)))) x.1=Aa (.lst (vls x.2))/\AO (upd H3 S (.lst ((bs.map fun x=>V.ref x.1).set j (.ref y)))) x.2:=fun x m=>by
  rcases DQ m with m | rfl
  ·exact ⟨by rw [AF (Sb x m)];exact s13 _ _ (lk.lies x m).1,((lk.lies x m).2.same s13).upd S3⟩
  ·exact ⟨by rw [AF yS];exact s23 _ _ e1,(g1.same s23).upd S3⟩
 generalize upd H3 S (.lst ((bs.map fun x=>V.ref x.1).set j (.ref y)))=H4 at t4 S4 a4 O4 f4 b4 ⊢
 and_intros
 refine ⟨a,_,dx,_,_,rfl,a4,cl,T.na_a_b2,rfl,?_⟩
 and_intros
 refine ⟨a,_,dx,_,rfl,a4,cl,T.na_a_b2,(by simp only [BA,Cs];decide),?_⟩
 rw [Z4]
 have t5:Ax (BZ H a S) (upd H4 a (.ins ad.c_a dx (fsK m S O ((k:Ac)+1) f [("said",.str "open")]))):=Ri t4
 have b5:=GI (o:=.ins ad.c_a dx (fsK m S O ((k:Ac)+1) f [("said",.str "open")])) a4 b4
 have S5:=Dc (o:=.ins ad.c_a dx (fsK m S O ((k:Ac)+1) f [("said",.str "open")])) a4 S4
 have O5:=Dc (o:=.ins ad.c_a dx (fsK m S O ((k:Ac)+1) f [("said",.str "open")])) a4 O4
 have f5:=Dc (o:=.ins ad.c_a dx (fsK m S O ((k:Ac)+1) f [("said",.str "open")])) a4 f4
 have a5:(upd H4 a (.ins ad.c_a dx (fsK m S O ((k:Ac)+1) f [("said",.str "open")]))) a=_:=Ap
 generalize upd H4 a (.ins ad.c_a dx (fsK m S O ((k:Ac)+1) f [("said",.str "open")]))=H5 at t5 b5 S5 O5 f5 a5 ⊢
 have lk5:Lk ad.c_a H5 a m S O f (k+1) [("said",.str "open")] (bs.set j (y,ls')) (dss.set j (An ls)) os:=⟨⟨dx,a5⟩,S5,b5,by rw [DO,DO];exact lk.len,Aan lk.len lk.rel sh1,O5,⟨fo,f5⟩⟩
 and_intros
 refine ⟨a,dx,_,rfl,a5,rfl,?_⟩
 refine ⟨a,m,w,S,O,f,k+1,n,_,_,_,_,rfl,lk5,pk2,mg.same t5,.inr ⟨_,rfl⟩,fun sd H6 s6 io=>?_⟩
 have lk6:=lk5.same s6
 have a6:=s6 _ _ a5
 refine ⟨_,rfl,a,_,dx,_,rfl,a6,cl,T.na_a_b3,(by simp only [BA,Cs];decide),?_⟩
 rw [RE _ _ _ _ _ [("said",V.str "open")] _ (by unfold Bb;rw [At rfl])]
 have lk7:Lk ad.c_a (upd H6 a (.ins ad.c_a dx (fsK m S O ((k:Ac)+1) f [("said",.str sd)]))) a m S O f (k+1) [("said",.str sd)] (bs.set j (y,ls')) (dss.set j (An ls)) os:=⟨⟨dx,Ap⟩,Dc a6 lk6.sh,GI a6 lk6.lies,lk6.len,lk6.rel,Dc a6 lk6.od,lk6.fs.imp fun _ e=>Dc a6 e⟩
 have t7:Ax (BZ H a S) (upd H6 a (.ins ad.c_a dx (fsK m S O ((k:Ac)+1) f [("said",.str sd)]))):=Ri (t5.trans s6)
 generalize upd H6 a (.ins ad.c_a dx (fsK m S O ((k:Ac)+1) f [("said",.str sd)]))=H7 at lk7 t7 ⊢
 obtain ⟨dx7,a7⟩:=lk7.at_
 and_intros
 exact ⟨a,_,dx7,_,_,rfl,a7,cl,T.na_a_b3,rfl,q y ls' sd H7 hy t7 lk7 io⟩
theorem ok_q (T:Tx K mg ad):AG P w K mg base CX0 11 ad.f_q ad.d_q ["_law_look","_law_bundles_here","_law_order_here","_law_steps","_law_cell_here","_law_hands"] (Ts ad.c_a ad.c_d ad.c_b):=by
 refine T.F_q.ok sc_q (fun vs H Q E h=>?_) (fun cdv A outer s H vs Q E hr h=>?_)
 ·obtain ⟨R,a,m,w,S,O,f,B,O',n,i,c,sd,bs,cs,os,rfl,_⟩:=h
  rfl
 obtain ⟨R,a,m,w,S,O,f,B,O',n,i,c,sd,bs,cs,os,rfl,lr,pk,mg,io,bd,hO,il,c0,c1,l20,q⟩:=h
 have nd:=sc_q.nd
 refine ⟨_,(@Av _ _ _ _ _ (1<$>(@EU _ _ _ _ _ _ _ _ _ Fo (by rfl) T.z_bx EH (@Aj _ _ _ _ _ (pv 1) Am (by rfl)) (by decide) (by decide) (by rfl) (by rfl))) (@Av _ _ _ _ _ (CW CC rfl (EW rfl T.z_bz (@Aj _ _ _ _ _ (pv 3) Am (by rfl))) (Ci (i:=6) sc_q.nd rfl (BW rfl)) (@Av _ _ _ _ _ (7<$>(B0∩((pv 2)∪(pv 6)))) (@Bl _ _ _ ((D1⊂((CP (pv 0) T.cl_a T.me_a_co (ok_j T) (hr.mono (by decide)) T.b_j .nil Cd)∪Gj))⊆((@Av _ _ _ _ _ (8<$>(ai<*(@Aj _ _ _ _ _ (B0∩((pv 1)∪(pv 7))) (@Aj _ _ _ _ _ (bd<*(@Aj _ _ _ _ _ (pv 4) (@Aj _ _ _ _ _ (pv 7) Am (by rfl)) (by rfl))) (@Aj _ _ _ _ _ (pv 5) Am (by rfl)) (by rfl)) (by rfl)))) (@Av _ _ _ _ _ (9<$>(@EU _ _ _ _ _ _ _ _ _ Fo (by rfl) T.z_bx EH (@Aj _ _ _ _ _ (pv 8) Am (by rfl)) (by decide) (by decide) (by rfl) (by rfl))) (@Av _ _ _ _ _ (@D4 _ _ _ _ ((pv 0)=<<(a.c6.aa>=>(@Aj _ _ _ _ _ (pv 9) Am (by rfl)))) (by rfl)) (@Av _ _ _ _ _ (@D4 _ _ _ _ (DY Ee FT PySem.F.type_list_append EN (pv 9) (@Aj _ _ _ _ _ (@BI _ _ _ _ _ (@Aj _ _ _ _ _ (@BI _ _ _ _ _ Am) (@Aj _ _ _ _ _ Au Am (by rfl)) (by rfl))) Am (by rfl))) (by rfl)) (@Av _ _ _ _ _ (EX (@BI _ _ _ _ _ (@Aj _ _ _ _ _ (@BI _ _ _ _ _ Am) (@Aj _ _ _ _ _ Au Am (by rfl)) (by rfl))) (Fy (pv 9) Au FC)) (@Bl _ _ _ (EX (pv 8) (Fy (pv 1) (pv 7) FC))))))))∪Bs))))) (~~~(pv 1)))),?_⟩
 have ol:=pk.ol
 have d5:=pk.d5
 and_intros
 refine ⟨B,_,rfl,.inl (SqL.of (lr.same _ _ bd.lst)),fun D hD=>?_⟩
 have s1:=A2 hD (.lst (cs.map fun x=>V.ref x.1))
 have e1:(upd H D (.lst (cs.map fun x=>V.ref x.1))) D=Aa (.lst (cs.map fun x=>V.ref x.1)):=Ap
 generalize upd H D (.lst (cs.map fun x=>V.ref x.1))=H1 at s1 e1 ⊢
 have lr1:=lr.up s1
 and_intros
 refine ⟨by omega,by omega,Nh (fun j σ' J=>Ex9 fun (v6 v7 v8 v9:Ay V) (R':Hp) (k:Ae) (s':Ak) (bs' cs':Ab (Ad × Ls))=>σ'=[Aa (.ref a),Aa (.ref D),Aa (.ref O'),Aa (.int (i:Ac)),Aa (.int c),Aa (.int (n:Ac)),v6,v7,v8,v9]/\Ax R R'/\R' D=Ag/\J D=Aa (.lst (cs'.map fun x=>V.ref x.1))/\LkR ad.c_a R' J a m S O f k [("said",.str s')] bs' (cs'.map fun x=>An x.2) os/\Pk n (cs'.map fun x=>An x.2) os/\(s'="open"↔0 < Un (cs'.map fun x=>An x.2) (os.drop k))/\(∀x∈cs',R' x.1=Aa (.lst (vls x.2))/\AO R' x.2)/\(AU cs').length<=20+j/\AtS (cs'.map fun x=>An x.2) os k j/\(∀x∈bs',x∈bs\/R x.1=Ag)/\∀x∈cs',x∈cs\/R x.1=Ag) ⟨Ag,Ag,Ag,Ag,R,0,sd,bs,cs,rfl,(fun _ _ e=>e),none_of lr.same hD,e1,lr1,pk,io,bd.lies,l20,.inl rfl,(fun _ m=>.inl m),(fun _ m=>.inl m)⟩ ?_ ?_⟩
 ·rintro j σ' J hj ⟨v6,v7,v8,v9,R',k,sd',bs',cs',rfl,sR,rD,eD,lrJ,pkJ,ioJ,csJ,lJ,atJ,bF,cF⟩
  rw [Ce] at hj
  have ol':=pkJ.ol
  rw [Aw] at ol'
  obtain ⟨z,ez⟩:∃z,os[j]?=Aa z:=⟨_,BF (by omega)⟩
  obtain ⟨z0,z1⟩:=pkJ.oin z (Br ez)
  rw [Aw] at z1
  obtain ⟨zn,rfl⟩:∃zn:Ae,z=(zn:Ac):=⟨z.toNat,by omega⟩
  obtain ⟨x,ex⟩:∃x,cs'[zn]?=Aa x:=⟨_,BF (by omega)⟩
  have xm:=Br ex
  obtain ⟨dx,ha⟩:=lrJ.at_
  have hOJ:=(sR.trans lrJ.same) _ _ hO
  and_intros
  refine ⟨O',_,_,_,rfl,rfl,SqL.of hOJ,(by rw [D_];exact atN ez),?_⟩
  and_intros
  refine ⟨a,dx,_,rfl,ha,rfl,?_⟩
  refine ⟨a,m,S,O,f,dx,_,sd',rfl,ha,?_⟩
  and_intros
  obtain ⟨un,ki⟩:=atJ.un pkJ
  by_cases cw:sd'="open"
  rotate_left
  ·refine ifF (Bo (fun e=>cw (by injection e))) ?_
   have nn:=JM (js:=os.drop k) pkJ
   have z0:Un (cs'.map fun x=>An x.2) (os.drop k)=0:=by
    have:¬ 0 < Un (cs'.map fun x=>An x.2) (os.drop k):=fun p=>cw (ioJ.mpr p)
    omega
   have kj:k<=j:=by rcases atJ with rfl | ⟨h,_⟩ <;> omega
   exact ⟨_,_,_,_,R',k,sd',bs',cs',rfl,sR,rD,eD,lrJ,pkJ,ioJ,csJ,by omega,.inr ⟨by omega,z0⟩,bF,cF⟩
  refine ifT (Be (by rw [cw])) ?_
  have up:=ioJ.mp cw
  rw [un] at up
  obtain rfl:=ki up
  subst cw
  have xat:atI (cs'.map fun x=>V.ref x.1) (zn:Ac)=Aa (.ref x.1):=Dv (by rw [Bm,ex];rfl)
  and_intros
  refine ⟨D,_,_,_,rfl,rfl,SqL.of eD,xat,?_⟩
  and_intros
  refine ⟨c,(zn:Ac),rfl,GZ c0 c1,C1 (by omega) (by omega),fun y y0 y1=>?_⟩
  and_intros
  have okx:=pkJ.ok (An x.2) (List.mem_map.mpr ⟨x,xm,rfl⟩)
  have x30:=HG xm
  refine ⟨x.1,y,n,x.2,rfl,lrJ.same _ _ (csJ x xm).1,(csJ x xm).2.same lrJ.same,okx,by omega,y0,by omega,pk.n2,pk.n6,fun l' ls' J1 hl' t1 e1' g1 ok1 sm1 ln1=>?_⟩
  and_intros
  intro h hh
  have t2:=A2 hh (.lst (vls ls'))
  have eh:(upd J1 h (.lst (vls ls'))) h=Aa (.lst (vls ls')):=Ap
  generalize upd J1 h (.lst (vls ls'))=J2 at t2 eh ⊢
  have t12:=t1.trans t2
  have lr2:=lrJ.up t12
  and_intros
  refine ⟨a,dx,_,rfl,t12 _ _ ha,rfl,?_⟩
  and_intros
  have dset:(cs'.map fun x=>An x.2).set zn (An ls')=(cs'.set zn (l',ls')).map fun x=>An x.2:=by rw [Et]
  have al:=MN (y:=(l',ls')) ex
  have al':(AU (cs'.set zn (l',ls'))).length+x.2.length=(AU cs').length+ls'.length:=al
  have pk2:Pk n ((cs'.map fun x=>An x.2).set zn (An ls')) os:=by
   refine ⟨pk.n2,pk.n6,fun ds dm=>?_,by rw [DO];exact pkJ.d5,?_,by rw [DO];exact pkJ.ol,by rw [DO];exact pkJ.oin⟩
   ·rcases DQ dm with dm | rfl
    ·exact pkJ.ok ds dm
    ·exact ok1
   ·rw [dset,JS]
    unfold An
    rw [Aw]
    omega
  have Sn:=lr2.rS
  have aS:a≠S:=fun z=>by have:=lrJ.sh;rw [<- z,ha] at this;cases this
  have kS:∀{b:Ad} {o:HO},R' b=Aa o->b≠S:=fun e=>B3 lrJ.rS e
  have kD:∀{b:Ad} {o:HO},R' b=Aa o->b≠D:=fun e=>B3 rD e
  have kh:∀{b:Ad} {o:HO},R' b=Aa o->b≠h:=fun e=>B3 (none_of (lrJ.same.trans t1) hh) e
  obtain ⟨fo,hfo⟩:=lrJ.fs
  refine ⟨a,m,w,S,O,f,h,k,n,zn,bs',cs'.map (fun x=>An x.2),os,ls',rfl,lr2.lk,pkJ,(mg.same sR).same lr2.sub,AM (kS lrJ.od),AM (kS hfo),(fun x m=>kS (lrJ.lies x m).1),ez,by rw [Aw];omega,eh,g1.same t2,?_,pk2,fun y2 ls2 sd2 J3 hy2 t3 lk3 io3=>?_⟩
  ·rw [sm1,BP,Bm,ex]
   rfl
  have hS':J S=_:=lrJ.sh
  have nh:∀{b:Ad} {o:HO},J1 b=Aa o->b≠h:=fun e=>B3 hh e
  have ny:∀{b:Ad} {o:HO},J2 b=Aa o->y2≠b:=fun e z=>by rw [<- z,hy2] at e;cases e
  have nl:∀{b:Ad} {o:HO},J b=Aa o->b≠l':=fun e=>B3 hl' e
  have DS:D≠S:=fun z=>by
   have:=lr.sh
   rw [<- z,hD] at this
   cases this
  have Da:D≠a:=C_ ha eD
  have ha2:=t12 _ _ ha
  have hS2:=t12 _ _ hS'
  have eD2:=t12 _ _ eD
  have ha':h≠a:=C_ ha2 eh
  have hS'':S≠h:=nh (t1 _ _ hS')
  have hDD:D≠h:=nh (t1 _ _ eD)
  have eD3:J3 D=_:=t3 _ _ (D0 eD2 Da DS)
  have eh3:J3 h=_:=t3 _ _ (D0 eh ha' (AM hS''))
  have el3:J3 l'=_:=t3 _ _ (D0 (t2 _ _ e1') (AM (nl ha)) (AM (nl hS')))
  have gl3:AO J3 ls':=fun q m=>by
   obtain ⟨g5,g6⟩:=(g1.same t2) q m
   exact ⟨t3 _ _ (D0 g5 (Bq g5 ha2 (fun z=>by cases z)) (Bq g5 hS2 (fun z=>by cases z))),t3 _ _ (D0 g6 (Bq g6 ha2 (fun z=>by cases z)) (Bq g6 hS2 (fun z=>by cases z)))⟩
  have sR3:Ax R' J3:=lr2.sub.trans t3
  have lkD:=lk3.offM eD3 (AM DS) (kD lrJ.od) (kD hfo) (fun x m=>by
   rcases DQ m with m | rfl
   ·exact kD (lrJ.lies x m).1
   ·exact ny eD2)
  have lkh:=lkD.offM (Bj eh3 (AM hDD)) hS'' (kh lrJ.od) (kh hfo) (fun x m=>by
   rcases DQ m with m | rfl
   ·exact kh (lrJ.lies x m).1
   ·exact ny eh)
  have lkr:=lkh.r (AM (kS lrJ.od)) (AM (kS hfo)) (fun x m=>by
   rcases DQ m with m | rfl
   ·exact kS (lrJ.lies x m).1
   ·exact ny hS2)
  have sK:Ax (off (off J3 D) h) J3:=(DH _ _).trans (DH _ _)
  have Kh:off (off J3 D) h h=Ag:=GK
  have KD:off (off J3 D) h D=Ag:=N3 GK
  have sRK:Ax R' (BZ (off (off J3 D) h) a S):=Dn (Dn (Dn (Dn sR3 rD) (none_of (lrJ.same.trans t1) hh)) lrJ.ra) lrJ.rS
  have KDn:BZ (off (off J3 D) h) a S D=Ag:=N3 (N3 KD)
  have inK:∀{b:Ad} {o:HO},J3 b=Aa o->b≠D->b≠h->b≠a->b≠S->BZ (off (off J3 D) h) a S b=Aa o:=fun e n1 n2 n3 n4=>D0 (Bj (Bj e n1) n2) n3 n4
  have lK:BZ (off (off J3 D) h) a S l'=Aa (.lst (vls ls')):=inK el3 (AM (nl eD)) (nh e1') (AM (nl ha)) (AM (nl hS'))
  have gK:AO (BZ (off (off J3 D) h) a S) ls':=fun q m=>by
   obtain ⟨g5,g6⟩:=gl3 q m
   obtain ⟨dx3,ha3⟩:=lk3.at_
   exact ⟨inK g5 (Bq g5 eD3 (fun z=>by cases z)) (Bq g5 eh3 (fun z=>by cases z)) (Bq g5 ha3 (fun z=>by cases z)) (Bq g5 lk3.sh (fun z=>by cases z)),inK g6 (Bq g6 eD3 (fun z=>by cases z)) (Bq g6 eh3 (fun z=>by cases z)) (Bq g6 ha3 (fun z=>by cases z)) (Bq g6 lk3.sh (fun z=>by cases z))⟩
  generalize off (off J3 D) h=K3 at lkr sK Kh KD sRK KDn lK gK
  clear inK lkh lkD gl3 el3
  and_intros
  refine ⟨.inl ⟨rfl,_,SqL.of eh3⟩,?_⟩
  and_intros
  refine ⟨(by show 0<=A5;decide),fun b0 hb0=>?_⟩
  have u4:=A2 hb0 (.tup [])
  have et0:(upd J3 b0 (.tup [])) b0=Aa (.tup []):=Ap
  generalize upd J3 b0 (.tup [])=J4 at u4 et0 ⊢
  refine ⟨(by show 2<=A5;decide),fun b1 hb1=>?_⟩
  have u5:=A2 hb1 (.tup [V.ref b0,V.int 1])
  have et1:(upd J4 b1 (.tup [V.ref b0,V.int 1])) b1=Aa (.tup [V.ref b0,V.int 1]):=Ap
  generalize upd J4 b1 (.tup [V.ref b0,V.int 1])=J5 at u5 et1 ⊢
  have u45:=u4.trans u5
  have lls:(vls ls').length<=40:=by rw [Cr];omega
  refine ⟨h,_,_,rfl,rfl,u45 _ _ eh3,DJ (by omega),?_⟩
  have w6:Ax K3 (upd J5 h (.lst (vls ls'++[V.ref b1]))):=Bu (sK.trans u45) Kh
  have h6:(upd J5 h (.lst (vls ls'++[V.ref b1]))) h=Aa (.lst (vls ls'++[V.ref b1])):=Ap
  have D6:(upd J5 h (.lst (vls ls'++[V.ref b1]))) D=_:=(AF hDD).trans (u45 _ _ eD3)
  generalize upd J5 h (.lst (vls ls'++[V.ref b1]))=J6 at w6 h6 D6 ⊢
  and_intros
  refine ⟨(by show 0<=A5;decide),fun b2 hb2=>?_⟩
  have u7:=A2 hb2 (.tup [])
  have et2:(upd J6 b2 (.tup [])) b2=Aa (.tup []):=Ap
  generalize upd J6 b2 (.tup [])=J7 at u7 et2 ⊢
  refine ⟨(by show 2<=A5;decide),fun b3 hb3=>?_⟩
  have u8:=A2 hb3 (.tup [V.ref b2,V.int 1])
  have et3:(upd J7 b3 (.tup [V.ref b2,V.int 1])) b3=Aa (.tup [V.ref b2,V.int 1]):=Ap
  generalize upd J7 b3 (.tup [V.ref b2,V.int 1])=J8 at u8 et3 ⊢
  have u78:=u7.trans u8
  and_intros
  refine ⟨h,_,_,0,rfl,rfl,u78 _ _ h6,E5 (i:=0) (by rw [B9];exact Nat.succ_pos _),?_⟩
  have w9:Ax K3 (upd J8 h (.lst ((vls ls'++[V.ref b1]).set 0 (.ref b3)))):=Bu (w6.trans u78) Kh
  have D9:(upd J8 h (.lst ((vls ls'++[V.ref b1]).set 0 (.ref b3)))) D=_:=(AF hDD).trans (u78 _ _ D6)
  generalize upd J8 h (.lst ((vls ls'++[V.ref b1]).set 0 (.ref b3)))=J9 at w9 D9 ⊢
  and_intros
  refine ⟨D,_,_,zn,rfl,rfl,D9,E5 (by rw [Aw];omega),?_⟩
  rw [dset] at lkr pk2 io3
  refine ⟨_,_,_,_,_,k+1,sd2,_,cs'.set zn (l',ls'),rfl,sR.trans sRK,KDn,(by rw [Ap,Et]),lkr.up (Bu w9 KD),pk2,io3,(fun x m=>?_),(by omega),.inl rfl,(fun x m=>?_),(fun x m=>?_)⟩
  ·rcases DQ m with m | rfl
   ·exact Fv sRK csJ x m
   ·exact ⟨lK,gK⟩
  ·rcases DQ m with m | rfl
   ·exact bF x m
   ·exact .inr (none_of (sR.trans lr2.same) hy2)
  ·rcases DQ m with m | rfl
   ·exact cF x m
   ·exact .inr (none_of (sR.trans lrJ.same) hl')
 ·rintro σ' J ⟨v6,v7,v8,v9,R',k,sd',bs',cs',rfl,sR,rD,eD,lrJ,pkJ,ioJ,csJ,lJ,atJ,bF,cF⟩
  rw [Ce] at lJ atJ
  and_intros
  obtain ⟨dx,ha⟩:=lrJ.at_
  obtain ⟨fo,hfo⟩:=lrJ.fs
  have kS:∀{b:Ad} {o:HO},R' b=Aa o->b≠S:=fun e=>B3 lrJ.rS e
  have DS:D≠S:=fun z=>by
   have:=lr.sh
   rw [<- z,hD] at this
   cases this
  exact q _ D k sd' bs' cs' J (sR.trans lrJ.sub) (lrJ.lk.r (AM (kS lrJ.od)) (AM (kS hfo)) (fun x m=>kS (lrJ.lies x m).1)) pkJ ioJ ⟨D0 eD (C_ ha eD) DS,Fv lrJ.sub csJ,(fun x m=>pkJ.ok _ (List.mem_map.mpr ⟨x,m,rfl⟩)),by omega⟩ atJ bF cF (none_of lr.same hD)
theorem ok_e (T:Tx K mg ad):AG P w K mg base CX0 12 ad.f_e ad.d_e ["_law_script"] (Kd K):=by
 exists e
 obtain ⟨p,ns,rfl,hS,h63,q⟩:=h
 refine ⟨_,(@Av _ _ _ _ _ (1<$>(@A9 _ _ _ _ _ _ _ _ Ch Au (@A9 _ _ _ _ _ _ _ _ Cn (bc<*(@Aj _ _ _ _ _ (pv 0) (@Aj _ _ _ _ _ Au Am (by rfl)) (by rfl))) Au))) (@Av _ _ _ _ _ (2<=<(u<*(@Aj _ _ _ _ _ (pv 0) (@Aj _ _ _ _ _ (pv 1) Am (by rfl)) (by rfl)))) (@Av _ _ _ _ _ (3<$>(t<*(@Aj _ _ _ _ _ (pv 2) (@Aj _ _ _ _ _ (pv 1) Am (by rfl)) (by rfl)))) (@Av _ _ _ _ _ (4<$>(HQ T.mk_d (ok_au T) (hr.mono (by decide)) rfl T.m_d T.b_au .nil Cd (@Aj _ _ _ _ _ (HQ T.mk_b (ok_z T) (hr.mono (by decide)) rfl T.m_b T.b3_Lists_init (.cons (show Ba (.non:V) _ from rfl) (.cons (show Ba (.non:V) _ from rfl) (.cons (show Ba (.int (1):V) _ from ⟨_,rfl⟩) .nil))) Cd (@Aj _ _ _ _ _ (pv 1) (@Aj _ _ _ _ _ Au Am (by rfl)) (by rfl))) Am (by rfl)))) (@Av _ _ _ _ _ (5<$>(@Cz _ _ _ _ (@Aj _ _ _ _ _ (bc<*(@Aj _ _ _ _ _ (pv 0) (@Aj _ _ _ _ _ Au Am (by rfl)) (by rfl))) (@Aj _ _ _ _ _ (bc<*(@Aj _ _ _ _ _ (pv 0) (@Aj _ _ _ _ _ Au Am (by rfl)) (by rfl))) Am (by rfl)) (by rfl)))) (@Av _ _ _ _ _ (Gm (j:=6) (fsc:=Aq s_e) (N:=["_law_script","_law_hands","_law_bundles_here","_law_box_here","_law_margin","_law_numbers","_law_orders","_law_looks","_law_held","_law_kept","_law_cell_here","_law_steps","_law_found_here","_law_k","_law_many","_law_empty","_law_line","_law_now","_law_third"]) (Nc:=["_law_script","_law_hands","_law_bundles_here","_law_box_here","_law_margin","_law_numbers","_law_orders","_law_looks","_law_held","_law_kept","_law_cell_here","_law_steps","_law_found_here","_law_k","_law_many","_law_empty","_law_line","_law_now","_law_third","_law_number"]) rfl rfl ⟨rfl,by decide +kernel,by decide +kernel,rfl,by decide +kernel,rfl,by decide +kernel,rfl,by decide +kernel⟩ rfl sc_e.nd rfl rfl (B_ (pv 5)) (fun _ _ _ _=>Cv) (fun _ _ _ _=>(a1<*(@Aj _ _ _ _ _ (pv 19) (@Aj _ _ _ _ _ (@B2 _ _ _ _ _ _ _ _ _ (W7 K) (by rfl) T.z_bw Dh (@Aj _ _ _ _ _ (pv 2) Am (by rfl)) (by decide) (by decide) (by rfl) (by rfl)) Am (by rfl)) (by rfl)))) rfl) (@Av _ _ _ _ _ (7<$>(@Cz _ _ _ _ (@Aj _ _ _ _ _ (HQ T.mk_a (ok_h T) (hr.mono (by decide)) rfl T.m_a T.b_h .nil Cd (@Aj _ _ _ _ _ (pv 4) (@Aj _ _ _ _ _ (pv 3) (@Aj _ _ _ _ _ (B0∩((pv 5)∪Au)) Am (by rfl)) (by rfl)) (by rfl))) (@Aj _ _ _ _ _ (HQ T.mk_a (ok_h T) (hr.mono (by decide)) rfl T.m_a T.b_h .nil Cd (@Aj _ _ _ _ _ (pv 4) (@Aj _ _ _ _ _ (pv 3) (@Aj _ _ _ _ _ (B0∩((pv 5)∪Au)) Am (by rfl)) (by rfl)) (by rfl))) Am (by rfl)) (by rfl)))) (@Av _ _ _ _ _ (8<$>(CP (B0∩((pv 7)∪Au)) T.cl_a T.me_a_cf (ok_g T) (hr.mono (by decide)) T.b_g .nil Cd)) (@Av _ _ _ _ _ (9<$>(@EU _ _ _ _ _ _ _ _ _ Fo (by rfl) T.z_bx EH (@Aj _ _ _ _ _ (pv 8) Am (by rfl)) (by decide) (by decide) (by rfl) (by rfl))) (@Av _ _ _ _ _ (10<$>(bd<*(@Aj _ _ _ _ _ (bc<*(@Aj _ _ _ _ _ (pv 0) (@Aj _ _ _ _ _ Au Am (by rfl)) (by rfl))) (@Aj _ _ _ _ _ Au Am (by rfl)) (by rfl)))) (@Av _ _ _ _ _ (11<$>(@A9 _ _ _ _ _ _ _ _ Cn (pv 10) (@A9 _ _ _ _ _ _ _ _ Ch (@B2 _ _ _ _ _ _ _ _ _ Dm (by rfl) T.z_bw Dh (@Aj _ _ _ _ _ (pv 2) Am (by rfl)) (by decide) (by decide) (by rfl) (by rfl)) Au))) (@Av _ _ _ _ _ (12<$>(q<*(@Aj _ _ _ _ _ (B0∩((pv 7)∪Au)) (@Aj _ _ _ _ _ (pv 2) (@Aj _ _ _ _ _ (B0∩((pv 6)∪Au)) (@Aj _ _ _ _ _ (pv 11) (@Aj _ _ _ _ _ (pv 10) (@Aj _ _ _ _ _ (pv 1) Am (by rfl)) (by rfl)) (by rfl)) (by rfl)) (by rfl)) (by rfl)))) (@Av _ _ _ _ _ ((@Co _ _ _ _ (@Cj _ _ _ (p<*(@Aj _ _ _ _ _ (B0∩((pv 7)∪Au)) (@Aj _ _ _ _ _ (pv 12) (@Aj _ _ _ _ _ (B0∩((pv 6)∪Au)) (@Aj _ _ _ _ _ (pv 11) Am (by rfl)) (by rfl)) (by rfl)) (by rfl))) (by intro _;rfl)))⊆((~~~ET)∪Bs)) (@Av _ _ _ _ _ (13<$>(@A9 _ _ _ _ _ _ _ _ Cn (@A9 _ _ _ _ _ _ _ _ CO (pv 10) Au) (@B2 _ _ _ _ _ _ _ _ _ Dm (by rfl) T.z_bw Dh (@Aj _ _ _ _ _ (pv 2) Am (by rfl)) (by decide) (by decide) (by rfl) (by rfl)))) (@Av _ _ _ _ _ (14<$>(ah<*(@Aj _ _ _ _ _ (@Cz _ _ _ _ (@Aj _ _ _ _ _ (B0∩((pv 2)∪(pv 13))) Am (by rfl))) Am (by rfl)))) (@Av _ _ _ _ _ (Zn (j:=15) (fsc:=Aq s_e) (N:=["_law_script","_law_hands","_law_bundles_here","_law_box_here","_law_margin","_law_numbers","_law_orders","_law_looks","_law_held","_law_kept","_law_cell_here","_law_steps","_law_found_here","_law_k","_law_many","_law_empty","_law_line","_law_now","_law_third"]) (Nc:=["_law_script","_law_hands","_law_bundles_here","_law_box_here","_law_margin","_law_numbers","_law_orders","_law_looks","_law_held","_law_kept","_law_cell_here","_law_steps","_law_found_here","_law_k","_law_many","_law_empty","_law_line","_law_now","_law_third","_law_slip_here","_law_number"]) rfl rfl ⟨rfl,by decide +kernel,by decide +kernel,by decide +kernel,by decide +kernel,rfl,by decide +kernel,rfl,by decide +kernel⟩ rfl sc_e.nd rfl rfl (B_ (B0∩((pv 2)∪(pv 13)))) (fun _ _ _ _=>Cv) (fun _ _ _ _=>(@BI _ _ _ _ _ (@Aj _ _ _ _ _ (@BI _ _ _ _ _ Am) (@Aj _ _ _ _ _ (pv 20) Am (by rfl)) (by rfl)))) rfl) (@Av _ _ _ _ _ (@D4 _ _ _ _ ((pv 3)=<<(c.dh.w>=>(@Aj _ _ _ _ _ (pv 13) (@Aj _ _ _ _ _ (@EU _ _ _ _ _ _ _ _ _ Fo (by rfl) T.z_bx EH (@Aj _ _ _ _ _ (pv 15) Am (by rfl)) (by decide) (by decide) (by rfl) (by rfl)) Am (by rfl)) (by rfl)))) (by rfl)) (@Av _ _ _ _ _ (16<$>(@BI _ _ _ _ _ (@Aj _ _ _ _ _ (@BI _ _ _ _ _ (@Aj _ _ _ _ _ Au Am (by rfl))) (@Aj _ _ _ _ _ (@A9 _ _ _ _ _ _ _ _ Ch Au (@A9 _ _ _ _ _ _ _ _ Cn (@A9 _ _ _ _ _ _ _ _ CO (pv 10) Au) Au)) Am (by rfl)) (by rfl)))) (@Av _ _ _ _ _ (@D4 _ _ _ _ ((pv 3)=<<(c.dl.ap>=>(@Aj _ _ _ _ _ (@Cz _ _ _ _ (@Aj _ _ _ _ _ (az<*(@Aj _ _ _ _ _ (pv 16) (@Aj _ _ _ _ _ (pv 1) Am (by rfl)) (by rfl))) Am (by rfl))) (@Aj _ _ _ _ _ (am<*(@Aj _ _ _ _ _ (@Cz _ _ _ _ (@Aj _ _ _ _ _ (az<*(@Aj _ _ _ _ _ (pv 16) (@Aj _ _ _ _ _ (pv 1) Am (by rfl)) (by rfl))) Am (by rfl))) Am (by rfl))) Am (by rfl)) (by rfl)))) (by rfl)) (@Av _ _ _ _ _ (17<$>(@A9 _ _ _ _ _ _ _ _ N5 (@A9 _ _ _ _ _ _ _ _ N5 (@A9 _ _ _ _ _ _ _ _ N5 (HR IX (pv 2) HV (HW (pv 13))) (@Cz _ _ _ _ (@Aj _ _ _ _ _ (pv 15) Am (by rfl)))) (HR IX (pv 2) (HW (@A9 _ _ _ _ _ _ _ _ Ch (pv 13) Au)) HV)) (@Cz _ _ _ _ (@Aj _ _ _ _ _ (@Cz _ _ _ _ (@Aj _ _ _ _ _ (pv 16) Am (by rfl))) Am (by rfl))))) (@Av _ _ _ _ _ (18<$>(HQ T.mk_a (ok_h T) (hr.mono (by decide)) rfl T.m_a T.b_h .nil Cd (@Aj _ _ _ _ _ (pv 4) (@Aj _ _ _ _ _ (pv 3) (@Aj _ _ _ _ _ (pv 10) Am (by rfl)) (by rfl)) (by rfl)))) (@Av _ _ _ _ _ ((PW.pt (@De _ _ _ _ _ _ _ (@Co _ _ _ _ (@Cj _ _ _ (p<*(@Aj _ _ _ _ _ (pv 18) (@Aj _ _ _ _ _ (pv 17) (@Aj _ _ _ _ _ (a1<*(@Aj _ _ _ _ _ (pv 10) (@Aj _ _ _ _ _ (@B2 _ _ _ _ _ _ _ _ _ Dm (by rfl) T.z_bw Dh (@Aj _ _ _ _ _ (pv 17) Am (by rfl)) (by decide) (by decide) (by rfl) (by rfl)) Am (by rfl)) (by rfl))) (@Aj _ _ _ _ _ Au Am (by rfl)) (by rfl)) (by rfl)) (by rfl))) (by intro _;rfl))) (@DI _ _ _ _ (ER⊂((pv 14)∪(ah<*(@Aj _ _ _ _ _ (@Cz _ _ _ _ (@Aj _ _ _ _ _ (B0∩((pv 17)∪(pv 13))) Am (by rfl))) Am (by rfl))))))))⊆((~~~ET)∪Bs)) (@Av _ _ _ _ _ ((PW.pt (@De _ _ _ _ _ _ _ (@Co _ _ _ _ (@Cj _ _ _ (p<*(@Aj _ _ _ _ _ (B0∩((pv 7)∪Au)) (@Aj _ _ _ _ _ (pv 2) (@Aj _ _ _ _ _ (B0∩((pv 6)∪Au)) (@Aj _ _ _ _ _ Au Am (by rfl)) (by rfl)) (by rfl)) (by rfl))) (by intro _;rfl))) (@DI _ _ _ _ (@Co _ _ _ _ (@Cj _ _ _ (p<*(@Aj _ _ _ _ _ (B0∩((pv 7)∪Au)) (@Aj _ _ _ _ _ (pv 12) (@Aj _ _ _ _ _ (B0∩((pv 6)∪Au)) (@Aj _ _ _ _ _ (pv 11) Am (by rfl)) (by rfl)) (by rfl)) (by rfl))) (by intro _;rfl))))))⊆((~~~ET)∪Bs)) (~~~(@ES _ _ _ _ _ _ _ (p<*(@Aj _ _ _ _ _ (B0∩((pv 7)∪Au)) (@Aj _ _ _ _ _ (pv 2) (@Aj _ _ _ _ _ (B0∩((pv 6)∪Au)) (@Aj _ _ _ _ _ Au Am (by rfl)) (by rfl)) (by rfl)) (by rfl))) (@EV _ _ _ _ _ (@Gh _ _ _ _ _ _ _ _ (Rn (K:=K) hr.units) (pv 8) (pv 9) (Fw _)))))))))))))))))))))))))))),?_⟩
 subst_eqs
 refine ⟨p,ns,0,rfl,hS,h63,by decide,by decide,fun c c0 c1=>?_⟩
 have m5:=CI c (show (0:Ac) < 5 by decide)
 subst_eqs
 dsimp only
 have hh:2<=2+c.fmod 5/\2+c.fmod 5<=6:=by omega
 generalize 2+c.fmod 5=h at hh ⊢
 obtain ⟨n,rfl⟩:∃n:Ae,h=(n:Ac):=⟨h.toNat,by omega⟩
 have n2:2<=n:=by omega
 have n6:n<=6:=by omega
 subst_eqs
 refine ⟨p,ns,n,rfl,hS,h63,n2,n6,fun B cs H1 s1 bd b1 b4 l20=>?_⟩
 subst_eqs
 refine ⟨B,n,cs,rfl,bd,n2,n6,by omega,fun b L as H2 hL s2 ib ed=>?_⟩
 have s02:=s1.trans s2
 have la:as.length=cs.length:=by
  have:=BR EE ed
  rw [Aw,Aw] at this
  exact this
 have oka:∀x∈as,Cp n (Bt n) (An x.2):=fun x m=>by
  have:An x.2∈cs.map (fun x=>An x.2):=by rw [<- ed];exact List.mem_map.mpr ⟨x,m,rfl⟩
  obtain ⟨y,ym,e⟩:=List.mem_map.mp this
  rw [<- e]
  exact bd.ok y ym
 have a20:(AU as).length<=20:=by
  have:=BR EE (MM ed)
  unfold An at this
  rw [Aw,Aw] at this
  omega
 subst_eqs
 intro wy dxw hw hdw nw
 have sn1:=Kc (C:=ad.c_b) hw hdw nw
 refine ⟨wy,ad.c_b,dxw,n,1,rfl,Ap,T.cl_b,T.na_b_bv,T.na_b_ca,T.na_b_cc,T.na_b_b8,T.na_b_cd,by omega,by omega,by decide,by decide,fun lw tw H3 hlw g3 a3 l3 t3=>⟨rfl,?_⟩⟩
 have s3:Ax H2 H3:=(Dn sn1 hw).trans g3
 have hlw':H2 lw=Ag:=none_of sn1 hlw
 clear sn1 g3 hlw
 have md:Fm ad.c_b H3 wy n 1 1 0 1 (ups n):=⟨⟨dxw,lw,tw,a3,l3,t3⟩,Ky _,by omega,by omega,by decide,by decide,by decide,by decide,by decide,by decide,by decide,by decide⟩
 subst_eqs
 intro mg dxm hm hdm nm
 have sn2:=Kc (C:=ad.c_d) hm hdm nm
 refine ⟨mg,ad.c_d,dxm,wy,rfl,Ap,T.cl_d,T.na_d_b5,fun H4 g4 m4=>⟨rfl,?_⟩⟩
 have s4:Ax H3 H4:=(Dn sn2 hm).trans g4
 clear sn2 g4
 have s24:=s3.trans s4
 have L4:=s24 _ _ ib.lst
 have mgL:Mg ad.c_d ad.c_b (off H4 L) mg wy n:=⟨⟨dxm,Bj m4 (AM (C_ m4 L4))⟩,⟨⟨dxw,lw,tw,Bj (s4 _ _ a3) (AM (C_ (s4 _ _ a3) L4)),Bj (s4 _ _ l3) (AM (B3 hlw' ib.lst)),Bj (s4 _ _ t3) (Bq (s4 _ _ t3) L4 (fun z=>by cases z))⟩,md.pm,md.h1,md.h12,md.s1,md.s60,md.st1,md.st9,md.u0,md.uv,md.v0,md.v9⟩⟩
 have mgH:Mg ad.c_d ad.c_b H4 mg wy n:=mgL.same (DH _ _)
 have s1L:Ax H1 (off H4 L):=Dn (s2.trans s24) hL
 have ib4:=ib.same s24
 have s04:=s02.trans s24
 clear md a3 l3 t3 hlw' m4 s3 s4 hw hdw nw hm hdm nm ib s24
 refine DK (σ':=[Aa (.ref p),Aa (.int (n:Ac)),Aa (.ref B),Aa (.ref b),Aa (.ref mg),Ag,Ag,Ag,Ag,Ag,Ag,Ag,Ag,Ag,Ag,Ag,Ag,Ag,Ag]) rfl ?_
 subst_eqs
 refine ⟨p,ns,1,rfl,s04.seq hS,h63,by decide,by decide,fun z1 z10 z11=>?_⟩
 subst_eqs
 refine ⟨p,ns,2,rfl,s04.seq hS,h63,by decide,by decide,fun z2 z20 z21=>?_⟩
 subst_eqs
 refine ⟨(by show 2<=A5;decide),fun N hN=>?_⟩
 have s5:=A2 hN (.lst [V.int z1,V.int z2])
 have eN:(upd H4 N (.lst [V.int z1,V.int z2])) N=Aa (.lst ([z1,z2].map V.int)):=Ap
 generalize upd H4 N (.lst [V.int z1,V.int z2])=H5 at s5 eN ⊢
 refine DK (σ':=[Aa (.ref p),Aa (.int (n:Ac)),Aa (.ref B),Aa (.ref b),Aa (.ref mg),Aa (.ref N),Ag,Ag,Ag,Ag,Ag,Ag,Ag,Ag,Ag,Ag,Ag,Ag,Ag]) rfl ?_
 have s15:=((DH H4 L).trans s5)
 have bd5:=bd.same (s1L.trans s15)
 have lcs:(cs.map fun x=>V.ref x.1).length=cs.length:=Aw _
 subst_eqs
 refine ⟨⟨_,SqL.of eN⟩,?_⟩
 refine DW (xs:=[z1,z2].map V.int) (by show 2<=A5;decide) (fun D i ys H'=>∃os:Ab (Ad × Ac),ys=(os.map fun x=>V.ref x.1)/\os.map (·.2)=[z1,z2].take i/\(∀x∈os,H' x.1=Aa (.lst ((dec cs.length x.2 (BV cs.length)).map V.int))/\x.1≠D/\H5 x.1=Ag)/\H' D=Aa (.lst ys)/\Ax H5 H') (fun D hD=>⟨[],rfl,rfl,(fun _ m=>A8 m Cw),Ap,A2 hD _⟩) (fun D i ys H' hq_=>by obtain ⟨os,f1,f0,_,f2,_⟩:=hq_;exact ⟨f2,by rw [f1,Aw,<- Aw (f:=(·.2)),f0];exact EF _ _⟩) (fun D i ys H' hD hq_=>by obtain ⟨os,_,_,_,_,f3⟩:=hq_;exact SqL.of (f3 _ _ eN)) ?_ ?_
 ·rintro D i y ys H' K1 K2 hD hy ⟨os,rfl,f0,f1,f2,f3⟩ k1 k2
  rw [Bm] at hy
  obtain ⟨z,hz,rfl⟩:=Option.map_eq_some_iff.mp hy
  refine yes (ifT rfl ?_)
  subst_eqs
  refine ⟨_,_,rfl,.inl ⟨_,SqL.of (bd5.same f3).lst,rfl⟩,?_⟩
  rw [lcs]
  subst_eqs
  refine ⟨z,cs.length,rfl,by omega,fun o H7 ho s7 e7=>?_⟩
  have oD:o≠D:=AM (B3 ho f2)
  refine k1 _ _ (s7 _ _ f2) ⟨os++[(o,z)],by rw [Bc];rfl,by rw [Bc,f0,CA,hz];rfl,fun x m=>?_,Ap,Bu (f3.trans s7) hD⟩
  rcases List.mem_append.mp m with m | m
  ·exact ⟨by rw [AF (f1 x m).2.1];exact s7 _ _ (f1 x m).1,(f1 x m).2⟩
  ·rw [List.mem_singleton.mp m]
   exact ⟨by rw [AF oD];exact e7,oD,none_of f3 ho⟩
 rintro OL ys H6 hOL ⟨os,rfl,f0,f1,f2,f3⟩
 obtain ⟨o0,o1,rfl⟩:∃o0 o1,os=[(o0,z1),(o1,z2)]:=by
  match os,f0 with
  | [(o0,_),(o1,_)],f0=>injection f0 with e1 f0;injection f0 with e2 _;subst e1;subst e2;exact ⟨o0,o1,rfl⟩
 obtain ⟨eo0,_,ho0⟩:=f1 _ (Bw ..)
 obtain ⟨eo1,_,ho1⟩:=f1 _ (Bv _ (Bw ..))
 have OL6:H6 OL=Aa (.lst [V.ref o0,V.ref o1]):=f2
 have N6:=f3 _ _ eN
 refine DK (σ':=[Aa (.ref p),Aa (.int (n:Ac)),Aa (.ref B),Aa (.ref b),Aa (.ref mg),Aa (.ref N),Aa (.ref OL),Ag,Ag,Ag,Ag,Ag,Ag,Ag,Ag,Ag,Ag,Ag,Ag]) rfl ?_
 have s46:=s5.trans f3
 have ib6:=ib4.same s46
 have mg6:=mgH.same s46
 have c5:cs.length<=5:=by omega
 subst_eqs
 intro a0 dx0 ha0 hd0 n0
 refine ⟨H6,a0,dx0,mg,wy,b,L,n,z1,as,rfl,Ap,ha0,Kc ha0 hd0 n0,ib6,mg6,n2,n6,oka,by omega,by omega,fun S0 O0 f0' bs0 w0 H7 s7 lk0 pk0 io0 hS0 hO0 hf0 hb0 SO0 Sf0 Sb0=>⟨rfl,?_⟩⟩
 rw [ed,la] at lk0 pk0 io0
 have N7:=s7 _ _ N6
 subst_eqs
 intro a1 dx1 ha1 hd1 n1
 refine ⟨H7,a1,dx1,mg,wy,b,L,n,z2,as,rfl,Ap,ha1,Kc ha1 hd1 n1,ib6.same s7,mg6.same s7,n2,n6,oka,by omega,by omega,fun S1 O1 f1' bs1 w1 H8 s8 lk1 pk1 io1 hS1 hO1 hf1 hb1 SO1 Sf1 Sb1=>⟨rfl,?_⟩⟩
 rw [ed,la] at lk1 pk1 io1
 subst_eqs
 refine ⟨(by show 2<=A5;decide),fun LK hLK=>?_⟩
 have s9:=A2 hLK (.lst [V.ref a0,V.ref a1])
 have eLK:(upd H8 LK (.lst [V.ref a0,V.ref a1])) LK=Aa (.lst [V.ref a0,V.ref a1]):=Ap
 generalize upd H8 LK (.lst [V.ref a0,V.ref a1])=H9 at s9 eLK ⊢
 refine DK (σ':=[Aa (.ref p),Aa (.int (n:Ac)),Aa (.ref B),Aa (.ref b),Aa (.ref mg),Aa (.ref N),Aa (.ref OL),Aa (.ref LK),Ag,Ag,Ag,Ag,Ag,Ag,Ag,Ag,Ag,Ag,Ag]) rfl ?_
 obtain ⟨dxl1,hl1⟩:=lk1.at_
 have hl19:=s9 _ _ hl1
 subst_eqs
 refine ⟨a1,dxl1,_,rfl,hl19,rfl,?_⟩
 subst_eqs
 refine ⟨a1,mg,S1,O1,f1',0,n,_,bs1,_,_,rfl,lk1.same s9,pk1,fun lh lsh H10 hlh s10 elh glh shh=>?_⟩
 subst_eqs
 intro lp hlp
 have s11:=A2 hlp (.lst (vls lsh))
 have elp:(upd H10 lp (.lst (vls lsh))) lp=Aa (.lst (vls lsh)):=Ap
 generalize upd H10 lp (.lst (vls lsh))=H11 at s11 elp ⊢
 refine DK (σ':=[Aa (.ref p),Aa (.int (n:Ac)),Aa (.ref B),Aa (.ref b),Aa (.ref mg),Aa (.ref N),Aa (.ref OL),Aa (.ref LK),Aa (.ref lh),Aa (.ref lp),Ag,Ag,Ag,Ag,Ag,Ag,Ag,Ag,Ag]) rfl ?_
 have s911:=s10.trans s11
 have s811:=s9.trans s911
 have s611:=(s7.trans s8).trans s811
 have s411:=s46.trans s611
 have s011:=s04.trans s411
 subst_eqs
 refine ⟨p,ns,1,rfl,s011.seq hS,h63,by decide,by decide,fun z z0 z1'=>?_⟩
 subst_eqs
 refine ⟨z,9,rfl,GZ z0 z1',szd 64,fun y y0 y1=>?_⟩
 have szy:=Ki y0 y1
 refine DK (σ':=[Aa (.ref p),Aa (.int (n:Ac)),Aa (.ref B),Aa (.ref b),Aa (.ref mg),Aa (.ref N),Aa (.ref OL),Aa (.ref LK),Aa (.ref lh),Aa (.ref lp),Aa (.int y),Ag,Ag,Ag,Ag,Ag,Ag,Ag,Ag]) rfl ?_
 have s16:Ax H1 H6:=(s1L.trans (DH _ _)).trans s46
 have bd11:=bd.same (s16.trans s611)
 have LB11:=bd11.lst
 have LK11:=s911 _ _ eLK
 have OL11:=s611 _ _ OL6
 have ml:=CI y (show (0:Ac) < ((cs.map fun x=>V.ref x.1).length:Ac)+1 by omega)
 obtain ⟨i,hi⟩:∃i:Ae,y.fmod (((cs.map fun x=>V.ref x.1).length:Ac)+1)=(i:Ac):=⟨_,(Gw ml.1).symm⟩
 rw [hi] at ml
 have il:i<=cs.length:=by omega
 subst_eqs
 refine ⟨by show ((cs.map fun x=>V.ref x.1).length:Ac)+1≠0;omega,?_⟩
 dsimp only
 rw [hi]
 refine DK (σ':=[Aa (.ref p),Aa (.int (n:Ac)),Aa (.ref B),Aa (.ref b),Aa (.ref mg),Aa (.ref N),Aa (.ref OL),Aa (.ref LK),Aa (.ref lh),Aa (.ref lp),Aa (.int y),Aa (.int (i:Ac)),Ag,Ag,Ag,Ag,Ag,Ag,Ag]) rfl ?_
 have lk011:=lk0.same (s8.trans s811)
 obtain ⟨dxl0,hl0⟩:=lk011.at_
 have lr0:=lk011.r SO0 Sf0 Sb0
 have sR6:Ax H6 (BZ H11 a0 S0):=Dn (Dn s611 ha0) hS0
 have a1a0:a1≠a0:=by
  obtain ⟨d,e⟩:=lk0.at_
  exact AM (B3 ha1 e)
 have S08:=s8 _ _ lk0.sh
 have S09:=s9 _ _ S08
 have S010:=s10 _ _ S09
 have lk1R:Lk ad.c_a (BZ H11 a0 S0) a1 mg S1 O1 f1' 0 [("said",.str w1)] bs1 _ _:=((lk1.same s811).offI hl0 a1a0).offM (Bj lk011.sh (C_ hl0 lk011.sh)) (AM (B3 hS1 lk0.sh)) (AM (B3 hO1 lk0.sh)) (AM (B3 hf1 lk0.sh)) (fun x m=>AM (B3 (hb1 x m) lk0.sh))
 have LKR:BZ H11 a0 S0 LK=Aa (.lst [V.ref a0,V.ref a1]):=D0 LK11 (C_ hl0 LK11) (AM (B3 hLK S08))
 have lhR:BZ H11 a0 S0 lh=Aa (.lst (vls lsh)):=D0 (s11 _ _ elh) (C_ hl0 (s11 _ _ elh)) (AM (B3 hlh S09))
 have lpR:BZ H11 a0 S0 lp=Aa (.lst (vls lsh)):=D0 elp (C_ hl0 elp) (AM (B3 hlp S010))
 have glR:AO (BZ H11 a0 S0) lsh:=fun q m=>by
  obtain ⟨g5,g6⟩:=(glh.same s11) q m
  exact ⟨D0 g5 (Bq g5 hl0 (fun z=>by cases z)) (Bq g5 lk011.sh (fun z=>by cases z)),D0 g6 (Bq g6 hl0 (fun z=>by cases z)) (Bq g6 lk011.sh (fun z=>by cases z))⟩
 have pR:Ax H (BZ H11 a0 S0):=((s1.trans s16).trans sR6)
 generalize BZ H11 a0 S0=R at lr0 sR6 lk1R LKR lhR lpR glR pR
 clear S08 S09 S010 lk011 LB11
 subst_eqs
 refine ⟨R,a0,mg,wy,S0,O0,f0',B,o0,n,i,y,w0,bs0,cs,_,rfl,lr0,pk0,mg6.same sR6,io0,bd.same (s16.trans sR6),sR6 _ _ eo0,by rw [JQ];exact il,y0,by omega,l20,fun R' B' k s' bs' cs' H12 sR' lr' pk' io' bd' at' bF cF rB=>?_⟩
 refine DK (σ':=[Aa (.ref p),Aa (.int (n:Ac)),Aa (.ref B),Aa (.ref b),Aa (.ref mg),Aa (.ref N),Aa (.ref OL),Aa (.ref LK),Aa (.ref lh),Aa (.ref lp),Aa (.int y),Aa (.int (i:Ac)),Aa (.ref B'),Ag,Ag,Ag,Ag,Ag,Ag]) rfl ?_
 have sRH:=sR'.trans lr'.same
 have s612:=sR6.trans sRH
 have LK12:=sRH _ _ LKR
 have OL12:=s612 _ _ OL6
 subst_eqs
 refine ⟨a0,mg,wy,S0,O0,f0',B',o0,k,n,i,s',bs',cs',_,rfl,lr'.lk,pk',io',bd'.same lr'.same,s612 _ _ eo0,at',fun H13 s13=>?_⟩
 have L6:=ib6.lst
 have L5:H5 L=_:=s5 _ _ L4
 have L7:=s7 _ _ L6
 have L8:=s8 _ _ L7
 have L9:=s9 _ _ L8
 have L10:=s10 _ _ L9
 have LR:=sR6 _ _ L6
 have L12:=sRH _ _ LR
 have zlk0:=lr'.lk.offM L12 (AM (B3 hS0 L6)) (AM (B3 hO0 L6)) (AM (B3 hf0 L6)) (fun x m=>by
  rcases bF x m with m | r
  ·exact AM (B3 (hb0 x m) L6)
  ·exact AM (B3 r LR))
 have zlk1:=(lk1R.same sRH).offM L12 (AM (B3 hS1 L7)) (AM (B3 hO1 L7)) (AM (B3 hf1 L7)) (fun x m=>AM (B3 (hb1 x m) L7))
 have zB:Bd (off H12 L) n B cs:=bd.same (Dn (s16.trans s612) hL)
 have zB':Bd (off H12 L) n B' cs':=(bd'.same lr'.same).offX L12 (AM (B3 rB LR)) (fun x m=>by
  rcases cF x m with m | r
  ·exact B3 hL (bd.lies x m).1
  ·exact AM (B3 r LR))
 have zMg:Mg ad.c_d ad.c_b (off H12 L) mg wy n:=mgL.same (fun _ _ e=>Y5 (s46.trans s612) e)
 have zo0:off H12 L o0=_:=Bj (s612 _ _ eo0) (AM (B3 ho0 L5))
 have zo1:off H12 L o1=_:=Bj (s612 _ _ eo1) (AM (B3 ho1 L5))
 have zOL:off H12 L OL=_:=Bj OL12 (AM (B3 hOL L5))
 have zLK:off H12 L LK=_:=Bj LK12 (AM (B3 hLK L8))
 have zlh:off H12 L lh=_:=Bj (sRH _ _ lhR) (AM (B3 hlh L9))
 have zlp:off H12 L lp=_:=Bj (sRH _ _ lpR) (AM (B3 hlp L10))
 have zgl:=(glR.same sRH).offX L12
 have zL:off H12 L L=Ag:=GK
 have sZ:Ax (off H12 L) H13:=(DH _ _).trans s13
 have ib13:=ib6.same (s612.trans s13)
 generalize off H12 L=Z at zlk0 zlk1 zB zB' zMg zo0 zo1 zOL zLK zlh zlp zgl zL sZ
 clear L5 L7 L8 L9 L10 LR L12 LKR lhR lpR glR pR lk1R lr0 lr' bd' bF cF rB sRH s612 sR6 sR' LK12 OL12 LK11 OL11 s13 hl0 dxl0 eLK elh glh elp hS0 hO0 hf0 hb0 SO0 Sf0 Sb0 hS1 hO1 hf1 hb1 SO1 Sf1 Sb1 lk0 lk1 s7 s8 s9 s10 s11 s911 s811 s611 s411 s011 ha0 ha1 hd0 hd1 n0 n1 hl1 hl19 eo0 eo1 ho0 ho1 OL6 f1 f2 f3 N6 N7 s46 s5 eN hN s04 mgL mgH mg6 ib4 ib6 s1L s15 bd5 L4 hOL hLK hlh hlp bd11 ml a1a0
 have B13:=sZ _ _ zB.lst
 have mk:=CI (y.fdiv 5) (show (0:Ac) < ((cs.map fun x=>V.ref x.1).length:Ac) by omega)
 obtain ⟨kk,hk⟩:∃k:Ae,(y.fdiv 5).fmod ((cs.map fun x=>V.ref x.1).length:Ac)=(k:Ac):=⟨_,(Gw mk.1).symm⟩
 obtain ⟨x,ex⟩:∃x,cs[kk]?=Aa x:=⟨_,BF (by omega)⟩
 have xm:=Br ex
 have xat:atI (cs.map fun x=>V.ref x.1) (kk:Ac)=Aa (.ref x.1):=Dv (by rw [Bm,ex];rfl)
 subst_eqs
 refine ⟨by show ((cs.map fun x=>V.ref x.1).length:Ac)≠0;omega,?_⟩
 dsimp only
 rw [hk]
 refine DK (σ':=[Aa (.ref p),Aa (.int (n:Ac)),Aa (.ref B),Aa (.ref b),Aa (.ref mg),Aa (.ref N),Aa (.ref OL),Aa (.ref LK),Aa (.ref lh),Aa (.ref lp),Aa (.int y),Aa (.int (i:Ac)),Aa (.ref B'),Aa (.int (kk:Ac)),Ag,Ag,Ag,Ag,Ag]) rfl ?_
 subst_eqs
 refine ⟨B,_,_,_,rfl,rfl,SqL.of B13,xat,?_⟩
 subst_eqs
 refine ⟨(by show 1<=A5;decide),fun LC hLC=>?_⟩
 have s14:=A2 hLC (.lst [V.ref x.1])
 have eLC:(upd H13 LC (.lst [V.ref x.1])) LC=Aa (.lst [V.ref x.1]):=Ap
 generalize upd H13 LC (.lst [V.ref x.1])=H14 at s14 eLC ⊢
 have x30:=CK (HG xm) l20
 have hx14:=Fv (sZ.trans s14) zB.lies x xm
 subst_eqs
 refine ⟨LC,[x],rfl,eLC,(fun y m=>by rw [List.mem_singleton.mp m];exact hx14),(by show 1<=9;decide),(fun y m=>by rw [List.mem_singleton.mp m];omega),fun H15 s15=>?_⟩
 rw [show Lw [x]=AX (An x.2) from Es _]
 refine DK (σ':=[Aa (.ref p),Aa (.int (n:Ac)),Aa (.ref B),Aa (.ref b),Aa (.ref mg),Aa (.ref N),Aa (.ref OL),Aa (.ref LK),Aa (.ref lh),Aa (.ref lp),Aa (.int y),Aa (.int (i:Ac)),Aa (.ref B'),Aa (.int (kk:Ac)),Aa (.int (AX (An x.2))),Ag,Ag,Ag,Ag]) rfl ?_
 have s1315:=s14.trans s15
 have sZ15:=sZ.trans s1315
 have B15:=sZ15 _ _ zB.lst
 obtain ⟨hx15,gx15⟩:=Fv sZ15 zB.lies x xm
 subst_eqs
 refine ⟨B,_,_,_,rfl,rfl,SqL.of B15,xat,?_⟩
 refine ⟨x.1,rfl,⟨_,SqL.of hx15⟩,?_⟩
 refine JP (zs:=vls x.2) rfl rfl (by rw [Cr];exact D8 (by omega)) (fun D j ys H'=>∃es:Ls,ys=vls es/\An es=(An (x.2.take j)).map (fun q=>([],q.2))/\H' D=Aa (.lst ys)/\Ax H15 H'/\AO H' es) (fun D hD=>⟨[],rfl,rfl,Ap,A2 hD _,fun _ m=>A8 m Cw⟩) (fun D j ys H' hq_=>by obtain ⟨es,f1,f0,f2,_⟩:=hq_;exact ⟨f2,by rw [f1,Cr];have:=BR EE f0;unfold An at this;rw [Aw,Aw,Aw] at this;rw [this];exact EF _ _⟩) (fun D j ys H' hD hq_=>by obtain ⟨es,_,_,_,f3,_⟩:=hq_;exact SqL.of (f3 _ _ hx15)) ?_ ?_
 ·rintro D j y' ys H' K1 K2 hD hy ⟨es,rfl,f0,f2,f3,f4⟩ k1 k2
  obtain ⟨f,hf,rfl,fm,et⟩:=EZ hy
  refine ⟨f.1,_,_,rfl,SqT.of (f3 _ _ (gx15 f fm).1),?_⟩
  refine yes (ifT rfl ?_)
  subst_eqs
  refine ⟨(by show 0<=A5;decide),fun t0 ht0=>?_⟩
  have s16':=A2 ht0 (.tup [])
  have et0:(upd H' t0 (.tup [])) t0=Aa (.tup []):=Ap
  generalize upd H' t0 (.tup [])=H16 at s16' et0 ⊢
  refine ⟨_,rfl,(by show 2<=A5;decide),fun t1 ht1=>?_⟩
  have s17:=A2 ht1 (.tup [V.ref t0,V.int f.2.2.2])
  have s67:=s16'.trans s17
  refine k1 _ _ (s67 _ _ f2) ⟨es++[(t1,t0,[],f.2.2.2)],by rw [G_];rfl,?_,Ap,Bu (f3.trans s67) hD,AO.upd (s67 _ _ f2) ((f4.same s67).append fun q m=>?_)⟩
  ·rw [Cq,f0,et,Cq,Bc]
   rfl
  ·rw [List.mem_singleton.mp m]
   exact ⟨Ap,s17 _ _ et0⟩
 rintro E0' ys H16 hE ⟨es,rfl,f0,eE,s16',gE⟩
 rw [Cr,Eu] at f0
 refine DK (σ':=[Aa (.ref p),Aa (.int (n:Ac)),Aa (.ref B),Aa (.ref b),Aa (.ref mg),Aa (.ref N),Aa (.ref OL),Aa (.ref LK),Aa (.ref lh),Aa (.ref lp),Aa (.int y),Aa (.int (i:Ac)),Aa (.ref B'),Aa (.int (kk:Ac)),Aa (.int (AX (An x.2))),Aa (.ref E0'),Ag,Ag,Ag]) rfl ?_
 have ib16:=ib13.same (s1315.trans s16')
 have sZ16:=sZ15.trans s16'
 obtain ⟨xa,exa⟩:∃xa,as[kk]?=Aa xa:=⟨_,BF (by omega)⟩
 have xxa:An xa.2=An x.2:=by
  have:=BR (fun l=>l[kk]?) ed
  simp only [Bm,ex,exa] at this
  exact Bp this
 have okE:Cp n (Bt n) (An es):=fun q m=>by
  rw [f0] at m
  obtain ⟨r,rm,rfl⟩:=List.mem_map.mp m
  have:=zB.ok x xm r rm
  exact ⟨Bw ..,this.2.1,this.2.2.1,GL n6 (Bw ..)⟩
 have smE:AX (An es)=AX (An x.2):=by
  rw [f0]
  unfold AX
  rw [Fd]
  rfl
 have lE:es.length=x.2.length:=by
  have:=BR EE f0
  unfold An at this
  rw [Aw,Aw,Aw] at this
  exact this
 obtain ⟨dxb,hb⟩:=ib16.at_
 subst_eqs
 refine ⟨b,dxb,_,rfl,hb,rfl,?_⟩
 subst_eqs
 intro le hle
 have s17:=A2 hle (.lst (vls es))
 have ele:(upd H16 le (.lst (vls es))) le=Aa (.lst (vls es)):=Ap
 generalize upd H16 le (.lst (vls es))=H17 at s17 ele ⊢
 have ib17:=ib16.same s17
 have zE:off H17 L E0'=Aa (.lst (vls es)):=Bj (s17 _ _ eE) (AM (B3 hE (ib13.same s1315).lst))
 have zgE:=(gE.same s17).offX ib17.lst
 have sZ2:Ax Z (off H17 L):=Dn (sZ16.trans s17) zL
 subst_eqs
 refine ⟨b,L,n,as,kk,xa,le,es,Bt n,rfl,ib17,exa,oka xa (Br exa),ele,gE.same s17,(fun q m=>⟨(okE q m).1,(okE q m).2.1,(okE q m).2.2.1⟩),Gk n6,AM (B3 hle ib16.lst),(by rw [smE,xxa]),fun vv yb H18 hyb g18 eL18 ey18 gy18=>?_⟩
 have ib18:=ib17.put g18 hyb eL18 ey18 gy18
 have zL2:off H17 L L=Ag:=GK
 generalize off H17 L=Z2 at zE zgE sZ2 zL2 g18
 clear zL sZ16 sZ15 sZ s1315 ib16 ib17 ib13 s17 s16' eE gE hE ele hle hyb eL18 ey18 gy18 hb dxb B15 hx15 gx15 hx14 s15 s14 eLC B13
 replace zlk0:=zlk0.same sZ2
 replace zlk1:=zlk1.same sZ2
 replace zB:=zB.same sZ2
 replace zB':=zB'.same sZ2
 replace zMg:=zMg.same sZ2
 replace zo0:=sZ2 _ _ zo0
 replace zo1:=sZ2 _ _ zo1
 replace zOL:=sZ2 _ _ zOL
 replace zLK:=sZ2 _ _ zLK
 replace zlh:=sZ2 _ _ zlh
 replace zlp:=sZ2 _ _ zlp
 replace zgl:=zgl.same sZ2
 clear sZ2
 have m99:=CI (y.fdiv 20) (show (0:Ac) < 99 by decide)
 subst_eqs
 refine ⟨(by show 1<=A5;decide),fun q1 hq1=>?_⟩
 have s19:=A2 hq1 (.tup [V.int 1])
 have eq1:(upd H18 q1 (.tup [V.int 1])) q1=Aa (.tup [V.int 1]):=Ap
 generalize upd H18 q1 (.tup [V.int 1])=H19 at s19 eq1 ⊢
 subst_eqs
 refine ⟨(by show 2<=A5;decide),fun q2 hq2=>?_⟩
 dsimp only
 obtain ⟨v,hv,v1,v9⟩:∃v:Ac,1+(y.fdiv 20).fmod 99=v/\1<=v/\v<=1000000000:=⟨_,rfl,by omega,by omega⟩
 rw [hv]
 have s20:=A2 hq2 (.tup [V.ref q1,V.int v])
 have eq2:(upd H19 q2 (.tup [V.ref q1,V.int v])) q2=Aa (.tup [V.ref q1,V.int v]):=Ap
 generalize upd H19 q2 (.tup [V.ref q1,V.int v])=H20 at s20 eq2 ⊢
 refine DK (σ':=[Aa (.ref p),Aa (.int (n:Ac)),Aa (.ref B),Aa (.ref b),Aa (.ref mg),Aa (.ref N),Aa (.ref OL),Aa (.ref LK),Aa (.ref lh),Aa (.ref lp),Aa (.int y),Aa (.int (i:Ac)),Aa (.ref B'),Aa (.int (kk:Ac)),Aa (.int (AX (An x.2))),Aa (.ref E0'),Aa (.ref q2),Ag,Ag]) rfl ?_
 have one:([1]:Ab Ac)∈Bt n:=R8 (f:=0) (by omega)
 obtain ⟨rs,mm,er,_,ln,_,r12,tin⟩:=(GL n6 one).ranks
 have ok1:Cp n (Bt n) [([1],v)]:=fun q m=>by rw [List.mem_singleton.mp m];exact ⟨one,v1,v9,GL n6 one⟩
 have ib20:=ib18.same (s19.trans s20)
 have z20:=g18.trans (s19.trans s20)
 have eq1':=s20 _ _ eq1
 obtain ⟨dxb,hb⟩:=ib20.at_
 subst_eqs
 refine ⟨b,dxb,_,rfl,hb,rfl,?_⟩
 subst_eqs
 refine ⟨q2,q1,[1],v,n,rfl,eq2,eq1',by omega,tin,by omega,v9,(by rw [er];exact r12),fun H21 s21=>?_⟩
 refine ⟨(by show 1<=A5;decide),fun c1 hc1=>?_⟩
 have s22:=A2 hc1 (.lst [V.int (Cm v (BJ [1] n))])
 have ec1:(upd H21 c1 (.lst [V.int (Cm v (BJ [1] n))])) c1=Aa (.lst ((DV n [([1],v)]).map V.int)):=Ap
 generalize upd H21 c1 (.lst [V.int (Cm v (BJ [1] n))])=H22 at s22 ec1 ⊢
 subst_eqs
 refine ⟨q2,q1,[1],v,n,rfl,(s21.trans s22) _ _ eq2,(s21.trans s22) _ _ eq1',by omega,tin,by omega,v9,(by rw [er];exact r12),fun H23 s23=>?_⟩
 refine ⟨(by show 1<=A5;decide),fun c2 hc2=>?_⟩
 have s24:=A2 hc2 (.lst [V.int (Cm v (BJ [1] n))])
 have ec2:(upd H23 c2 (.lst [V.int (Cm v (BJ [1] n))])) c2=Aa (.lst ((DV n [([1],v)]).map V.int)):=Ap
 generalize upd H23 c2 (.lst [V.int (Cm v (BJ [1] n))])=H24 at s24 ec2 ⊢
 refine ⟨c2,DV n [([1],v)],rfl,ec2,JO (by omega) ok1,(by rw [GB];exact Vi (by decide)),fun t2 H25 ht2 s25 et2=>?_⟩
 have s2225:=s23.trans (s24.trans s25)
 have s2025:=s21.trans (s22.trans s2225)
 have ib25:=ib20.same s2025
 refine ⟨b,L,n,_,c1,t2,Bt n,[([1],v)],DV n [([1],v)],0,rfl,ib25,(by rw [DO];omega),by omega,s2225 _ _ ec1,JO (by omega) ok1,(by rw [GB];exact Vi (by decide)),.inl ⟨rfl,rfl⟩,AM (B3 hc1 (ib20.same s21).lst),et2,ok1,(by show 1<=130;decide),fun x1 t3 ls1 H26 hx1 g26 eL26 ex26 gx26 ed26 et26=>?_⟩
 have ib26:=ib25.more g26 hx1 eL26 ex26 gx26
 have z26:Ax Z2 H26:=(Dn (z20.trans s2025) zL2).trans g26
 have q126:H26 q1=_:=g26 _ _ (Bj (s2025 _ _ eq1') (Bq (s2025 _ _ eq1') ib25.lst (fun z=>by cases z)))
 have q226:H26 q2=_:=g26 _ _ (Bj (s2025 _ _ eq2) (Bq (s2025 _ _ eq2) ib25.lst (fun z=>by cases z)))
 clear s2025 s2225 s21 s22 s23 s24 s25 ib25 ib20 ib18 s19 s20 eq1 eq1' eq2 ec1 ec2 hc1 hc2 et2 ht2 g26 eL26 ex26 gx26 et26 hx1 hb dxb z20 g18 hq1 hq2 er r12 tin ln hv m99
 have B26:=z26 _ _ zB.lst
 have kcs:kk < cs.length:=by omega
 have lt:((cs.take kk).map fun x=>V.ref x.1).length<=4:=by rw [Aw,DP];omega
 have ld':((cs.drop (kk+1)).map fun x=>V.ref x.1).length<=4:=by rw [Aw,Hh];omega
 subst_eqs
 refine ⟨B,_,rfl,SqL.of B26,fun r1 hr1=>?_⟩
 rw [Na,<- Mj]
 have s27:=A2 hr1 (.lst ((cs.take kk).map fun x=>V.ref x.1))
 have er1:(upd H26 r1 (.lst ((cs.take kk).map fun x=>V.ref x.1))) r1=Aa (.lst ((cs.take kk).map fun x=>V.ref x.1)):=Ap
 generalize upd H26 r1 (.lst ((cs.take kk).map fun x=>V.ref x.1))=H27 at s27 er1 ⊢
 subst_eqs
 refine ⟨(by show 1<=A5;decide),fun r2 hr2=>?_⟩
 have s28:=A2 hr2 (.lst [V.ref E0'])
 have er2:(upd H27 r2 (.lst [V.ref E0'])) r2=Aa (.lst [V.ref E0']):=Ap
 generalize upd H27 r2 (.lst [V.ref E0'])=H28 at s28 er2 ⊢
 refine ⟨r1,r2,_,_,rfl,rfl,s28 _ _ er1,er2,(by simp only [BA,Cs];exact D8 (by omega)),fun r3 hr3=>?_⟩
 have s29:=A2 hr3 (.lst (((cs.take kk).map fun x=>V.ref x.1)++[V.ref E0']))
 have er3:(upd H28 r3 (.lst (((cs.take kk).map fun x=>V.ref x.1)++[V.ref E0']))) r3=Aa (.lst (((cs.take kk).map fun x=>V.ref x.1)++[V.ref E0'])):=Ap
 generalize upd H28 r3 (.lst (((cs.take kk).map fun x=>V.ref x.1)++[V.ref E0']))=H29 at s29 er3 ⊢
 have s2629:=s27.trans (s28.trans s29)
 subst_eqs
 refine ⟨B,_,rfl,SqL.of (s2629 _ _ B26),fun r4 hr4=>?_⟩
 rw [show Fp (cs.map fun x=>V.ref x.1) (Aa ((kk:Ac)+1)) Ag=(cs.map fun x=>V.ref x.1).drop (kk+1) from M' (j:=kk+1),<- Me]
 have s30:=A2 hr4 (.lst ((cs.drop (kk+1)).map fun x=>V.ref x.1))
 have er4:(upd H29 r4 (.lst ((cs.drop (kk+1)).map fun x=>V.ref x.1))) r4=Aa (.lst ((cs.drop (kk+1)).map fun x=>V.ref x.1)):=Ap
 generalize upd H29 r4 (.lst ((cs.drop (kk+1)).map fun x=>V.ref x.1))=H30 at s30 er4 ⊢
 refine ⟨r3,r4,_,_,rfl,rfl,s30 _ _ er3,er4,(by simp only [B9,BA,Cs];exact D8 (by omega)),fun r5 hr5=>?_⟩
 have s31:=A2 hr5 (.lst (((cs.take kk).map fun x=>V.ref x.1)++[V.ref E0']++(cs.drop (kk+1)).map fun x=>V.ref x.1))
 have er5:(upd H30 r5 (.lst (((cs.take kk).map fun x=>V.ref x.1)++[V.ref E0']++(cs.drop (kk+1)).map fun x=>V.ref x.1))) r5=Aa (.lst (((cs.take kk).map fun x=>V.ref x.1)++[V.ref E0']++(cs.drop (kk+1)).map fun x=>V.ref x.1)):=Ap
 generalize upd H30 r5 (.lst (((cs.take kk).map fun x=>V.ref x.1)++[V.ref E0']++(cs.drop (kk+1)).map fun x=>V.ref x.1))=H31 at s31 er5 ⊢
 subst_eqs
 refine ⟨(by show 1<=A5;decide),fun r6 hr6=>?_⟩
 have s32:=A2 hr6 (.lst [V.ref q2])
 have er6:(upd H31 r6 (.lst [V.ref q2])) r6=Aa (.lst [V.ref q2]):=Ap
 generalize upd H31 r6 (.lst [V.ref q2])=H32 at s32 er6 ⊢
 refine ⟨(by show 1<=A5;decide),fun r7 hr7=>?_⟩
 have s33:=A2 hr7 (.lst [V.ref r6])
 have er7:(upd H32 r7 (.lst [V.ref r6])) r7=Aa (.lst [V.ref r6]):=Ap
 generalize upd H32 r7 (.lst [V.ref r6])=H33 at s33 er7 ⊢
 refine ⟨r5,r7,_,_,rfl,rfl,(s32.trans s33) _ _ er5,er7,(by simp only [B9,BA,Cs];exact D8 (by omega)),fun W hW=>?_⟩
 have s34:=A2 hW (.lst (((cs.take kk).map fun x=>V.ref x.1)++[V.ref E0']++((cs.drop (kk+1)).map fun x=>V.ref x.1)++[V.ref r6]))
 have eW:(upd H33 W (.lst (((cs.take kk).map fun x=>V.ref x.1)++[V.ref E0']++((cs.drop (kk+1)).map fun x=>V.ref x.1)++[V.ref r6]))) W=Aa (.lst (((cs.take kk).map fun x=>V.ref x.1)++[V.ref E0']++((cs.drop (kk+1)).map fun x=>V.ref x.1)++[V.ref r6])):=Ap
 generalize upd H33 W (.lst (((cs.take kk).map fun x=>V.ref x.1)++[V.ref E0']++((cs.drop (kk+1)).map fun x=>V.ref x.1)++[V.ref r6]))=H34 at s34 eW ⊢
 refine DK (σ':=[Aa (.ref p),Aa (.int (n:Ac)),Aa (.ref B),Aa (.ref b),Aa (.ref mg),Aa (.ref N),Aa (.ref OL),Aa (.ref LK),Aa (.ref lh),Aa (.ref lp),Aa (.int y),Aa (.int (i:Ac)),Aa (.ref B'),Aa (.int (kk:Ac)),Aa (.int (AX (An x.2))),Aa (.ref E0'),Aa (.ref q2),Aa (.ref W),Ag]) rfl ?_
 have s2634:=s2629.trans ((s30.trans s31).trans ((s32.trans s33).trans s34))
 have z34:=z26.trans s2634
 have zW:Bd H34 n W (cs.take kk++(E0',es) :: cs.drop (kk+1)++[(r6,[(q2,q1,[1],v)])]):=by
  refine ⟨by rw [eW];simp only [Bc,BL,Mh,Kz,UM,Va],fun z m=>?_,fun z m=>?_,?_⟩
  ·rcases List.mem_append.mp m with m | m
   ·rcases List.mem_append.mp m with m | m
    ·exact Fv z34 zB.lies z (G2 m)
    ·rcases List.mem_cons.mp m with rfl | m
     ·exact ⟨z34 _ _ zE,zgE.same z34⟩
     ·exact Fv z34 zB.lies z (Mn m)
   ·rw [List.mem_singleton.mp m]
    exact ⟨(s33.trans s34) _ _ er6,fun q qm=>by rw [List.mem_singleton.mp qm];exact ⟨s2634 _ _ q226,s2634 _ _ q126⟩⟩
  ·rcases List.mem_append.mp m with m | m
   ·rcases List.mem_append.mp m with m | m
    ·exact zB.ok z (G2 m)
    ·rcases List.mem_cons.mp m with rfl | m
     ·exact okE
     ·exact zB.ok z (Mn m)
   ·rw [List.mem_singleton.mp m]
    exact ok1
  ·rw [Yz ex lE]
   show _+1<=30
   omega
 have nwd:=Yy (es:=es) (yb:=yb) (ls1:=ls1) (x1:=x1) (r:=(r6,[(q2,q1,[1],v)])) (e':=E0') kcs ed ed26
 have nwl:=BR EE nwd
 rw [Aw,Aw] at nwl
 have nw5:(cs.take kk++(E0',es) :: cs.drop (kk+1)++[(r6,[(q2,q1,[1],v)])]).length<=5:=by
  rw [B9,B9,BA,DP,Hh]
  show _+1<=5
  omega
 have nwk:(cs.take kk++(E0',es) :: cs.drop (kk+1)++[(r6,[(q2,q1,[1],v)])])[kk]?=Aa (E0',es):=by
  rw [Kz,Jj (by rw [DP];omega),DP,OF (by omega),Ho]
  rfl
 have ib34:=ib26.same s2634
 have mg34:=zMg.same z34
 have all3:(AU (as.set kk (yb,es)++[(x1,ls1)])).length<=30:=by
  have:=BR EE (MM nwd)
  unfold An at this
  rw [Aw,Aw] at this
  rw [<- this]
  exact zW.len
 have ok3:∀z∈as.set kk (yb,es)++[(x1,ls1)],Cp n (Bt n) (An z.2):=fun z m=>by
  have:An z.2∈Jk (fun x:Ad × Ls=>An x.2) (cs.take kk++(E0',es) :: cs.drop (kk+1)++[(r6,[(q2,q1,[1],v)])]):=by rw [nwd];exact List.mem_map.mpr ⟨z,m,rfl⟩
  obtain ⟨w',wm,e⟩:=List.mem_map.mp this
  rw [<- e]
  exact zW.ok w' wm
 generalize cs.take kk++(E0',es) :: cs.drop (kk+1)++[(r6,[(q2,q1,[1],v)])]=nw at zW nwd nwl nw5 nwk
 generalize as.set kk (yb,es)++[(x1,ls1)]=as3 at ib26 ib34 nwd nwl all3 ok3
 clear s27 s28 s29 s30 s31 s32 s33 s34 er1 er2 er3 er4 er5 er6 er7 hr1 hr2 hr3 hr4 hr5 hr6 hr7 eW hW s2629 ib26 B26 q126 q226 s2634 ok1 one lt ld'
 subst_eqs
 intro a3 dx3 ha3 hd3 n3
 refine ⟨H34,a3,dx3,mg,wy,b,L,n,y,as3,rfl,Ap,ha3,Kc ha3 hd3 n3,ib34,mg34,n2,n6,ok3,by omega,all3,fun S3 O3 f3' bs3 w3 H35 s35 lk3 pk3 io3 _ _ _ _ _ _ _=>⟨rfl,?_⟩⟩
 rw [<- nwd,<- nwl] at lk3 pk3 io3
 refine DK (σ':=[Aa (.ref p),Aa (.int (n:Ac)),Aa (.ref B),Aa (.ref b),Aa (.ref mg),Aa (.ref N),Aa (.ref OL),Aa (.ref LK),Aa (.ref lh),Aa (.ref lp),Aa (.int y),Aa (.int (i:Ac)),Aa (.ref B'),Aa (.int (kk:Ac)),Aa (.int (AX (An x.2))),Aa (.ref E0'),Aa (.ref q2),Aa (.ref W),Aa (.ref a3)]) rfl ?_
 have zW35:=zW.same s35
 have W35:=zW35.lst
 have lnw:(nw.map fun x=>V.ref x.1).length=nw.length:=Aw _
 have z35:=z34.trans s35
 subst_eqs
 refine ⟨y,nw.length,(by show [_,V.int ((nw.map fun x=>V.ref x.1).length:Ac)]=_;rw [lnw]),by omega,fun o3 H36 ho3 s36 e36=>?_⟩
 subst_eqs
 refine ⟨a3,mg,wy,S3,O3,f3',W,o3,0,n,0,w3,bs3,nw,_,rfl,lk3.same s36,pk3,io3,zW35.same s36,e36,.inl rfl,fun H37 s37=>?_⟩
 have s3537:=s36.trans s37
 have W37:=s3537 _ _ W35
 have z37:=z35.trans s3537
 subst_eqs
 refine ⟨W,_,_,_,rfl,rfl,SqL.of W37,Dv (by rw [Bm,nwk];rfl),?_⟩
 refine ⟨(by show 1<=A5;decide),fun LD hLD=>?_⟩
 have s38:=A2 hLD (.lst [V.ref E0'])
 have eLD:(upd H37 LD (.lst [V.ref E0'])) LD=Aa (.lst [V.ref E0']):=Ap
 generalize upd H37 LD (.lst [V.ref E0'])=H38 at s38 eLD ⊢
 have z38:=z37.trans s38
 refine ⟨LD,[(E0',es)],rfl,eLD,(fun y m=>by rw [List.mem_singleton.mp m];exact ⟨z38 _ _ zE,zgE.same z38⟩),(by show 1<=9;decide),(fun y m=>by rw [List.mem_singleton.mp m];show es.length<=30;omega),fun H39 s39=>?_⟩
 rw [show Lw [(E0',es)]=AX (An es) from Es _,smE]
 have z39:=z38.trans s39
 have LK39:=z39 _ _ zLK
 have OL39:=z39 _ _ zOL
 clear z38 z37 z35 z34 W37 s3537 eLD hLD lk3 pk3 io3 zW35 W35 e36 nwk nwd nwl ib34 mg34 zW
 subst_eqs
 refine ifF (GJ rfl) ?_
 subst_eqs
 refine ⟨a1,mg,wy,S1,O1,f1',B,o1,0,n,0,w1,bs1,cs,_,rfl,zlk1.same z39,pk1,io1,zB.same z39,z39 _ _ zo1,.inl rfl,fun H40 s40=>?_⟩
 have z40:=z39.trans s40
 have LK40:=s40 _ _ LK39
 have OL40:=s40 _ _ OL39
 subst_eqs
 refine ⟨a0,mg,wy,S0,O0,f0',B',o0,k,n,i,s',bs',cs',_,rfl,zlk0.same z40,pk',io',zB'.same z40,z40 _ _ zo0,at',fun H41 s41=>?_⟩
 have z41:=z40.trans s41
 have LK41:=s41 _ _ LK40
 have OL41:=s41 _ _ OL40
 subst_eqs
 refine ⟨a1,mg,wy,S1,O1,f1',B,o1,0,n,0,w1,bs1,cs,_,rfl,zlk1.same z41,pk1,io1,zB.same z41,z41 _ _ zo1,.inl rfl,fun H42 s42=>?_⟩
 have z42:=z41.trans s42
 subst_eqs
 refine ⟨.list ((An lsh).map ld),.list ((An lsh).map ld),.lst (SqL.of (z42 _ _ zlh)) (HX (zgl.same z42)),.lst (SqL.of (z42 _ _ zlp)) (HX (zgl.same z42)),IW _,IW _,?_⟩
 rw [show Mt (.list ((An lsh).map ld)) (.list ((An lsh).map ld))=Af from Nf _]
 exact q _
end
theorem all_mk {l:OO} {w:AA} {K:A6} {h:AC} {mg:Ak->Ay Ah} {fa f1 f2 f3 f4 f5 f6 f7 f8 f9 f10 f11 f12 f13 f14 f15 f16 f17 f18 f19 f20 f21 f22 f23 f24 f25 f26 f27 f28 f29 f30 f31 f32 f33 f34 f35 f36 f37 f38 f39 f40 f41 f42 f43 f44 f45 f46 f47 f48 f49 f50 f51 f52 f53 f54 f55 f56 f57 f58 f59 f60 f61 f62 f63 f64 f65 f66 f67 f68 f69 f70 f71 f72 f73 f74 f75 f76 c_b0 c_c c_b c_bt c_a c_d:Ad} (X:K.In h) (G:h.Ns AH mg) (hfa:mg "law"=Aa (.ref fa))
 {od1 an1 od2 an2 od3 an3 od4 an4 od5 an5 od6 an6 od7 an7 od8 an8 od9 an9 od10 an10 od11 an11 od12 an12 od13 an13 od14 an14 od15 an15 od16 an16 od17 an17 od18 an18 od19 an19 od20 an20 od21 an21 od22 an22 od23 an23 od24 an24 od25 an25 od26 an26 od27 an27 od28 an28 od29 an29 od30 an30 od31 an31 od32 an32 od33 an33 od34 an34 od35 an35 od36 an36 od37 an37 od38 an38 od39 an39 od40 an40 od41 an41 od42 an42 od43 an43 od44 an44 od45 an45 od46 an46 od47 an47 od48 an48 od49 an49 od50 an50 od51 an51 od52 an52 od53 an53 od54 an54 od55 an55 od56 an56 od57 an57 od58 an58 od59 an59 od60 an60 od61 an61 od62 an62 od63 an63 od64 an64 od65 an65 od66 an66 od67 an67 od68 an68 od69 an69 od70 an70 od71 an71 od72 an72 od73 an73 od74 an74 od75 an75 od76 an76:Ay Ad} {sl1 sl2 sl3 sl4 sl5 sl6 sl7 sl8 sl9 sl10 sl11 sl12 sl13 sl14 sl15 sl16 sl17 sl18 sl19 sl20 sl21 sl22 sl23 sl24 sl25 sl26 sl27 sl28 sl29 sl30 sl31 sl32 sl33 sl34 sl35 sl36 sl37 sl38 sl39 sl40 sl41 sl42 sl43 sl44 sl45 sl46 sl47 sl48 sl49 sl50 sl51 sl52 sl53 sl54 sl55 sl56 sl57 sl58 sl59 sl60 sl61 sl62 sl63 sl64 sl65 sl66 sl67 sl68 sl69 sl70 sl71 sl72 sl73 sl74 sl75 sl76:A7 (Ay Ah)} {oc1 kV1 dc1 pm1 cd1 ct1 oc2 kV2 dc2 pm2 cd2 ct2 oc3 kV3 dc3 pm3 cd3 ct3 oc4 kV4 dc4 pm4 cd4 ct4 oc5 kV5 dc5 pm5 cd5 ct5 oc6 kV6 dc6 pm6 cd6 ct6 oc7 kV7 dc7 pm7 cd7 ct7 oc8 kV8 dc8 pm8 cd8 ct8 oc9 kV9 dc9 pm9 cd9 ct9 oc10 kV10 dc10 pm10 cd10 ct10 oc11 kV11 dc11 pm11 cd11 ct11 oc12 kV12 dc12 pm12 cd12 ct12 oc13 kV13 dc13 pm13 cd13 ct13 oc14 kV14 dc14 pm14 cd14 ct14 oc15 kV15 dc15 pm15 cd15 ct15 oc16 kV16 dc16 pm16 cd16 ct16 oc17 kV17 dc17 pm17 cd17 ct17 oc18 kV18 dc18 pm18 cd18 ct18 oc19 kV19 dc19 pm19 cd19 ct19 oc20 kV20 dc20 pm20 cd20 ct20 oc21 kV21 dc21 pm21 cd21 ct21 oc22 kV22 dc22 pm22 cd22 ct22 oc23 kV23 dc23 pm23 cd23 ct23 oc24 kV24 dc24 pm24 cd24 ct24 oc25 kV25 dc25 pm25 cd25 ct25 oc26 kV26 dc26 pm26 cd26 ct26 oc27 kV27 dc27 pm27 cd27 ct27 oc28 kV28 dc28 pm28 cd28 ct28 oc29 kV29 dc29 pm29 cd29 ct29 oc30 kV30 dc30 pm30 cd30 ct30 oc31 kV31 dc31 pm31 cd31 ct31 oc32 kV32 dc32 pm32 cd32 ct32 oc33 kV33 dc33 pm33 cd33 ct33 oc34 kV34 dc34 pm34 cd34 ct34 oc35 kV35 dc35 pm35 cd35 ct35 oc36 kV36 dc36 pm36 cd36 ct36 oc37 kV37 dc37 pm37 cd37 ct37 oc38 kV38 dc38 pm38 cd38 ct38 oc39 kV39 dc39 pm39 cd39 ct39 oc40 kV40 dc40 pm40 cd40 ct40 oc41 kV41 dc41 pm41 cd41 ct41 oc42 kV42 dc42 pm42 cd42 ct42 oc43 kV43 dc43 pm43 cd43 ct43 oc44 kV44 dc44 pm44 cd44 ct44 oc45 kV45 dc45 pm45 cd45 ct45 oc46 kV46 dc46 pm46 cd46 ct46 oc47 kV47 dc47 pm47 cd47 ct47 oc48 kV48 dc48 pm48 cd48 ct48 oc49 kV49 dc49 pm49 cd49 ct49 oc50 kV50 dc50 pm50 cd50 ct50 oc51 kV51 dc51 pm51 cd51 ct51 oc52 kV52 dc52 pm52 cd52 ct52 oc53 kV53 dc53 pm53 cd53 ct53 oc54 kV54 dc54 pm54 cd54 ct54 oc55 kV55 dc55 pm55 cd55 ct55 oc56 kV56 dc56 pm56 cd56 ct56 oc57 kV57 dc57 pm57 cd57 ct57 oc58 kV58 dc58 pm58 cd58 ct58 oc59 kV59 dc59 pm59 cd59 ct59 oc60 kV60 dc60 pm60 cd60 ct60 oc61 kV61 dc61 pm61 cd61 ct61 oc62 kV62 dc62 pm62 cd62 ct62 oc63 kV63 dc63 pm63 cd63 ct63 oc64 kV64 dc64 pm64 cd64 ct64 oc65 kV65 dc65 pm65 cd65 ct65 oc66 kV66 dc66 pm66 cd66 ct66 oc67 kV67 dc67 pm67 cd67 ct67 oc68 kV68 dc68 pm68 cd68 ct68 oc69 kV69 dc69 pm69 cd69 ct69 oc70 kV70 dc70 pm70 cd70 ct70 oc71 kV71 dc71 pm71 cd71 ct71 oc72 kV72 dc72 pm72 cd72 ct72 oc73 kV73 dc73 pm73 cd73 ct73 oc74 kV74 dc74 pm74 cd74 ct74 oc75 kV75 dc75 pm75 cd75 ct75 oc76 kV76 dc76 pm76 cd76 ct76:Ah} {dT54:Ad} {dcl54:Ah} {ddi54:Ay Ad} {dn54:Ae} {dsl54:A7 (Ay Ah)} {dT62:Ad} {dcl62:Ah} {ddi62:Ay Ad} {dn62:Ae} {dsl62:A7 (Ay Ah)} {td_Lists_init2:BX} {t_MOST_BALLOTS t_MOST_RANK t_MOST_HANDS t_MOST_SEATS t_MOST_STEP t_BASE:BX}
 (a1:AZ K AH "is_whole"=Aa (Aa (.ref f1)))
 (l1:K.lookup f1=Aa ⟨oc1,od1,.func (AK "is_whole" "is_whole" (AQ Im) (AJ Im) (Aq Im) .none kV1 dc1 pm1 an1 cd1 ct1),sl1⟩) (c1:AS K cd1 "is_whole"=Af) (k1:AL K (.ref f1)=Af)
 (a2:AZ K AH "divisor"=Aa (Aa (.ref f2)))
 (l2:K.lookup f2=Aa ⟨oc2,od2,.func (AK "divisor" "divisor" (AQ s_s) (AJ s_s) (Aq s_s) .none kV2 dc2 pm2 an2 cd2 ct2),sl2⟩) (c2:AS K cd2 "divisor"=Af) (k2:AL K (.ref f2)=Af)
 (a3:AZ K AH "up"=Aa (Aa (.ref f3)))
 (l3:K.lookup f3=Aa ⟨oc3,od3,.func (AK "up" "up" (AQ II) (AJ II) (Aq II) .none kV3 dc3 pm3 an3 cd3 ct3),sl3⟩) (c3:AS K cd3 "up"=Af) (k3:AL K (.ref f3)=Af)
 (a4:AZ K AH "numbers_by_slip"=Aa (Aa (.ref f4)))
 (l4:K.lookup f4=Aa ⟨oc4,od4,.func (AK "numbers_by_slip" "numbers_by_slip" (AQ Iq) (AJ Iq) (Aq Iq) .none kV4 dc4 pm4 an4 cd4 ct4),sl4⟩) (c4:AS K cd4 "numbers_by_slip"=Af) (k4:AL K (.ref f4)=Af)
 (a5:AZ K AH "sheet_from"=Aa (Aa (.ref f5)))
 (l5:K.lookup f5=Aa ⟨oc5,od5,.func (AK "sheet_from" "sheet_from" (AQ GP) (AJ GP) (Aq GP) .none kV5 dc5 pm5 an5 cd5 ct5),sl5⟩) (c5:AS K cd5 "sheet_from"=Af) (k5:AL K (.ref f5)=Af)
 (a6:AZ K AH "ballots_in"=Aa (Aa (.ref f6)))
 (l6:K.lookup f6=Aa ⟨oc6,od6,.func (AK "ballots_in" "ballots_in" (AQ GX) (AJ GX) (Aq GX) .none kV6 dc6 pm6 an6 cd6 ct6),sl6⟩) (c6:AS K cd6 "ballots_in"=Af) (k6:AL K (.ref f6)=Af)
 (a7:AZ K AH "order_of"=Aa (Aa (.ref f7)))
 (l7:K.lookup f7=Aa ⟨oc7,od7,.func (AK "order_of" "order_of" (AQ IF) (AJ IF) (Aq IF) .none kV7 dc7 pm7 an7 cd7 ct7),sl7⟩) (c7:AS K cd7 "order_of"=Af) (k7:AL K (.ref f7)=Af)
 (a8:AZ K AH "with_one"=Aa (Aa (.ref f8)))
 (l8:K.lookup f8=Aa ⟨oc8,od8,.func (AK "with_one" "with_one" (AQ IK) (AJ IK) (Aq IK) .none kV8 dc8 pm8 an8 cd8 ct8),sl8⟩) (c8:AS K cd8 "with_one"=Af) (k8:AL K (.ref f8)=Af)
 (a9:AZ K AH "members"=Aa (Aa (.ref f9)))
 (l9:K.lookup f9=Aa ⟨oc9,od9,.func (AK "members" "members" (AQ s_v) (AJ s_v) (Aq s_v) .none kV9 dc9 pm9 an9 cd9 ct9),sl9⟩) (c9:AS K cd9 "members"=Af) (k9:AL K (.ref f9)=Af)
 (a10:AZ K AH "seal_of"=Aa (Aa (.ref f10)))
 (l10:K.lookup f10=Aa ⟨oc10,od10,.func (AK "seal_of" "seal_of" (AQ Ir) (AJ Ir) (Aq Ir) .none kV10 dc10 pm10 an10 cd10 ct10),sl10⟩) (c10:AS K cd10 "seal_of"=Af) (k10:AL K (.ref f10)=Af)
 (a11:AZ K AH "place_of"=Aa (Aa (.ref f11)))
 (l11:K.lookup f11=Aa ⟨oc11,od11,.func (AK "place_of" "place_of" (AQ IG) (AJ IG) (Aq IG) .none kV11 dc11 pm11 an11 cd11 ct11),sl11⟩) (c11:AS K cd11 "place_of"=Af) (k11:AL K (.ref f11)=Af)
 (a12:AZ K AH "under"=Aa (Aa (.ref f12)))
 (l12:K.lookup f12=Aa ⟨oc12,od12,.func (AK "under" "under" (AQ IH) (AJ IH) (Aq IH) .none kV12 dc12 pm12 an12 cd12 ct12),sl12⟩) (c12:AS K cd12 "under"=Af) (k12:AL K (.ref f12)=Af)
 (a13:AZ K AH "_law_cell"=Aa (Aa (.ref f13)))
 (l13:K.lookup f13=Aa ⟨oc13,od13,.func (AK "_law_cell" "_law_cell" (AQ IC) (AJ IC) (Aq IC) .none kV13 dc13 pm13 an13 cd13 ct13),sl13⟩) (c13:AS K cd13 "_law_cell"=Af) (k13:AL K (.ref f13)=Af)
 (a14:AZ K AH "_law_mixed"=Aa (Aa (.ref f14)))
 (l14:K.lookup f14=Aa ⟨oc14,od14,.func (AK "_law_mixed" "_law_mixed" (AQ ID) (AJ ID) (Aq ID) .none kV14 dc14 pm14 an14 cd14 ct14),sl14⟩) (c14:AS K cd14 "_law_mixed"=Af) (k14:AL K (.ref f14)=Af)
 (a15:AZ K AH "_law_whole"=Aa (Aa (.ref f15)))
 (l15:K.lookup f15=Aa ⟨oc15,od15,.func (AK "_law_whole" "_law_whole" (AQ Ip) (AJ Ip) (Aq Ip) .none kV15 dc15 pm15 an15 cd15 ct15),sl15⟩) (c15:AS K cd15 "_law_whole"=Af) (k15:AL K (.ref f15)=Af)
 (a16:AZ K AH "_law_sheet"=Aa (Aa (.ref f16)))
 (l16:K.lookup f16=Aa ⟨oc16,od16,.func (AK "_law_sheet" "_law_sheet" (AQ s_o) (AJ s_o) (Aq s_o) .none kV16 dc16 pm16 an16 cd16 ct16),sl16⟩) (c16:AS K cd16 "_law_sheet"=Af) (k16:AL K (.ref f16)=Af)
 (a17:AZ K AH "_law_order"=Aa (Aa (.ref f17)))
 (l17:K.lookup f17=Aa ⟨oc17,od17,.func (AK "_law_order" "_law_order" (AQ HZ) (AJ HZ) (Aq HZ) .none kV17 dc17 pm17 an17 cd17 ct17),sl17⟩) (c17:AS K cd17 "_law_order"=Af) (k17:AL K (.ref f17)=Af)
 (a18:AZ K AH "_law_count"=Aa (Aa (.ref f18)))
 (l18:K.lookup f18=Aa ⟨oc18,od18,.func (AK "_law_count" "_law_count" (AQ Go) (AJ Go) (Aq Go) .none kV18 dc18 pm18 an18 cd18 ct18),sl18⟩) (c18:AS K cd18 "_law_count"=Af) (k18:AL K (.ref f18)=Af)
 (l19:K.lookup f19=Aa ⟨oc19,od19,.func (AK "word" "Look.word" (AQ s_j) (AJ s_j) (Aq s_j) .none kV19 dc19 pm19 an19 cd19 ct19),sl19⟩) (c19:AS K cd19 "Look.word"=Af) (k19:AL K (.ref f19)=Af)
 (l20:K.lookup f20=Aa ⟨oc20,od20,.func (AK "due" "Look.due" (AQ s_i) (AJ s_i) (Aq s_i) .none kV20 dc20 pm20 an20 cd20 ct20),sl20⟩) (c20:AS K cd20 "Look.due"=Af) (k20:AL K (.ref f20)=Af)
 (l21:K.lookup f21=Aa ⟨oc21,od21,.func (AK "many" "Box.many" (AQ s_f) (AJ s_f) (Aq s_f) .none kV21 dc21 pm21 an21 cd21 ct21),sl21⟩) (c21:AS K cd21 "Box.many"=Af) (k21:AL K (.ref f21)=Af)
 (l22:K.lookup f22=Aa ⟨oc22,od22,.func (AK "told_by" "Lists.told_by" (AQ Gp) (AJ Gp) (Aq Gp) .none kV22 dc22 pm22 an22 cd22 ct22),sl22⟩) (c22:AS K cd22 "Lists.told_by"=Af) (k22:AL K (.ref f22)=Af)
 (l23:K.lookup f23=Aa ⟨oc23,od23,.func (AK "__init__" "Margin.__init__" (AQ Iw) (AJ Iw) (Aq Iw) .none kV23 dc23 pm23 an23 cd23 ct23),sl23⟩) (c23:AS K cd23 "Margin.__init__"=Af) (k23:AL K (.ref f23)=Af)
 (l24:K.lookup f24=Aa ⟨oc24,od24,.func (AK "least" "Margin.least" (AQ Iy) (AJ Iy) (Aq Iy) .none kV24 dc24 pm24 an24 cd24 ct24),sl24⟩) (c24:AS K cd24 "Margin.least"=Af) (k24:AL K (.ref f24)=Af)
 (a25:AZ K AH "is_number"=Aa (Aa (.ref f25)))
 (l25:K.lookup f25=Aa ⟨oc25,od25,.func (AK "is_number" "is_number" (AQ IA) (AJ IA) (Aq IA) .none kV25 dc25 pm25 an25 cd25 ct25),sl25⟩) (c25:AS K cd25 "is_number"=Af) (k25:AL K (.ref f25)=Af)
 (a26:AZ K AH "joined"=Aa (Aa (.ref f26)))
 (l26:K.lookup f26=Aa ⟨oc26,od26,.func (AK "joined" "joined" (AQ HY) (AJ HY) (Aq HY) .none kV26 dc26 pm26 an26 cd26 ct26),sl26⟩) (c26:AS K cd26 "joined"=Af) (k26:AL K (.ref f26)=Af)
 (a27:AZ K AH "apart"=Aa (Aa (.ref f27)))
 (l27:K.lookup f27=Aa ⟨oc27,od27,.func (AK "apart" "apart" (AQ GV) (AJ GV) (Aq GV) .none kV27 dc27 pm27 an27 cd27 ct27),sl27⟩) (c27:AS K cd27 "apart"=Af) (k27:AL K (.ref f27)=Af)
 (a28:AZ K AH "is_rank"=Aa (Aa (.ref f28)))
 (l28:K.lookup f28=Aa ⟨oc28,od28,.func (AK "is_rank" "is_rank" (AQ IB) (AJ IB) (Aq IB) .none kV28 dc28 pm28 an28 cd28 ct28),sl28⟩) (c28:AS K cd28 "is_rank"=Af) (k28:AL K (.ref f28)=Af)
 (a29:AZ K AH "tier_at"=Aa (Aa (.ref f29)))
 (l29:K.lookup f29=Aa ⟨oc29,od29,.func (AK "tier_at" "tier_at" (AQ Iu) (AJ Iu) (Aq Iu) .none kV29 dc29 pm29 an29 cd29 ct29),sl29⟩) (c29:AS K cd29 "tier_at"=Af) (k29:AL K (.ref f29)=Af)
 (a30:AZ K AH "ranks_of"=Aa (Aa (.ref f30)))
 (l30:K.lookup f30=Aa ⟨oc30,od30,.func (AK "ranks_of" "ranks_of" (AQ s_l) (AJ s_l) (Aq s_l) .none kV30 dc30 pm30 an30 cd30 ct30),sl30⟩) (c30:AS K cd30 "ranks_of"=Af) (k30:AL K (.ref f30)=Af)
 (a31:AZ K AH "mended"=Aa (Aa (.ref f31)))
 (l31:K.lookup f31=Aa ⟨oc31,od31,.func (AK "mended" "mended" (AQ GO) (AJ GO) (Aq GO) .none kV31 dc31 pm31 an31 cd31 ct31),sl31⟩) (c31:AS K cd31 "mended"=Af) (k31:AL K (.ref f31)=Af)
 (a32:AZ K AH "are_hands"=Aa (Aa (.ref f32)))
 (l32:K.lookup f32=Aa ⟨oc32,od32,.func (AK "are_hands" "are_hands" (AQ Ih) (AJ Ih) (Aq Ih) .none kV32 dc32 pm32 an32 cd32 ct32),sl32⟩) (c32:AS K cd32 "are_hands"=Af) (k32:AL K (.ref f32)=Af)
 (a33:AZ K AH "are_seats"=Aa (Aa (.ref f33)))
 (l33:K.lookup f33=Aa ⟨oc33,od33,.func (AK "are_seats" "are_seats" (AQ Ij) (AJ Ij) (Aq Ij) .none kV33 dc33 pm33 an33 cd33 ct33),sl33⟩) (c33:AS K cd33 "are_seats"=Af) (k33:AL K (.ref f33)=Af)
 (a34:AZ K AH "are_lots"=Aa (Aa (.ref f34)))
 (l34:K.lookup f34=Aa ⟨oc34,od34,.func (AK "are_lots" "are_lots" (AQ Ii) (AJ Ii) (Aq Ii) .none kV34 dc34 pm34 an34 cd34 ct34),sl34⟩) (c34:AS K cd34 "are_lots"=Af) (k34:AL K (.ref f34)=Af)
 (a35:AZ K AH "fraction"=Aa (Aa (.ref f35)))
 (l35:K.lookup f35=Aa ⟨oc35,od35,.func (AK "fraction" "fraction" (AQ Ie) (AJ Ie) (Aq Ie) .none kV35 dc35 pm35 an35 cd35 ct35),sl35⟩) (c35:AS K cd35 "fraction"=Af) (k35:AL K (.ref f35)=Af)
 (a36:AZ K AH "vote_of"=Aa (Aa (.ref f36)))
 (l36:K.lookup f36=Aa ⟨oc36,od36,.func (AK "vote_of" "vote_of" (AQ IJ) (AJ IJ) (Aq IJ) .none kV36 dc36 pm36 an36 cd36 ct36),sl36⟩) (c36:AS K cd36 "vote_of"=Af) (k36:AL K (.ref f36)=Af)
 (a37:AZ K AH "is_hurdle"=Aa (Aa (.ref f37)))
 (l37:K.lookup f37=Aa ⟨oc37,od37,.func (AK "is_hurdle" "is_hurdle" (AQ Ik) (AJ Ik) (Aq Ik) .none kV37 dc37 pm37 an37 cd37 ct37),sl37⟩) (c37:AS K cd37 "is_hurdle"=Af) (k37:AL K (.ref f37)=Af)
 (a38:AZ K AH "is_step"=Aa (Aa (.ref f38)))
 (l38:K.lookup f38=Aa ⟨oc38,od38,.func (AK "is_step" "is_step" (AQ Il) (AJ Il) (Aq Il) .none kV38 dc38 pm38 an38 cd38 ct38),sl38⟩) (c38:AS K cd38 "is_step"=Af) (k38:AL K (.ref f38)=Af)
 (a39:AZ K AH "_law_slip"=Aa (Aa (.ref f39)))
 (l39:K.lookup f39=Aa ⟨oc39,od39,.func (AK "_law_slip" "_law_slip" (AQ IE) (AJ IE) (Aq IE) .none kV39 dc39 pm39 an39 cd39 ct39),sl39⟩) (c39:AS K cd39 "_law_slip"=Af) (k39:AL K (.ref f39)=Af)
 (a40:AZ K AH "_law_same"=Aa (Aa (.ref f40)))
 (l40:K.lookup f40=Aa ⟨oc40,od40,.func (AK "_law_same" "_law_same" (AQ GS) (AJ GS) (Aq GS) .none kV40 dc40 pm40 an40 cd40 ct40),sl40⟩) (c40:AS K cd40 "_law_same"=Af) (k40:AL K (.ref f40)=Af)
 (l41:K.lookup f41=Aa ⟨oc41,od41,.func (AK "unlooked" "Look.unlooked" (AQ s_m) (AJ s_m) (Aq s_m) .none kV41 dc41 pm41 an41 cd41 ct41),sl41⟩) (c41:AS K cd41 "Look.unlooked"=Af) (k41:AL K (.ref f41)=Af)
 (l42:K.lookup f42=Aa ⟨oc42,od42,.func (AK "lines_at" "Box.lines_at" (AQ IL) (AJ IL) (Aq IL) .none kV42 dc42 pm42 an42 cd42 ct42),sl42⟩) (c42:AS K cd42 "Box.lines_at"=Af) (k42:AL K (.ref f42)=Af)
 (l43:K.lookup f43=Aa ⟨oc43,od43,.func (AK "least_votes" "Lists.least_votes" (AQ IP) (AJ IP) (Aq IP) .none kV43 dc43 pm43 an43 cd43 ct43),sl43⟩) (c43:AS K cd43 "Lists.least_votes"=Af) (k43:AL K (.ref f43)=Af)
 (l44:K.lookup f44=Aa ⟨oc44,od44,.func (AK "greatest_mark" "Lists.greatest_mark" (AQ s_y) (AJ s_y) (Aq s_y) .none kV44 dc44 pm44 an44 cd44 ct44),sl44⟩) (c44:AS K cd44 "Lists.greatest_mark"=Af) (k44:AL K (.ref f44)=Af)
 (l45:K.lookup f45=Aa ⟨oc45,od45,.func (AK "possible" "Margin.possible" (AQ IT) (AJ IT) (Aq IT) .none kV45 dc45 pm45 an45 cd45 ct45),sl45⟩) (c45:AS K cd45 "Margin.possible"=Af) (k45:AL K (.ref f45)=Af)
 (l46:K.lookup f46=Aa ⟨oc46,od46,.func (AK "sure_low" "Margin.sure_low" (AQ Ib) (AJ Ib) (Aq Ib) .none kV46 dc46 pm46 an46 cd46 ct46),sl46⟩) (c46:AS K cd46 "Margin.sure_low"=Af) (k46:AL K (.ref f46)=Af)
 (a47:AZ K AH "sheet_of"=Aa (Aa (.ref f47)))
 (l47:K.lookup f47=Aa ⟨oc47,od47,.func (AK "sheet_of" "sheet_of" (AQ Ia) (AJ Ia) (Aq Ia) .none kV47 dc47 pm47 an47 cd47 ct47),sl47⟩) (c47:AS K cd47 "sheet_of"=Af) (k47:AL K (.ref f47)=Af)
 (a48:AZ K AH "are_ranks"=Aa (Aa (.ref f48)))
 (l48:K.lookup f48=Aa ⟨oc48,od48,.func (AK "are_ranks" "are_ranks" (AQ GW) (AJ GW) (Aq GW) .none kV48 dc48 pm48 an48 cd48 ct48),sl48⟩) (c48:AS K cd48 "are_ranks"=Af) (k48:AL K (.ref f48)=Af)
 (a49:AZ K AH "code_of"=Aa (Aa (.ref f49)))
 (l49:K.lookup f49=Aa ⟨oc49,od49,.func (AK "code_of" "code_of" (AQ Iz) (AJ Iz) (Aq Iz) .none kV49 dc49 pm49 an49 cd49 ct49),sl49⟩) (c49:AS K cd49 "code_of"=Af) (k49:AL K (.ref f49)=Af)
 (a50:AZ K AH "votes_of"=Aa (Aa (.ref f50)))
 (l50:K.lookup f50=Aa ⟨oc50,od50,.func (AK "votes_of" "votes_of" (AQ s_r) (AJ s_r) (Aq s_r) .none kV50 dc50 pm50 an50 cd50 ct50),sl50⟩) (c50:AS K cd50 "votes_of"=Af) (k50:AL K (.ref f50)=Af)
 (a51:AZ K AH "_law_bundles"=Aa (Aa (.ref f51)))
 (l51:K.lookup f51=Aa ⟨oc51,od51,.func (AK "_law_bundles" "_law_bundles" (AQ s_u) (AJ s_u) (Aq s_u) .none kV51 dc51 pm51 an51 cd51 ct51),sl51⟩) (c51:AS K cd51 "_law_bundles"=Af) (k51:AL K (.ref f51)=Af)
 (a52:AZ K AH "_law_found"=Aa (Aa (.ref f52)))
 (l52:K.lookup f52=Aa ⟨oc52,od52,.func (AK "_law_found" "_law_found" (AQ Io) (AJ Io) (Aq Io) .none kV52 dc52 pm52 an52 cd52 ct52),sl52⟩) (c52:AS K cd52 "_law_found"=Af) (k52:AL K (.ref f52)=Af)
 (l53:K.lookup f53=Aa ⟨oc53,od53,.func (AK "known" "Look.known" (AQ s_g) (AJ s_g) (Aq s_g) .none kV53 dc53 pm53 an53 cd53 ct53),sl53⟩) (c53:AS K cd53 "Look.known"=Af) (k53:AL K (.ref f53)=Af)
 (l54:K.lookup f54=Aa ⟨oc54,od54,.func (AK "__init__" "Way.__init__" (AQ s_k) (AJ s_k) (Aq s_k) (.ref dT54) kV54 dc54 pm54 an54 cd54 ct54),sl54⟩) (c54:AS K cd54 "Way.__init__"=Af) (k54:AL K (.ref f54)=Af)
 (dl54:K.lookup dT54=Aa ⟨dcl54,ddi54,.seq #[.none] dn54,dsl54⟩)
 (l55:K.lookup f55=Aa ⟨oc55,od55,.func (AK "__init__" "Box.__init__" (AQ Iv) (AJ Iv) (Aq Iv) .none kV55 dc55 pm55 an55 cd55 ct55),sl55⟩) (c55:AS K cd55 "Box.__init__"=Af) (k55:AL K (.ref f55)=Af)
 (l56:K.lookup f56=Aa ⟨oc56,od56,.func (AK "mark" "Lists.mark" (AQ IQ) (AJ IQ) (Aq IQ) .none kV56 dc56 pm56 an56 cd56 ct56),sl56⟩) (c56:AS K cd56 "Lists.mark"=Af) (k56:AL K (.ref f56)=Af)
 (l57:K.lookup f57=Aa ⟨oc57,od57,.func (AK "held" "Margin.held" (AQ IS) (AJ IS) (Aq IS) .none kV57 dc57 pm57 an57 cd57 ct57),sl57⟩) (c57:AS K cd57 "Margin.held"=Af) (k57:AL K (.ref f57)=Af)
 (a58:AZ K AH "slip_of"=Aa (Aa (.ref f58)))
 (l58:K.lookup f58=Aa ⟨oc58,od58,.func (AK "slip_of" "slip_of" (AQ GQ) (AJ GQ) (Aq GQ) .none kV58 dc58 pm58 an58 cd58 ct58),sl58⟩) (c58:AS K cd58 "slip_of"=Af) (k58:AL K (.ref f58)=Af)
 (a59:AZ K AH "_law_stands"=Aa (Aa (.ref f59)))
 (l59:K.lookup f59=Aa ⟨oc59,od59,.func (AK "_law_stands" "_law_stands" (AQ s_p) (AJ s_p) (Aq s_p) .none kV59 dc59 pm59 an59 cd59 ct59),sl59⟩) (c59:AS K cd59 "_law_stands"=Af) (k59:AL K (.ref f59)=Af)
 (l60:K.lookup f60=Aa ⟨oc60,od60,.func (AK "sheet_at" "Box.sheet_at" (AQ IM) (AJ IM) (Aq IM) .none kV60 dc60 pm60 an60 cd60 ct60),sl60⟩) (c60:AS K cd60 "Box.sheet_at"=Af) (k60:AL K (.ref f60)=Af)
 (l61:K.lookup f61=Aa ⟨oc61,od61,.func (AK "sheet" "Box.sheet" (AQ s_x) (AJ s_x) (Aq s_x) .none kV61 dc61 pm61 an61 cd61 ct61),sl61⟩) (c61:AS K cd61 "Box.sheet"=Af) (k61:AL K (.ref f61)=Af)
 (l62:K.lookup f62=Aa ⟨oc62,od62,.func (AK "__init__" "Lists.__init__" (AQ s_z) (AJ s_z) (Aq s_z) (.ref dT62) kV62 dc62 pm62 an62 cd62 ct62),sl62⟩) (c62:AS K cd62 "Lists.__init__"=Af) (k62:AL K (.ref f62)=Af)
 (dl62:K.lookup dT62=Aa ⟨dcl62,ddi62,.seq #[.none,.none,.int (1) td_Lists_init2] dn62,dsl62⟩)
 (l63:K.lookup f63=Aa ⟨oc63,od63,.func (AK "mark_or_none" "Lists.mark_or_none" (AQ IR) (AJ IR) (Aq IR) .none kV63 dc63 pm63 an63 cd63 ct63),sl63⟩) (c63:AS K cd63 "Lists.mark_or_none"=Af) (k63:AL K (.ref f63)=Af)
 (a64:AZ K AH "line_of"=Aa (Aa (.ref f64)))
 (l64:K.lookup f64=Aa ⟨oc64,od64,.func (AK "line_of" "line_of" (AQ H_) (AJ H_) (Aq H_) .none kV64 dc64 pm64 an64 cd64 ct64),sl64⟩) (c64:AS K cd64 "line_of"=Af) (k64:AL K (.ref f64)=Af)
 (l65:K.lookup f65=Aa ⟨oc65,od65,.func (AK "put_right" "Box.put_right" (AQ s_w) (AJ s_w) (Aq s_w) .none kV65 dc65 pm65 an65 cd65 ct65),sl65⟩) (c65:AS K cd65 "Box.put_right"=Af) (k65:AL K (.ref f65)=Af)
 (l66:K.lookup f66=Aa ⟨oc66,od66,.func (AK "marks_of" "Lists.marks_of" (AQ GR) (AJ GR) (Aq GR) .none kV66 dc66 pm66 an66 cd66 ct66),sl66⟩) (c66:AS K cd66 "Lists.marks_of"=Af) (k66:AL K (.ref f66)=Af)
 (l67:K.lookup f67=Aa ⟨oc67,od67,.func (AK "take" "Box.take" (AQ GT) (AJ GT) (Aq GT) .none kV67 dc67 pm67 an67 cd67 ct67),sl67⟩) (c67:AS K cd67 "Box.take"=Af) (k67:AL K (.ref f67)=Af)
 (l68:K.lookup f68=Aa ⟨oc68,od68,.func (AK "rounds_of" "Lists.rounds_of" (AQ GU) (AJ GU) (Aq GU) .none kV68 dc68 pm68 an68 cd68 ct68),sl68⟩) (c68:AS K cd68 "Lists.rounds_of"=Af) (k68:AL K (.ref f68)=Af)
 (a69:AZ K AH "_law_box"=Aa (Aa (.ref f69)))
 (l69:K.lookup f69=Aa ⟨oc69,od69,.func (AK "_law_box" "_law_box" (AQ s_t) (AJ s_t) (Aq s_t) .none kV69 dc69 pm69 an69 cd69 ct69),sl69⟩) (c69:AS K cd69 "_law_box"=Af) (k69:AL K (.ref f69)=Af)
 (l70:K.lookup f70=Aa ⟨oc70,od70,.func (AK "counted" "Lists.counted" (AQ IN) (AJ IN) (Aq IN) .none kV70 dc70 pm70 an70 cd70 ct70),sl70⟩) (c70:AS K cd70 "Lists.counted"=Af) (k70:AL K (.ref f70)=Af)
 (l71:K.lookup f71=Aa ⟨oc71,od71,.func (AK "outcome" "Way.outcome" (AQ IU) (AJ IU) (Aq IU) .none kV71 dc71 pm71 an71 cd71 ct71),sl71⟩) (c71:AS K cd71 "Way.outcome"=Af) (k71:AL K (.ref f71)=Af)
 (l72:K.lookup f72=Aa ⟨oc72,od72,.func (AK "word_now" "Look.word_now" (AQ s_n) (AJ s_n) (Aq s_n) .none kV72 dc72 pm72 an72 cd72 ct72),sl72⟩) (c72:AS K cd72 "Look.word_now"=Af) (k72:AL K (.ref f72)=Af)
 (l73:K.lookup f73=Aa ⟨oc73,od73,.func (AK "__init__" "Look.__init__" (AQ s_h) (AJ s_h) (Aq s_h) .none kV73 dc73 pm73 an73 cd73 ct73),sl73⟩) (c73:AS K cd73 "Look.__init__"=Af) (k73:AL K (.ref f73)=Af)
 (l74:K.lookup f74=Aa ⟨oc74,od74,.func (AK "found" "Look.found" (AQ Ig) (AJ Ig) (Aq Ig) .none kV74 dc74 pm74 an74 cd74 ct74),sl74⟩) (c74:AS K cd74 "Look.found"=Af) (k74:AL K (.ref f74)=Af)
 (a75:AZ K AH "_law_walked"=Aa (Aa (.ref f75)))
 (l75:K.lookup f75=Aa ⟨oc75,od75,.func (AK "_law_walked" "_law_walked" (AQ s_q) (AJ s_q) (Aq s_q) .none kV75 dc75 pm75 an75 cd75 ct75),sl75⟩) (c75:AS K cd75 "_law_walked"=Af) (k75:AL K (.ref f75)=Af)
 (a76:AZ K AH "law"=Aa (Aa (.ref f76)))
 (l76:K.lookup f76=Aa ⟨oc76,od76,.func (AK "law" "law" (AQ s_e) (AJ s_e) (Aq s_e) .none kV76 dc76 pm76 an76 cd76 ct76),sl76⟩) (c76:AS K cd76 "law"=Af) (k76:AL K (.ref f76)=Af)
 (z0:AZ K AH "abs"=Aa Ag)
 (z1:AZ K AH "all"=Aa Ag)
 (z2:AZ K AH "bool"=Aa Ag)
 (z3:AZ K AH "enumerate"=Aa Ag)
 (z4:AZ K AH "int"=Aa Ag)
 (z5:AZ K AH "isinstance"=Aa Ag)
 (z6:AZ K AH "len"=Aa Ag)
 (z7:AZ K AH "list"=Aa Ag)
 (z8:AZ K AH "max"=Aa Ag)
 (z9:AZ K AH "min"=Aa Ag)
 (z10:AZ K AH "range"=Aa Ag)
 (z11:AZ K AH "reversed"=Aa Ag)
 (z12:AZ K AH "set"=Aa Ag)
 (z13:AZ K AH "sorted"=Aa Ag)
 (z14:AZ K AH "sum"=Aa Ag)
 (z15:AZ K AH "tuple"=Aa Ag)
 (kc_MOST_BALLOTS:AZ K AH "MOST_BALLOTS"=Aa (Aa (.int 1000000000 t_MOST_BALLOTS)))
 (kc_MOST_RANK:AZ K AH "MOST_RANK"=Aa (Aa (.int 1000000000 t_MOST_RANK)))
 (kc_MOST_HANDS:AZ K AH "MOST_HANDS"=Aa (Aa (.int 12 t_MOST_HANDS)))
 (kc_MOST_SEATS:AZ K AH "MOST_SEATS"=Aa (Aa (.int 60 t_MOST_SEATS)))
 (kc_MOST_STEP:AZ K AH "MOST_STEP"=Aa (Aa (.int 9 t_MOST_STEP)))
 (kc_BASE:AZ K AH "BASE"=Aa (Aa (.int 13 t_BASE)))
 (mc_TooHard:AZ K AH "TooHard"=Aa (Aa (.ref c_b0))) (ty_TooHard:OW K (.ref c_b0)=Aa (.type "type")) (be_TooHard:M0 K c_b0 (.type "BaseException")=Aa Af)
 (mc_Box:AZ K AH "Box"=Aa (Aa (.ref c_c))) (pg_Box:FW K c_c Jw=Af) (hd_Box:FV K c_c=Af) (po_Box:Hq K c_c=Af) (sa_Box:Bf K (.ref c_c) "__setattr__"=Aa (Aa (.builtin "object.__setattr__")))
 (mm_Box:Ju K c_c=Af) (mi_Box:Bf K (.ref c_c) "__init__"=Aa (Aa (.ref f55))) (mf_Box:BN K (.ref f55)=Af) (mk_c:AL K (.ref c_c)=Af)
 (ma_Box_many:Bf K (.ref c_c) "many"=Aa (Aa (.ref f21))) (mn_Box_many:BN K (.ref f21)=Af)
 (ma_Box_take:Bf K (.ref c_c) "take"=Aa (Aa (.ref f67))) (mn_Box_take:BN K (.ref f67)=Af)
 (ma_Box_lines_at:Bf K (.ref c_c) "lines_at"=Aa (Aa (.ref f42))) (mn_Box_lines_at:BN K (.ref f42)=Af)
 (ma_Box_sheet_at:Bf K (.ref c_c) "sheet_at"=Aa (Aa (.ref f60))) (mn_Box_sheet_at:BN K (.ref f60)=Af)
 (ma_Box_sheet:Bf K (.ref c_c) "sheet"=Aa (Aa (.ref f61))) (mn_Box_sheet:BN K (.ref f61)=Af)
 (ma_Box_put_right:Bf K (.ref c_c) "put_right"=Aa (Aa (.ref f65))) (mn_Box_put_right:BN K (.ref f65)=Af)
 (na_c_bv:Bf K (.ref c_c) "hands"=Aa Ag)
 (na_c_b1:Bf K (.ref c_c) "bundles"=Aa Ag)
 (mc_Lists:AZ K AH "Lists"=Aa (Aa (.ref c_b))) (pg_Lists:FW K c_b Jw=Af) (hd_Lists:FV K c_b=Af) (po_Lists:Hq K c_b=Af) (sa_Lists:Bf K (.ref c_b) "__setattr__"=Aa (Aa (.builtin "object.__setattr__")))
 (mm_Lists:Ju K c_b=Af) (mi_Lists:Bf K (.ref c_b) "__init__"=Aa (Aa (.ref f62))) (mf_Lists:BN K (.ref f62)=Af) (mk_b:AL K (.ref c_b)=Af)
 (ma_Lists_least_votes:Bf K (.ref c_b) "least_votes"=Aa (Aa (.ref f43))) (mn_Lists_least_votes:BN K (.ref f43)=Af)
 (ma_Lists_mark:Bf K (.ref c_b) "mark"=Aa (Aa (.ref f56))) (mn_Lists_mark:BN K (.ref f56)=Af)
 (ma_Lists_mark_or_none:Bf K (.ref c_b) "mark_or_none"=Aa (Aa (.ref f63))) (mn_Lists_mark_or_none:BN K (.ref f63)=Af)
 (ma_Lists_marks_of:Bf K (.ref c_b) "marks_of"=Aa (Aa (.ref f66))) (mn_Lists_marks_of:BN K (.ref f66)=Af)
 (ma_Lists_greatest_mark:Bf K (.ref c_b) "greatest_mark"=Aa (Aa (.ref f44))) (mn_Lists_greatest_mark:BN K (.ref f44)=Af)
 (ma_Lists_rounds_of:Bf K (.ref c_b) "rounds_of"=Aa (Aa (.ref f68))) (mn_Lists_rounds_of:BN K (.ref f68)=Af)
 (ma_Lists_counted:Bf K (.ref c_b) "counted"=Aa (Aa (.ref f70))) (mn_Lists_counted:BN K (.ref f70)=Af)
 (ma_Lists_told_by:Bf K (.ref c_b) "told_by"=Aa (Aa (.ref f22))) (mn_Lists_told_by:BN K (.ref f22)=Af)
 (ma_Lists_outcome:Bf K (.ref c_b) "outcome"=Aa (Aa (.ref f71))) (mn_Lists_outcome:BN K (.ref f71)=Af)
 (na_b_bv:Bf K (.ref c_b) "hands"=Aa Ag)
 (na_b_ca:Bf K (.ref c_b) "seats"=Aa Ag)
 (na_b_cc:Bf K (.ref c_b) "lots"=Aa Ag)
 (na_b_b8:Bf K (.ref c_b) "hurdle"=Aa Ag)
 (na_b_cd:Bf K (.ref c_b) "step"=Aa Ag)
 (mc_Way:AZ K AH "Way"=Aa (Aa (.ref c_bt))) (pg_Way:FW K c_bt Jw=Af) (hd_Way:FV K c_bt=Af) (po_Way:Hq K c_bt=Af) (sa_Way:Bf K (.ref c_bt) "__setattr__"=Aa (Aa (.builtin "object.__setattr__")))
 (cs_Way:OU K (.ref c_bt) "__getattribute__"=Aa (Aa (.builtin "type.__getattribute__"))) (cr_Way:VA K c_bt (.type "type")=Af)
 (ca_Way_init__:V4 K (.ref c_bt) (.type "type") "__init__"=Aa (.val (.ref f54)))
 (mc_Look:AZ K AH "Look"=Aa (Aa (.ref c_a))) (pg_Look:FW K c_a Jw=Af) (hd_Look:FV K c_a=Af) (po_Look:Hq K c_a=Af) (sa_Look:Bf K (.ref c_a) "__setattr__"=Aa (Aa (.builtin "object.__setattr__")))
 (mm_Look:Ju K c_a=Af) (mi_Look:Bf K (.ref c_a) "__init__"=Aa (Aa (.ref f73))) (mf_Look:BN K (.ref f73)=Af) (mk_a:AL K (.ref c_a)=Af)
 (ma_Look_unlooked:Bf K (.ref c_a) "unlooked"=Aa (Aa (.ref f41))) (mn_Look_unlooked:BN K (.ref f41)=Af)
 (ma_Look_known:Bf K (.ref c_a) "known"=Aa (Aa (.ref f53))) (mn_Look_known:BN K (.ref f53)=Af)
 (ma_Look_word_now:Bf K (.ref c_a) "word_now"=Aa (Aa (.ref f72))) (mn_Look_word_now:BN K (.ref f72)=Af)
 (ma_Look_word:Bf K (.ref c_a) "word"=Aa (Aa (.ref f19))) (mn_Look_word:BN K (.ref f19)=Af)
 (ma_Look_due:Bf K (.ref c_a) "due"=Aa (Aa (.ref f20))) (mn_Look_due:BN K (.ref f20)=Af)
 (ma_Look_found:Bf K (.ref c_a) "found"=Aa (Aa (.ref f74))) (mn_Look_found:BN K (.ref f74)=Af)
 (na_a_b9:Bf K (.ref c_a) "margin"=Aa Ag)
 (na_a_b4:Bf K (.ref c_a) "sheets"=Aa Ag)
 (na_a_b7:Bf K (.ref c_a) "order"=Aa Ag)
 (na_a_b2:Bf K (.ref c_a) "looked"=Aa Ag)
 (na_a_cb:Bf K (.ref c_a) "first"=Aa Ag)
 (na_a_b3:Bf K (.ref c_a) "said"=Aa Ag)
 (mc_Margin:AZ K AH "Margin"=Aa (Aa (.ref c_d))) (pg_Margin:FW K c_d Jw=Af) (hd_Margin:FV K c_d=Af) (po_Margin:Hq K c_d=Af) (sa_Margin:Bf K (.ref c_d) "__setattr__"=Aa (Aa (.builtin "object.__setattr__")))
 (mm_Margin:Ju K c_d=Af) (mi_Margin:Bf K (.ref c_d) "__init__"=Aa (Aa (.ref f23))) (mf_Margin:BN K (.ref f23)=Af) (mk_d:AL K (.ref c_d)=Af)
 (ma_Margin_possible:Bf K (.ref c_d) "possible"=Aa (Aa (.ref f45))) (mn_Margin_possible:BN K (.ref f45)=Af)
 (ma_Margin_least:Bf K (.ref c_d) "least"=Aa (Aa (.ref f24))) (mn_Margin_least:BN K (.ref f24)=Af)
 (ma_Margin_held:Bf K (.ref c_d) "held"=Aa (Aa (.ref f57))) (mn_Margin_held:BN K (.ref f57)=Af)
 (ma_Margin_sure_low:Bf K (.ref c_d) "sure_low"=Aa (Aa (.ref f46))) (mn_Margin_sure_low:BN K (.ref f46)=Af)
 (na_d_b5:Bf K (.ref c_d) "way"=Aa Ag) :
 ∃fd:AE,(∀(s:Ai) (v:Ah),Jc s fd ⟨[v],[]⟩ [("_law_script",v)])/\∀base:AC,K.In base->base.Ns AH mg->AG l.prog w K mg base CX0 12 fa fd ["_law_script"] (Kd K):=by
 have e:=hfa.symm.trans (Bg X G a76)
 cases e
 have F1:=AY (st:=Im) l1 c1 k1
 have b1:=F1.binds (ps:=["thing"]) fun _ _ _ _ _ _ us hl=>match us,hl with | [_],_=>rfl
 have F2:=AY (st:=s_s) l2 c2 k2
 have b2:=F2.binds (ps:=["one","other"]) fun _ _ _ _ _ _ us hl=>match us,hl with | [_,_],_=>rfl
 have F3:=AY (st:=II) l3 c3 k3
 have b3:=F3.binds (ps:=["top","bottom"]) fun _ _ _ _ _ _ us hl=>match us,hl with | [_,_],_=>rfl
 have F4:=AY (st:=Iq) l4 c4 k4
 have b4:=F4.binds (ps:=["lines"]) fun _ _ _ _ _ _ us hl=>match us,hl with | [_],_=>rfl
 have F5:=AY (st:=GP) l5 c5 k5
 have b5:=F5.binds (ps:=["numbers"]) fun _ _ _ _ _ _ us hl=>match us,hl with | [_],_=>rfl
 have F6:=AY (st:=GX) l6 c6 k6
 have b6:=F6.binds (ps:=["sheet"]) fun _ _ _ _ _ _ us hl=>match us,hl with | [_],_=>rfl
 have F7:=AY (st:=IF) l7 c7 k7
 have b7:=F7.binds (ps:=["number","many"]) fun _ _ _ _ _ _ us hl=>match us,hl with | [_,_],_=>rfl
 have F8:=AY (st:=IK) l8 c8 k8
 have b8:=F8.binds (ps:=["mask","hand"]) fun _ _ _ _ _ _ us hl=>match us,hl with | [_,_],_=>rfl
 have F9:=AY (st:=s_v) l9 c9 k9
 have b9:=F9.binds (ps:=["mask"]) fun _ _ _ _ _ _ us hl=>match us,hl with | [_],_=>rfl
 have F10:=AY (st:=Ir) l10 c10 k10
 have b10:=F10.binds (ps:=["codes"]) fun _ _ _ _ _ _ us hl=>match us,hl with | [_],_=>rfl
 have F11:=AY (st:=IG) l11 c11 k11
 have b11:=F11.binds (ps:=["lacks","many"]) fun _ _ _ _ _ _ us hl=>match us,hl with | [_,_],_=>rfl
 have F12:=AY (st:=IH) l12 c12 k12
 have b12:=F12.binds (ps:=["one","other"]) fun _ _ _ _ _ _ us hl=>match us,hl with | [_,_],_=>rfl
 have F13:=AY (st:=IC) l13 c13 k13
 have b13:=F13.binds (ps:=["_law_script","_law_k"]) fun _ _ _ _ _ _ us hl=>match us,hl with | [_,_],_=>rfl
 have F14:=AY (st:=ID) l14 c14 k14
 have b14:=F14.binds (ps:=["_law_cell_here","_law_by"]) fun _ _ _ _ _ _ us hl=>match us,hl with | [_,_],_=>rfl
 have F15:=AY (st:=Ip) l15 c15 k15
 have b15:=F15.binds (ps:=["_law_found_here"]) fun _ _ _ _ _ _ us hl=>match us,hl with | [_],_=>rfl
 have F16:=AY (st:=s_o) l16 c16 k16
 have b16:=F16.binds (ps:=["_law_bundles_here"]) fun _ _ _ _ _ _ us hl=>match us,hl with | [_],_=>rfl
 have F17:=AY (st:=HZ) l17 c17 k17
 have b17:=F17.binds (ps:=["_law_number","_law_many"]) fun _ _ _ _ _ _ us hl=>match us,hl with | [_,_],_=>rfl
 have F18:=AY (st:=Go) l18 c18 k18
 have b18:=F18.binds (ps:=["_law_bundles_here"]) fun _ _ _ _ _ _ us hl=>match us,hl with | [_],_=>rfl
 have F19:=AY (st:=s_j) l19 c19 k19
 have b19:=F19.binds (ps:=["self"]) fun _ _ _ _ _ _ us hl=>match us,hl with | [_],_=>rfl
 have F20:=AY (st:=s_i) l20 c20 k20
 have b20:=F20.binds (ps:=["self"]) fun _ _ _ _ _ _ us hl=>match us,hl with | [_],_=>rfl
 have F21:=AY (st:=s_f) l21 c21 k21
 have b21:=F21.binds (ps:=["self"]) fun _ _ _ _ _ _ us hl=>match us,hl with | [_],_=>rfl
 have F22:=AY (st:=Gp) l22 c22 k22
 have b22:=F22.binds (ps:=["self","paper"]) fun _ _ _ _ _ _ us hl=>match us,hl with | [_,_],_=>rfl
 have F23:=AY (st:=Iw) l23 c23 k23
 have b23:=F23.binds (ps:=["self","way"]) fun _ _ _ _ _ _ us hl=>match us,hl with | [_,_],_=>rfl
 have F24:=AY (st:=Iy) l24 c24 k24
 have b24:=F24.binds (ps:=["self","sheet"]) fun _ _ _ _ _ _ us hl=>match us,hl with | [_,_],_=>rfl
 have F25:=AY (st:=IA) l25 c25 k25
 have b25:=F25.binds (ps:=["thing"]) fun _ _ _ _ _ _ us hl=>match us,hl with | [_],_=>rfl
 have F26:=AY (st:=HY) l26 c26 k26
 have b26:=F26.binds (ps:=["sheets"]) fun _ _ _ _ _ _ us hl=>match us,hl with | [_],_=>rfl
 have F27:=AY (st:=GV) l27 c27 k27
 have b27:=F27.binds (ps:=["one","other"]) fun _ _ _ _ _ _ us hl=>match us,hl with | [_,_],_=>rfl
 have F28:=AY (st:=IB) l28 c28 k28
 have b28:=F28.binds (ps:=["thing"]) fun _ _ _ _ _ _ us hl=>match us,hl with | [_],_=>rfl
 have F29:=AY (st:=Iu) l29 c29 k29
 have b29:=F29.binds (ps:=["ranks","wanted"]) fun _ _ _ _ _ _ us hl=>match us,hl with | [_,_],_=>rfl
 have F30:=AY (st:=s_l) l30 c30 k30
 have b30:=F30.binds (ps:=["slip","hands"]) fun _ _ _ _ _ _ us hl=>match us,hl with | [_,_],_=>rfl
 have F31:=AY (st:=GO) l31 c31 k31
 have b31:=F31.binds (ps:=["codes","seal"]) fun _ _ _ _ _ _ us hl=>match us,hl with | [_,_],_=>rfl
 have F32:=AY (st:=Ih) l32 c32 k32
 have b32:=F32.binds (ps:=["thing"]) fun _ _ _ _ _ _ us hl=>match us,hl with | [_],_=>rfl
 have F33:=AY (st:=Ij) l33 c33 k33
 have b33:=F33.binds (ps:=["thing"]) fun _ _ _ _ _ _ us hl=>match us,hl with | [_],_=>rfl
 have F34:=AY (st:=Ii) l34 c34 k34
 have b34:=F34.binds (ps:=["thing","hands"]) fun _ _ _ _ _ _ us hl=>match us,hl with | [_,_],_=>rfl
 have F35:=AY (st:=Ie) l35 c35 k35
 have b35:=F35.binds (ps:=["top","bottom"]) fun _ _ _ _ _ _ us hl=>match us,hl with | [_,_],_=>rfl
 have F36:=AY (st:=IJ) l36 c36 k36
 have b36:=F36.binds (ps:=["slip"]) fun _ _ _ _ _ _ us hl=>match us,hl with | [_],_=>rfl
 have F37:=AY (st:=Ik) l37 c37 k37
 have b37:=F37.binds (ps:=["thing"]) fun _ _ _ _ _ _ us hl=>match us,hl with | [_],_=>rfl
 have F38:=AY (st:=Il) l38 c38 k38
 have b38:=F38.binds (ps:=["thing"]) fun _ _ _ _ _ _ us hl=>match us,hl with | [_],_=>rfl
 have F39:=AY (st:=IE) l39 c39 k39
 have b39:=F39.binds (ps:=["_law_cell_here","_law_hands"]) fun _ _ _ _ _ _ us hl=>match us,hl with | [_,_],_=>rfl
 have F40:=AY (st:=GS) l40 c40 k40
 have b40:=F40.binds (ps:=["_law_found_here","_law_due"]) fun _ _ _ _ _ _ us hl=>match us,hl with | [_,_],_=>rfl
 have F41:=AY (st:=s_m) l41 c41 k41
 have b41:=F41.binds (ps:=["self"]) fun _ _ _ _ _ _ us hl=>match us,hl with | [_],_=>rfl
 have F42:=AY (st:=IL) l42 c42 k42
 have b42:=F42.binds (ps:=["self","k"]) fun _ _ _ _ _ _ us hl=>match us,hl with | [_,_],_=>rfl
 have F43:=AY (st:=IP) l43 c43 k43
 have b43:=F43.binds (ps:=["self","ballots"]) fun _ _ _ _ _ _ us hl=>match us,hl with | [_,_],_=>rfl
 have F44:=AY (st:=s_y) l44 c44 k44
 have b44:=F44.binds (ps:=["self","marks"]) fun _ _ _ _ _ _ us hl=>match us,hl with | [_,_],_=>rfl
 have F45:=AY (st:=IT) l45 c45 k45
 have b45:=F45.binds (ps:=["self","sheet"]) fun _ _ _ _ _ _ us hl=>match us,hl with | [_,_],_=>rfl
 have F46:=AY (st:=Ib) l46 c46 k46
 have b46:=F46.binds (ps:=["self","sheet"]) fun _ _ _ _ _ _ us hl=>match us,hl with | [_,_],_=>rfl
 have F47:=AY (st:=Ia) l47 c47 k47
 have b47:=F47.binds (ps:=["lines"]) fun _ _ _ _ _ _ us hl=>match us,hl with | [_],_=>rfl
 have F48:=AY (st:=GW) l48 c48 k48
 have b48:=F48.binds (ps:=["thing","hands"]) fun _ _ _ _ _ _ us hl=>match us,hl with | [_,_],_=>rfl
 have F49:=AY (st:=Iz) l49 c49 k49
 have b49:=F49.binds (ps:=["line","hands"]) fun _ _ _ _ _ _ us hl=>match us,hl with | [_,_],_=>rfl
 have F50:=AY (st:=s_r) l50 c50 k50
 have b50:=F50.binds (ps:=["sheet","hands"]) fun _ _ _ _ _ _ us hl=>match us,hl with | [_,_],_=>rfl
 have F51:=AY (st:=s_u) l51 c51 k51
 have b51:=F51.binds (ps:=["_law_script","_law_hands"]) fun _ _ _ _ _ _ us hl=>match us,hl with | [_,_],_=>rfl
 have F52:=AY (st:=Io) l52 c52 k52
 have b52:=F52.binds (ps:=["_law_lines","_law_cell_here","_law_hands"]) fun _ _ _ _ _ _ us hl=>match us,hl with | [_,_,_],_=>rfl
 have F53:=AY (st:=s_g) l53 c53 k53
 have b53:=F53.binds (ps:=["self"]) fun _ _ _ _ _ _ us hl=>match us,hl with | [_],_=>rfl
 have F54:=Qy (st:=s_k) l54 c54 k54
 have b54_0:AI K _ ["self","hands","seats","lots"] []:=fun s us X hl=>match us,(show us.length=4 from Vf (m:=0) ((B9 ..).symm.trans hl)) with | [_,_,_,_],_=>V2 (fd:=AK "__init__" "Way.__init__" (AQ s_k) (AJ s_k) (Aq s_k) (.ref dT54) kV54 dc54 pm54 an54 cd54 ct54) X rfl dl54 rfl rfl rfl
 have F55:=AY (st:=Iv) l55 c55 k55
 have b55:=F55.binds (ps:=["self","hands"]) fun _ _ _ _ _ _ us hl=>match us,hl with | [_,_],_=>rfl
 have F56:=AY (st:=IQ) l56 c56 k56
 have b56:=F56.binds (ps:=["self","many","had"]) fun _ _ _ _ _ _ us hl=>match us,hl with | [_,_,_],_=>rfl
 have F57:=AY (st:=IS) l57 c57 k57
 have b57:=F57.binds (ps:=["self","seen","unseen","known"]) fun _ _ _ _ _ _ us hl=>match us,hl with | [_,_,_,_],_=>rfl
 have F58:=AY (st:=GQ) l58 c58 k58
 have b58:=F58.binds (ps:=["ranks","hands"]) fun _ _ _ _ _ _ us hl=>match us,hl with | [_,_],_=>rfl
 have F59:=AY (st:=s_p) l59 c59 k59
 have b59:=F59.binds (ps:=["_law_look","_law_bundles_here","_law_order_here","_law_at"]) fun _ _ _ _ _ _ us hl=>match us,hl with | [_,_,_,_],_=>rfl
 have F60:=AY (st:=IM) l60 c60 k60
 have b60:=F60.binds (ps:=["self","k"]) fun _ _ _ _ _ _ us hl=>match us,hl with | [_,_],_=>rfl
 have F61:=AY (st:=s_x) l61 c61 k61
 have b61:=F61.binds (ps:=["self"]) fun _ _ _ _ _ _ us hl=>match us,hl with | [_],_=>rfl
 have F62:=Qy (st:=s_z) l62 c62 k62
 have b62_3:AI K _ ["self","hands","seats","lots","hurdle","step"] [.none,.none,.int (1) td_Lists_init2]:=fun s us X hl=>match us,(show us.length=3 from Vf (m:=3) ((B9 ..).symm.trans hl)) with | [_,_,_],_=>V2 (fd:=AK "__init__" "Lists.__init__" (AQ s_z) (AJ s_z) (Aq s_z) (.ref dT62) kV62 dc62 pm62 an62 cd62 ct62) X rfl dl62 rfl rfl rfl
 have F63:=AY (st:=IR) l63 c63 k63
 have b63:=F63.binds (ps:=["self","many","least","had"]) fun _ _ _ _ _ _ us hl=>match us,hl with | [_,_,_,_],_=>rfl
 have F64:=AY (st:=H_) l64 c64 k64
 have b64:=F64.binds (ps:=["code","hands"]) fun _ _ _ _ _ _ us hl=>match us,hl with | [_,_],_=>rfl
 have F65:=AY (st:=s_w) l65 c65 k65
 have b65:=F65.binds (ps:=["self","k","lines"]) fun _ _ _ _ _ _ us hl=>match us,hl with | [_,_,_],_=>rfl
 have F66:=AY (st:=GR) l66 c66 k66
 have b66:=F66.binds (ps:=["self","votes","least","had"]) fun _ _ _ _ _ _ us hl=>match us,hl with | [_,_,_,_],_=>rfl
 have F67:=AY (st:=GT) l67 c67 k67
 have b67:=F67.binds (ps:=["self","codes","seal"]) fun _ _ _ _ _ _ us hl=>match us,hl with | [_,_,_],_=>rfl
 have F68:=AY (st:=GU) l68 c68 k68
 have b68:=F68.binds (ps:=["self","votes","least"]) fun _ _ _ _ _ _ us hl=>match us,hl with | [_,_,_],_=>rfl
 have F69:=AY (st:=s_t) l69 c69 k69
 have b69:=F69.binds (ps:=["_law_bundles_here","_law_hands"]) fun _ _ _ _ _ _ us hl=>match us,hl with | [_,_],_=>rfl
 have F70:=AY (st:=IN) l70 c70 k70
 have b70:=F70.binds (ps:=["self","sheet"]) fun _ _ _ _ _ _ us hl=>match us,hl with | [_,_],_=>rfl
 have F71:=AY (st:=IU) l71 c71 k71
 have b71:=F71.binds (ps:=["self","sheet"]) fun _ _ _ _ _ _ us hl=>match us,hl with | [_,_],_=>rfl
 have F72:=AY (st:=s_n) l72 c72 k72
 have b72:=F72.binds (ps:=["self"]) fun _ _ _ _ _ _ us hl=>match us,hl with | [_],_=>rfl
 have F73:=AY (st:=s_h) l73 c73 k73
 have b73:=F73.binds (ps:=["self","margin","box","number"]) fun _ _ _ _ _ _ us hl=>match us,hl with | [_,_,_,_],_=>rfl
 have F74:=AY (st:=Ig) l74 c74 k74
 have b74:=F74.binds (ps:=["self","lines"]) fun _ _ _ _ _ _ us hl=>match us,hl with | [_,_],_=>rfl
 have F75:=AY (st:=s_q) l75 c75 k75
 have b75:=F75.binds (ps:=["_law_look","_law_bundles_here","_law_order_here","_law_steps","_law_cell_here","_law_hands"]) fun _ _ _ _ _ _ us hl=>match us,hl with | [_,_,_,_,_,_],_=>rfl
 have F76:=AY (st:=s_e) l76 c76 k76
 have b76:=F76.binds (ps:=["_law_script"]) fun _ _ _ _ _ _ us hl=>match us,hl with | [_],_=>rfl
 have T:Tx K mg (⟨f1,_,f2,_,f3,_,f4,_,f5,_,f6,_,f7,_,f8,_,f9,_,f10,_,f11,_,f12,_,f13,_,f14,_,f15,_,f16,_,f17,_,f18,_,f19,_,f20,_,f21,_,f22,_,f23,_,f24,_,f25,_,f26,_,f27,_,f28,_,f29,_,f30,_,f31,_,f32,_,f33,_,f34,_,f35,_,f36,_,f37,_,f38,_,f39,_,f40,_,f41,_,f42,_,f43,_,f44,_,f45,_,f46,_,f47,_,f48,_,f49,_,f50,_,f51,_,f52,_,f53,_,f54,_,f55,_,f56,_,f57,_,f58,_,f59,_,f60,_,f61,_,f62,_,f63,_,f64,_,f65,_,f66,_,f67,_,f68,_,f69,_,f70,_,f71,_,f72,_,f73,_,f74,_,f75,_,fa,_,c_b0,c_c,c_b,c_bt,c_a,c_d,t_MOST_BALLOTS,t_MOST_RANK,t_MOST_HANDS,t_MOST_SEATS,t_MOST_STEP,t_BASE,td_Lists_init2⟩:Ads):=⟨F1,b1,Bg X G a1,F2,b2,Bg X G a2,F3,b3,Bg X G a3,F4,b4,Bg X G a4,F5,b5,Bg X G a5,F6,b6,Bg X G a6,F7,b7,Bg X G a7,F8,b8,Bg X G a8,F9,b9,Bg X G a9,F10,b10,Bg X G a10,F11,b11,Bg X G a11,F12,b12,Bg X G a12,F13,b13,Bg X G a13,F14,b14,Bg X G a14,F15,b15,Bg X G a15,F16,b16,Bg X G a16,F17,b17,Bg X G a17,F18,b18,Bg X G a18,F19,b19,F20,b20,F21,b21,F22,b22,F23,b23,F24,b24,F25,b25,Bg X G a25,F26,b26,Bg X G a26,F27,b27,Bg X G a27,F28,b28,Bg X G a28,F29,b29,Bg X G a29,F30,b30,Bg X G a30,F31,b31,Bg X G a31,F32,b32,Bg X G a32,F33,b33,Bg X G a33,F34,b34,Bg X G a34,F35,b35,Bg X G a35,F36,b36,Bg X G a36,F37,b37,Bg X G a37,F38,b38,Bg X G a38,F39,b39,Bg X G a39,F40,b40,Bg X G a40,F41,b41,F42,b42,F43,b43,F44,b44,F45,b45,F46,b46,F47,b47,Bg X G a47,F48,b48,Bg X G a48,F49,b49,Bg X G a49,F50,b50,Bg X G a50,F51,b51,Bg X G a51,F52,b52,Bg X G a52,F53,b53,F54,b54_0,F55,b55,F56,b56,F57,b57,F58,b58,Bg X G a58,F59,b59,Bg X G a59,F60,b60,F61,b61,F62,b62_3,F63,b63,F64,b64,Bg X G a64,F65,b65,F66,b66,F67,b67,F68,b68,F69,b69,Bg X G a69,F70,b70,F71,b71,F72,b72,F73,b73,F74,b74,F75,b75,Bg X G a75,F76,b76,Bg X G a76,Dt X G z0,Dt X G z1,Dt X G z2,Dt X G z3,Dt X G z4,Dt X G z5,Dt X G z6,Dt X G z7,Dt X G z8,Dt X G z9,Dt X G z10,Dt X G z11,Dt X G z12,Dt X G z13,Dt X G z14,Dt X G z15,Bg X G kc_MOST_BALLOTS,Bg X G kc_MOST_RANK,Bg X G kc_MOST_HANDS,Bg X G kc_MOST_SEATS,Bg X G kc_MOST_STEP,Bg X G kc_BASE,Bg X G mc_TooHard,⟨ty_TooHard,be_TooHard⟩,Bg X G mc_Box,⟨pg_Box,hd_Box,po_Box,sa_Box⟩,⟨mm_Box,mi_Box,mf_Box,mk_c⟩,⟨ma_Box_many,mn_Box_many,k21⟩,⟨ma_Box_take,mn_Box_take,k67⟩,⟨ma_Box_lines_at,mn_Box_lines_at,k42⟩,⟨ma_Box_sheet_at,mn_Box_sheet_at,k60⟩,⟨ma_Box_sheet,mn_Box_sheet,k61⟩,⟨ma_Box_put_right,mn_Box_put_right,k65⟩,na_c_bv,na_c_b1,Bg X G mc_Lists,⟨pg_Lists,hd_Lists,po_Lists,sa_Lists⟩,⟨mm_Lists,mi_Lists,mf_Lists,mk_b⟩,⟨ma_Lists_least_votes,mn_Lists_least_votes,k43⟩,⟨ma_Lists_mark,mn_Lists_mark,k56⟩,⟨ma_Lists_mark_or_none,mn_Lists_mark_or_none,k63⟩,⟨ma_Lists_marks_of,mn_Lists_marks_of,k66⟩,⟨ma_Lists_greatest_mark,mn_Lists_greatest_mark,k44⟩,⟨ma_Lists_rounds_of,mn_Lists_rounds_of,k68⟩,⟨ma_Lists_counted,mn_Lists_counted,k70⟩,⟨ma_Lists_told_by,mn_Lists_told_by,k22⟩,⟨ma_Lists_outcome,mn_Lists_outcome,k71⟩,na_b_bv,na_b_ca,na_b_cc,na_b_b8,na_b_cd,Bg X G mc_Way,⟨pg_Way,hd_Way,po_Way,sa_Way⟩,⟨cs_Way,cr_Way,ca_Way_init__⟩,Bg X G mc_Look,⟨pg_Look,hd_Look,po_Look,sa_Look⟩,⟨mm_Look,mi_Look,mf_Look,mk_a⟩,⟨ma_Look_unlooked,mn_Look_unlooked,k41⟩,⟨ma_Look_known,mn_Look_known,k53⟩,⟨ma_Look_word_now,mn_Look_word_now,k72⟩,⟨ma_Look_word,mn_Look_word,k19⟩,⟨ma_Look_due,mn_Look_due,k20⟩,⟨ma_Look_found,mn_Look_found,k74⟩,na_a_b9,na_a_b4,na_a_b7,na_a_b2,na_a_cb,na_a_b3,Bg X G mc_Margin,⟨pg_Margin,hd_Margin,po_Margin,sa_Margin⟩,⟨mm_Margin,mi_Margin,mf_Margin,mk_d⟩,⟨ma_Margin_possible,mn_Margin_possible,k45⟩,⟨ma_Margin_least,mn_Margin_least,k24⟩,⟨ma_Margin_held,mn_Margin_held,k57⟩,⟨ma_Margin_sure_low,mn_Margin_sure_low,k46⟩,na_d_b5⟩
 exact ⟨AK "law" "law" (AQ s_e) (AJ s_e) (Aq s_e) .none kV76 dc76 pm76 an76 cd76 ct76,fun s v=>.of_eq rfl,fun base _ _=>ok_e T⟩
theorem walk {l:OO} {q:AN} {loose:Ab Ak} {XP:(Ak->Ay Ah)->AC->Prop} {YP:AA->AC->Prop} {d:DefRec} {K:KC->A6} (hn:l.most=Aa 63) (hdf:d.params.defaults=[])
 (hY:∀(w:AA) (h:AC),YP w h->(K w.params).In h)
 (F:∀(w:AA) (mg:Ak->Ay Ah) (fa:Ad) (h:AC),(K w.params).In h->h.Ns AH mg->mg d.name=Aa (.ref fa) ->
  ∃fd:AE,(∀(s:Ai) (u:Ah),Jc s fd ⟨[u],[]⟩ [("_law_script",u)])/\∀base:AC,(K w.params).In base->base.Ns AH mg->AG l.prog w (K w.params) mg base CX0 12 fa fd ["_law_script"] (Kd (K w.params))) :
 V1 q loose XP YP l.row.toRowW d [] (fun f vs=>OX f vs) :=
 L2.walk_of (n:=63) (k:=12) (x:="_law_script") (CX:=fun _=>CX0) (sp:=fun w=>Kd (K w.params)) hn (by decide) hdf ⟨rfl,by decide,by decide⟩ hY F (fun _ _ a ns hl _ hS=>⟨a,ns,rfl,hS,hl,fun _=>rfl⟩) fun _ _ _ _ _ z=>z
end Law
open PySem PySem.W PyProof.Rows
set_option maxRecDepth 100000 in
set_option maxHeartbeats 0 in
theorem PySem.Challenge.cw_pollproof_k94_looks_side_by_side_holds : PySem.Challenge.rw_pollproof_k94_looks_side_by_side.Holds := by
 refine Head.top ?_
 k_fill
 refine Law.walk (l:=PySem.Challenge.rw_pollproof_k94_looks_side_by_side) rfl rfl (fun w h Y=>PySem.W.km_in_of Y) ?F
 case F =>
  intro w mg fa h KX G hmg
  refine' Law.all_mk KX G hmg ?a1 ?l1 ?c1 ?k1 ?a2 ?l2 ?c2 ?k2 ?a3 ?l3 ?c3 ?k3 ?a4 ?l4 ?c4 ?k4 ?a5 ?l5 ?c5 ?k5 ?a6 ?l6 ?c6 ?k6 ?a7 ?l7 ?c7 ?k7 ?a8 ?l8 ?c8 ?k8 ?a9 ?l9 ?c9 ?k9 ?a10 ?l10 ?c10 ?k10 ?a11 ?l11 ?c11 ?k11 ?a12 ?l12 ?c12 ?k12 ?a13 ?l13 ?c13 ?k13 ?a14 ?l14 ?c14 ?k14 ?a15 ?l15 ?c15 ?k15 ?a16 ?l16 ?c16 ?k16 ?a17 ?l17 ?c17 ?k17 ?a18 ?l18 ?c18 ?k18 ?l19 ?c19 ?k19 ?l20 ?c20 ?k20 ?l21 ?c21 ?k21 ?l22 ?c22 ?k22 ?l23 ?c23 ?k23 ?l24 ?c24 ?k24 ?a25 ?l25 ?c25 ?k25 ?a26 ?l26 ?c26 ?k26 ?a27 ?l27 ?c27 ?k27 ?a28 ?l28 ?c28 ?k28 ?a29 ?l29 ?c29 ?k29 ?a30 ?l30 ?c30 ?k30 ?a31 ?l31 ?c31 ?k31 ?a32 ?l32 ?c32 ?k32 ?a33 ?l33 ?c33 ?k33 ?a34 ?l34 ?c34 ?k34 ?a35 ?l35 ?c35 ?k35 ?a36 ?l36 ?c36 ?k36 ?a37 ?l37 ?c37 ?k37 ?a38 ?l38 ?c38 ?k38 ?a39 ?l39 ?c39 ?k39 ?a40 ?l40 ?c40 ?k40 ?l41 ?c41 ?k41 ?l42 ?c42 ?k42 ?l43 ?c43 ?k43 ?l44 ?c44 ?k44 ?l45 ?c45 ?k45 ?l46 ?c46 ?k46 ?a47 ?l47 ?c47 ?k47 ?a48 ?l48 ?c48 ?k48 ?a49 ?l49 ?c49 ?k49 ?a50 ?l50 ?c50 ?k50 ?a51 ?l51 ?c51 ?k51 ?a52 ?l52 ?c52 ?k52 ?l53 ?c53 ?k53 ?l54 ?c54 ?k54 ?dl54 ?l55 ?c55 ?k55 ?l56 ?c56 ?k56 ?l57 ?c57 ?k57 ?a58 ?l58 ?c58 ?k58 ?a59 ?l59 ?c59 ?k59 ?l60 ?c60 ?k60 ?l61 ?c61 ?k61 ?l62 ?c62 ?k62 ?dl62 ?l63 ?c63 ?k63 ?a64 ?l64 ?c64 ?k64 ?l65 ?c65 ?k65 ?l66 ?c66 ?k66 ?l67 ?c67 ?k67 ?l68 ?c68 ?k68 ?a69 ?l69 ?c69 ?k69 ?l70 ?c70 ?k70 ?l71 ?c71 ?k71 ?l72 ?c72 ?k72 ?l73 ?c73 ?k73 ?l74 ?c74 ?k74 ?a75 ?l75 ?c75 ?k75 ?a76 ?l76 ?c76 ?k76 ?z0 ?z1 ?z2 ?z3 ?z4 ?z5 ?z6 ?z7 ?z8 ?z9 ?z10 ?z11 ?z12 ?z13 ?z14 ?z15 ?kc_MOST_BALLOTS ?kc_MOST_RANK ?kc_MOST_HANDS ?kc_MOST_SEATS ?kc_MOST_STEP ?kc_BASE ?mc_TooHard ?ty_TooHard ?be_TooHard ?mc_Box ?pg_Box ?hd_Box ?po_Box ?sa_Box ?mm_Box ?mi_Box ?mf_Box ?mk_c ?ma_Box_many ?mn_Box_many ?ma_Box_take ?mn_Box_take ?ma_Box_lines_at ?mn_Box_lines_at ?ma_Box_sheet_at ?mn_Box_sheet_at ?ma_Box_sheet ?mn_Box_sheet ?ma_Box_put_right ?mn_Box_put_right ?na_c_bv ?na_c_b1 ?mc_Lists ?pg_Lists ?hd_Lists ?po_Lists ?sa_Lists ?mm_Lists ?mi_Lists ?mf_Lists ?mk_b ?ma_Lists_least_votes ?mn_Lists_least_votes ?ma_Lists_mark ?mn_Lists_mark ?ma_Lists_mark_or_none ?mn_Lists_mark_or_none ?ma_Lists_marks_of ?mn_Lists_marks_of ?ma_Lists_greatest_mark ?mn_Lists_greatest_mark ?ma_Lists_rounds_of ?mn_Lists_rounds_of ?ma_Lists_counted ?mn_Lists_counted ?ma_Lists_told_by ?mn_Lists_told_by ?ma_Lists_outcome ?mn_Lists_outcome ?na_b_bv ?na_b_ca ?na_b_cc ?na_b_b8 ?na_b_cd ?mc_Way ?pg_Way ?hd_Way ?po_Way ?sa_Way ?cs_Way ?cr_Way ?ca_Way_init__ ?mc_Look ?pg_Look ?hd_Look ?po_Look ?sa_Look ?mm_Look ?mi_Look ?mf_Look ?mk_a ?ma_Look_unlooked ?mn_Look_unlooked ?ma_Look_known ?mn_Look_known ?ma_Look_word_now ?mn_Look_word_now ?ma_Look_word ?mn_Look_word ?ma_Look_due ?mn_Look_due ?ma_Look_found ?mn_Look_found ?na_a_b9 ?na_a_b4 ?na_a_b7 ?na_a_b2 ?na_a_cb ?na_a_b3 ?mc_Margin ?pg_Margin ?hd_Margin ?po_Margin ?sa_Margin ?mm_Margin ?mi_Margin ?mf_Margin ?mk_d ?ma_Margin_possible ?mn_Margin_possible ?ma_Margin_least ?mn_Margin_least ?ma_Margin_held ?mn_Margin_held ?ma_Margin_sure_low ?mn_Margin_sure_low ?na_d_b5
  (case a1=>k_is)
  (case l1=>k_is)
  (case c1=>k_is)
  (case k1=>k_is)
  (case a2=>k_is)
  (case l2=>k_is)
  (case c2=>k_is)
  (case k2=>k_is)
  (case a3=>k_is)
  (case l3=>k_is)
  (case c3=>k_is)
  (case k3=>k_is)
  (case a4=>k_is)
  (case l4=>k_is)
  (case c4=>k_is)
  (case k4=>k_is)
  (case a5=>k_is)
  (case l5=>k_is)
  (case c5=>k_is)
  (case k5=>k_is)
  (case a6=>k_is)
  (case l6=>k_is)
  (case c6=>k_is)
  (case k6=>k_is)
  (case a7=>k_is)
  (case l7=>k_is)
  (case c7=>k_is)
  (case k7=>k_is)
  (case a8=>k_is)
  (case l8=>k_is)
  (case c8=>k_is)
  (case k8=>k_is)
  (case a9=>k_is)
  (case l9=>k_is)
  (case c9=>k_is)
  (case k9=>k_is)
  (case a10=>k_is)
  (case l10=>k_is)
  (case c10=>k_is)
  (case k10=>k_is)
  (case a11=>k_is)
  (case l11=>k_is)
  (case c11=>k_is)
  (case k11=>k_is)
  (case a12=>k_is)
  (case l12=>k_is)
  (case c12=>k_is)
  (case k12=>k_is)
  (case a13=>k_is)
  (case l13=>k_is)
  (case c13=>k_is)
  (case k13=>k_is)
  (case a14=>k_is)
  (case l14=>k_is)
  (case c14=>k_is)
  (case k14=>k_is)
  (case a15=>k_is)
  (case l15=>k_is)
  (case c15=>k_is)
  (case k15=>k_is)
  (case a16=>k_is)
  (case l16=>k_is)
  (case c16=>k_is)
  (case k16=>k_is)
  (case a17=>k_is)
  (case l17=>k_is)
  (case c17=>k_is)
  (case k17=>k_is)
  (case a18=>k_is)
  (case l18=>k_is)
  (case c18=>k_is)
  (case k18=>k_is)
  (case a25=>k_is)
  (case l25=>k_is)
  (case c25=>k_is)
  (case k25=>k_is)
  (case a26=>k_is)
  (case l26=>k_is)
  (case c26=>k_is)
  (case k26=>k_is)
  (case a27=>k_is)
  (case l27=>k_is)
  (case c27=>k_is)
  (case k27=>k_is)
  (case a28=>k_is)
  (case l28=>k_is)
  (case c28=>k_is)
  (case k28=>k_is)
  (case a29=>k_is)
  (case l29=>k_is)
  (case c29=>k_is)
  (case k29=>k_is)
  (case a30=>k_is)
  (case l30=>k_is)
  (case c30=>k_is)
  (case k30=>k_is)
  (case a31=>k_is)
  (case l31=>k_is)
  (case c31=>k_is)
  (case k31=>k_is)
  (case a32=>k_is)
  (case l32=>k_is)
  (case c32=>k_is)
  (case k32=>k_is)
  (case a33=>k_is)
  (case l33=>k_is)
  (case c33=>k_is)
  (case k33=>k_is)
  (case a34=>k_is)
  (case l34=>k_is)
  (case c34=>k_is)
  (case k34=>k_is)
  (case a35=>k_is)
  (case l35=>k_is)
  (case c35=>k_is)
  (case k35=>k_is)
  (case a36=>k_is)
  (case l36=>k_is)
  (case c36=>k_is)
  (case k36=>k_is)
  (case a37=>k_is)
  (case l37=>k_is)
  (case c37=>k_is)
  (case k37=>k_is)
  (case a38=>k_is)
  (case l38=>k_is)
  (case c38=>k_is)
  (case k38=>k_is)
  (case a39=>k_is)
  (case l39=>k_is)
  (case c39=>k_is)
  (case k39=>k_is)
  (case a40=>k_is)
  (case l40=>k_is)
  (case c40=>k_is)
  (case k40=>k_is)
  (case a47=>k_is)
  (case l47=>k_is)
  (case c47=>k_is)
  (case k47=>k_is)
  (case a48=>k_is)
  (case l48=>k_is)
  (case c48=>k_is)
  (case k48=>k_is)
  (case a49=>k_is)
  (case l49=>k_is)
  (case c49=>k_is)
  (case k49=>k_is)
  (case a50=>k_is)
  (case l50=>k_is)
  (case c50=>k_is)
  (case k50=>k_is)
  (case a51=>k_is)
  (case l51=>k_is)
  (case c51=>k_is)
  (case k51=>k_is)
  (case a52=>k_is)
  (case l52=>k_is)
  (case c52=>k_is)
  (case k52=>k_is)
  (case a58=>k_is)
  (case l58=>k_is)
  (case c58=>k_is)
  (case k58=>k_is)
  (case a59=>k_is)
  (case l59=>k_is)
  (case c59=>k_is)
  (case k59=>k_is)
  (case a64=>k_is)
  (case l64=>k_is)
  (case c64=>k_is)
  (case k64=>k_is)
  (case a69=>k_is)
  (case l69=>k_is)
  (case c69=>k_is)
  (case k69=>k_is)
  (case a75=>k_is)
  (case l75=>k_is)
  (case c75=>k_is)
  (case k75=>k_is)
  (case a76=>k_is)
  (case l76=>k_is)
  (case c76=>k_is)
  (case k76=>k_is)
  (case z0=>k_is)
  (case z1=>k_is)
  (case z2=>k_is)
  (case z3=>k_is)
  (case z4=>k_is)
  (case z5=>k_is)
  (case z6=>k_is)
  (case z7=>k_is)
  (case z8=>k_is)
  (case z9=>k_is)
  (case z10=>k_is)
  (case z11=>k_is)
  (case z12=>k_is)
  (case z13=>k_is)
  (case z14=>k_is)
  (case z15=>k_is)
  (case kc_MOST_BALLOTS=>k_is)
  (case kc_MOST_RANK=>k_is)
  (case kc_MOST_HANDS=>k_is)
  (case kc_MOST_SEATS=>k_is)
  (case kc_MOST_STEP=>k_is)
  (case kc_BASE=>k_is)
  (case mc_TooHard=>k_is)
  (case ty_TooHard=>k_is)
  (case be_TooHard=>k_is)
  (case mc_Box=>k_is)
  (case pg_Box=>k_is)
  (case hd_Box=>k_is)
  (case po_Box=>k_is)
  (case sa_Box=>k_is)
  (case mm_Box=>k_is)
  (case mi_Box=>k_is)
  (case mf_Box=>k_is)
  (case mk_c=>k_is)
  (case ma_Box_many=>k_is)
  (case mn_Box_many=>k_is)
  (case ma_Box_take=>k_is)
  (case mn_Box_take=>k_is)
  (case ma_Box_lines_at=>k_is)
  (case mn_Box_lines_at=>k_is)
  (case ma_Box_sheet_at=>k_is)
  (case mn_Box_sheet_at=>k_is)
  (case ma_Box_sheet=>k_is)
  (case mn_Box_sheet=>k_is)
  (case ma_Box_put_right=>k_is)
  (case mn_Box_put_right=>k_is)
  (case na_c_bv=>k_is)
  (case na_c_b1=>k_is)
  (case mc_Lists=>k_is)
  (case pg_Lists=>k_is)
  (case hd_Lists=>k_is)
  (case po_Lists=>k_is)
  (case sa_Lists=>k_is)
  (case mm_Lists=>k_is)
  (case mi_Lists=>k_is)
  (case mf_Lists=>k_is)
  (case mk_b=>k_is)
  (case ma_Lists_least_votes=>k_is)
  (case mn_Lists_least_votes=>k_is)
  (case ma_Lists_mark=>k_is)
  (case mn_Lists_mark=>k_is)
  (case ma_Lists_mark_or_none=>k_is)
  (case mn_Lists_mark_or_none=>k_is)
  (case ma_Lists_marks_of=>k_is)
  (case mn_Lists_marks_of=>k_is)
  (case ma_Lists_greatest_mark=>k_is)
  (case mn_Lists_greatest_mark=>k_is)
  (case ma_Lists_rounds_of=>k_is)
  (case mn_Lists_rounds_of=>k_is)
  (case ma_Lists_counted=>k_is)
  (case mn_Lists_counted=>k_is)
  (case ma_Lists_told_by=>k_is)
  (case mn_Lists_told_by=>k_is)
  (case ma_Lists_outcome=>k_is)
  (case mn_Lists_outcome=>k_is)
  (case na_b_bv=>k_is)
  (case na_b_ca=>k_is)
  (case na_b_cc=>k_is)
  (case na_b_b8=>k_is)
  (case na_b_cd=>k_is)
  (case mc_Way=>k_is)
  (case pg_Way=>k_is)
  (case hd_Way=>k_is)
  (case po_Way=>k_is)
  (case sa_Way=>k_is)
  (case cs_Way=>k_is)
  (case cr_Way=>k_is)
  (case ca_Way_init__=>k_is)
  (case mc_Look=>k_is)
  (case pg_Look=>k_is)
  (case hd_Look=>k_is)
  (case po_Look=>k_is)
  (case sa_Look=>k_is)
  (case mm_Look=>k_is)
  (case mi_Look=>k_is)
  (case mf_Look=>k_is)
  (case mk_a=>k_is)
  (case ma_Look_unlooked=>k_is)
  (case mn_Look_unlooked=>k_is)
  (case ma_Look_known=>k_is)
  (case mn_Look_known=>k_is)
  (case ma_Look_word_now=>k_is)
  (case mn_Look_word_now=>k_is)
  (case ma_Look_word=>k_is)
  (case mn_Look_word=>k_is)
  (case ma_Look_due=>k_is)
  (case mn_Look_due=>k_is)
  (case ma_Look_found=>k_is)
  (case mn_Look_found=>k_is)
  (case na_a_b9=>k_is)
  (case na_a_b4=>k_is)
  (case na_a_b7=>k_is)
  (case na_a_b2=>k_is)
  (case na_a_cb=>k_is)
  (case na_a_b3=>k_is)
  (case mc_Margin=>k_is)
  (case pg_Margin=>k_is)
  (case hd_Margin=>k_is)
  (case po_Margin=>k_is)
  (case sa_Margin=>k_is)
  (case mm_Margin=>k_is)
  (case mi_Margin=>k_is)
  (case mf_Margin=>k_is)
  (case mk_d=>k_is)
  (case ma_Margin_possible=>k_is)
  (case mn_Margin_possible=>k_is)
  (case ma_Margin_least=>k_is)
  (case mn_Margin_least=>k_is)
  (case ma_Margin_held=>k_is)
  (case mn_Margin_held=>k_is)
  (case ma_Margin_sure_low=>k_is)
  (case mn_Margin_sure_low=>k_is)
  (case na_d_b5=>k_is)
  (case l19=>k_is)
  (case c19=>k_is)
  (case k19=>k_is)
  (case l20=>k_is)
  (case c20=>k_is)
  (case k20=>k_is)
  (case l21=>k_is)
  (case c21=>k_is)
  (case k21=>k_is)
  (case l22=>k_is)
  (case c22=>k_is)
  (case k22=>k_is)
  (case l23=>k_is)
  (case c23=>k_is)
  (case k23=>k_is)
  (case l24=>k_is)
  (case c24=>k_is)
  (case k24=>k_is)
  (case l41=>k_is)
  (case c41=>k_is)
  (case k41=>k_is)
  (case l42=>k_is)
  (case c42=>k_is)
  (case k42=>k_is)
  (case l43=>k_is)
  (case c43=>k_is)
  (case k43=>k_is)
  (case l44=>k_is)
  (case c44=>k_is)
  (case k44=>k_is)
  (case l45=>k_is)
  (case c45=>k_is)
  (case k45=>k_is)
  (case l46=>k_is)
  (case c46=>k_is)
  (case k46=>k_is)
  (case l53=>k_is)
  (case c53=>k_is)
  (case k53=>k_is)
  (case l54=>k_is)
  (case c54=>k_is)
  (case k54=>k_is)
  (case dl54=>k_is)
  (case l55=>k_is)
  (case c55=>k_is)
  (case k55=>k_is)
  (case l56=>k_is)
  (case c56=>k_is)
  (case k56=>k_is)
  (case l57=>k_is)
  (case c57=>k_is)
  (case k57=>k_is)
  (case l60=>k_is)
  (case c60=>k_is)
  (case k60=>k_is)
  (case l61=>k_is)
  (case c61=>k_is)
  (case k61=>k_is)
  (case l62=>k_is)
  (case c62=>k_is)
  (case k62=>k_is)
  (case dl62=>k_is)
  (case l63=>k_is)
  (case c63=>k_is)
  (case k63=>k_is)
  (case l65=>k_is)
  (case c65=>k_is)
  (case k65=>k_is)
  (case l66=>k_is)
  (case c66=>k_is)
  (case k66=>k_is)
  (case l67=>k_is)
  (case c67=>k_is)
  (case k67=>k_is)
  (case l68=>k_is)
  (case c68=>k_is)
  (case k68=>k_is)
  (case l70=>k_is)
  (case c70=>k_is)
  (case k70=>k_is)
  (case l71=>k_is)
  (case c71=>k_is)
  (case k71=>k_is)
  (case l72=>k_is)
  (case c72=>k_is)
  (case k72=>k_is)
  (case l73=>k_is)
  (case c73=>k_is)
  (case k73=>k_is)
  (case l74=>k_is)
  (case c74=>k_is)
  (case k74=>k_is)
#print axioms PySem.Challenge.cw_pollproof_k94_looks_side_by_side_holds
