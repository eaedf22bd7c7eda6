import PyProof.Rows.All
import Wide.All
import OpenK.AllK
import Wide.FinOn
import Lean
import PyProof.EqAt
import PyProof.EqKinds
import PyProof.TupleCall
import PySem.Challenge.RW_pollproof_k87_whole_margin_of_lists
set_option Elab.async false
set_option linter.all false
set_option compiler.extract_closed false
set_option maxRecDepth 100000
namespace Head
open PySem PySem.W PyProof.Rows
def KE (p:Program) (w:World) (n0:Nat) (ann:Option Value):Nat->SharedT->Thread->Option SharedT
 | 0,_,_=>none
 | n+1,s,t=>match through t with
   | true=>some s
   | false=>match stepOk n0 ann t with
     | false=>none
     | true=>match stepT (denote treeTable) p w s t with
       | some (s',t')=>KE p w n0 ann n s' t'
       | none=>none
theorem Mu {p:Program} {w:World} {n0:Nat} {ann:Option Value}:∀{n:Nat} {s s':SharedT} {t:Thread},KE p w n0 ann n s t=some s'->topRun treeTable p w n0 ann n s.abs t=some s'.abs
 | 0,_,_,_,h=>by cases h
 | n+1,s,s',t,h=>by
   unfold KE at h
   unfold topRun
   cases he:through t with
   | true=>rw [he] at h;cases h;rfl
   | false =>
     rw [he] at h
     cases hk:stepOk n0 ann t with
     | false=>rw [hk] at h;cases h
     | true =>
       rw [hk] at h
       cases hs:stepT (denote treeTable) p w s t with
       | none=>rw [hs] at h;cases h
       | some r=>obtain ⟨s2,t2⟩:=r;rw [hs] at h;rw [stepT_spec hs];exact Mu h
def Jx:List Obj->Nat->BT->Option BT
 | [],_,t=>some t
 | o :: os,n,t=>match ((t.ins n o).get n).isSome with
   | true=>Jx os (n+1) (t.ins n o)
   | false=>none
theorem Md {life:Life}:∀{os:List Obj} {n:Nat} {t t':BT} {xs:List Obj},(absHeap t n life)=⟨xs.toArray,life⟩->Jx os n t=some t'->absHeap t' (n+os.length) life=⟨(xs++os).toArray,life⟩
 | [],n,t,t',xs,a,h=>by
   cases h
   rw [List.append_nil]
   exact a
 | o :: os,n,t,t',xs,a,h=>by
   unfold Jx at h
   cases g:((t.ins n o).get n).isSome with
   | false=>rw [g] at h;cases h
   | true =>
     rw [g] at h
     have b:absHeap (t.ins n o) (n+1) life=⟨(xs++[o]).toArray,life⟩:=by
      rw [absHeap_ins g,a]
      show (⟨xs.toArray.push o,life⟩:Heap)=_
      rw [List.push_toArray]
     have c:=Md b h
     rw [List.append_assoc] at c
     rw [List.length_cons,show n+(os.length+1)=n+1+os.length by omega]
     exact c
theorem NE {H:Heap} {T:BT} (h:Jx H.objs.toList 0 .nil=some T):absHeap T H.objs.size H.life=H:=by
 have c:=Md (life:=H.life) (n:=0) (t:=.nil) (xs:=[]) rfl h
 rw [Nat.zero_add,Array.length_toList] at c
 rw [c]
 obtain ⟨a,l⟩:=H
 show (⟨([]++a.toList).toArray,l⟩:Heap)=⟨a,l⟩
 rw [List.nil_append,Array.toArray_toList]
theorem left {p q:Program} {loose:List PySem.Str} {Xt:Shared->Bool} {α:Type} {Yf:Shared->α} {Ya:World->α} {N:Nat} {g0:Bool}
 (e:opening p=plainProg p.main.scope.names) (hN:Nat.ble 600 N=true) (f:∀s,fenceModules? p s=some s)
 (h:∀(w:World) (os:OsState),((Jx (boot_heap w.params).objs.toList 0 .nil).bind fun T=>(KE p w (boot_heap w.params).objs.size ((boot_heap w.params).nsMap mainGlobals "__annotations__") N ⟨T,(boot_heap w.params).objs.size,(boot_heap w.params).life,Array.mk [],boot_drawn,boot_toks,os⟩ (topStub p)).map fun s =>
  (((boot_heap w.params).isNs mainGlobals,staticsOk (importedModules p.main.body) (boot_heap w.params) s.abs.heap && namesBound p s.abs.heap && gensDone s.abs && laidKept (boot_heap w.params) s.abs.heap),openSeen q loose (importedModules p.main.body) Xt g0 s.abs,Yf s.abs)) =
  some ((true,true),openGood q loose,Ya w)):LeftO p q loose Xt Yf Ya N g0:=fun w=>by
 obtain ⟨⟨hp,gs,d,k,os⟩,e1,e2⟩:=Option.map_eq_some_iff.mp (boot_open e hN f w)
 obtain ⟨rfl,rfl,rfl,rfl⟩:hp=boot_heap w.params/\gs=Array.mk []/\d=boot_drawn/\k=boot_toks:=by simpa using e2
 have z:=h w os
 cases gT:Jx (boot_heap w.params).objs.toList 0 .nil with
 | none=>rw [gT] at z;cases z
 | some T =>
   rw [gT] at z
   obtain ⟨s,r,y⟩:=Option.map_eq_some_iff.mp z
   have r':=Mu r
   injection y with y1 y2
   injection y1 with y3 y4
   injection y2 with y5 y6
   have a:(⟨T,(boot_heap w.params).objs.size,(boot_heap w.params).life,Array.mk [],boot_drawn,boot_toks,os⟩:SharedT).abs=⟨boot_heap w.params,Array.mk [],boot_drawn,boot_toks,os⟩:=by
    unfold SharedT.abs
    rw [NE gT]
   rw [a] at r'
   unfold openEnds
   rw [e1]
   show (topFrom treeTable p w N _).map _=_
   have t:topFrom treeTable p w N ⟨boot_heap w.params,Array.mk [],boot_drawn,boot_toks,os⟩=some s.abs:=by
    unfold topFrom
    dsimp only
    rw [y3,r']
    show (match staticsOk (importedModules p.main.body) (boot_heap w.params) s.abs.heap && namesBound p s.abs.heap && gensDone s.abs && laidKept (boot_heap w.params) s.abs.heap with | true=>_ | false=>_)=_
    rw [y4]
   rw [t]
   exact congrArg some (Prod.ext y5 y6)
end Head
namespace Head
open PySem PySem.W PyProof.Rows
noncomputable def R0 (p:Program) (w:World) (N:Nat) (os:OsState):Option SharedT:=(Jx (boot_heap w.params).objs.toList 0 .nil).bind fun T=>KE p w (boot_heap w.params).objs.size ((boot_heap w.params).nsMap mainGlobals "__annotations__") N ⟨T,(boot_heap w.params).objs.size,(boot_heap w.params).life,Array.mk [],boot_drawn,boot_toks,os⟩ (topStub p)
theorem QX {p q:Program} {loose:List PySem.Str} {Xt:Shared->Bool} {α:Type} {Yf:Shared->α} {Ya:World->α} {N:Nat} {g0:Bool}
 (e:opening p=plainProg p.main.scope.names) (hN:Nat.ble 600 N=true) (f:∀s,fenceModules? p s=some s)
 (h1:∀(w:World) (os:OsState),(R0 p w N os).map (fun s=>((boot_heap w.params).isNs mainGlobals,staticsOk (importedModules p.main.body) (boot_heap w.params) s.abs.heap && namesBound p s.abs.heap && gensDone s.abs && laidKept (boot_heap w.params) s.abs.heap))=some (true,true))
 (h2:∀(w:World) (os:OsState),(R0 p w N os).map (fun s=>((openSeen q loose (importedModules p.main.body) Xt g0 s.abs).1,(openSeen q loose (importedModules p.main.body) Xt g0 s.abs).2.1))=some ((openGood q loose).1,(openGood q loose).2.1))
 (h4:∀(w:World) (os:OsState),(R0 p w N os).map (fun s=>(openSeen q loose (importedModules p.main.body) Xt g0 s.abs).2.2.1)=some (openGood q loose).2.2.1)
 (h5:∀(w:World) (os:OsState),(R0 p w N os).map (fun s=>(openSeen q loose (importedModules p.main.body) Xt g0 s.abs).2.2.2)=some (openGood q loose).2.2.2)
 (h3:∀(w:World) (os:OsState),(R0 p w N os).map (fun s=>Yf s.abs)=some (Ya w)):LeftO p q loose Xt Yf Ya N g0:=left e hN f fun w os=>by
 have a:=h1 w os
 have b:=h2 w os
 have b2:=h4 w os
 have b3:=h5 w os
 have c:=h3 w os
 show ((Jx (boot_heap w.params).objs.toList 0 .nil).bind fun T=>(KE _ _ _ _ _ _ _).map _)=_
 obtain ⟨s,r,y⟩:=Option.map_eq_some_iff.mp a
 rw [r] at b b2 b3 c
 unfold R0 at r
 cases gT:Jx (boot_heap w.params).objs.toList 0 .nil with
 | none=>rw [gT] at r;cases r
 | some T =>
   rw [gT] at r
   change KE _ _ _ _ _ _ _=some s at r
   show (KE _ _ _ _ _ _ _).map _=_
   rw [r]
   have b:((openSeen q loose (importedModules p.main.body) Xt g0 s.abs).1,(openSeen q loose (importedModules p.main.body) Xt g0 s.abs).2.1)=((openGood q loose).1,(openGood q loose).2.1):=Option.some.inj b
   have b2:(openSeen q loose (importedModules p.main.body) Xt g0 s.abs).2.2.1=(openGood q loose).2.2.1:=Option.some.inj b2
   have b3:(openSeen q loose (importedModules p.main.body) Xt g0 s.abs).2.2.2=(openGood q loose).2.2.2:=Option.some.inj b3
   have c:Yf s.abs=Ya w:=Option.some.inj c
   have b':openSeen q loose (importedModules p.main.body) Xt g0 s.abs=openGood q loose:=Prod.ext (Prod.mk.inj b).1 (Prod.ext (Prod.mk.inj b).2 (Prod.ext b2 b3))
   show some (_,openSeen q loose (importedModules p.main.body) Xt g0 s.abs,Yf s.abs)=_
   rw [b',c]
   exact congrArg some (Prod.ext y rfl)
def NB (s:SharedT) (a:Addr):Option Obj:=match s.tree.get a with
 | some o=>if a < s.n then alive o else none
 | none=>none
theorem OP {s:SharedT} {a:Addr} {o:Obj} (h:NB s a=some o):s.abs.heap.get? a=some o:=by
 unfold NB at h
 cases g:s.tree.get a with
 | none=>rw [g] at h;cases h
 | some o' =>
   rw [g] at h
   dsimp only at h
   by_cases c:a < s.n
   ·rw [if_pos c] at h
    exact (abs_get c g).trans h
   ·rw [if_neg c] at h
    cases h
theorem GW {s:SharedT}:∀{as:List Addr} {l:List (Option Obj)},(∀x∈l,x.isSome=true)->as.map (NB s)=l->as.map s.abs.heap.get?=l
 | [],[],_,_=>rfl
 | a :: as,x :: l,k,h=>by
   injection h with h1 h2
   obtain ⟨o,e⟩:=Option.isSome_iff_exists.mp (k x (List.mem_cons_self ..))
   rw [e] at h1 ⊢
   rw [List.map_cons,OP h1,GW (fun y m=>k y (List.mem_cons_of_mem _ m)) h2]
 | [],_ :: _,_,h=>nomatch h
 | _ :: _,[],_,h=>nomatch h
theorem Qt {p:Program} {N:Nat} {K:Params->Frag} {as ts:List Addr} {ea:∀P,as=(K P).map (·.1)} (h3:∀(w:World) (os:OsState),(R0 p w N os).map (fun s=>(as.map (NB s),ts.map (NB s)))=some ((K w.params).map (fun p=>some p.2),ts.map fun _=>some (tabObj #[]))) (w:World) (os:OsState):(R0 p w N os).map (fun s=>Hook.obs (kmHook K as ea ts) s.abs)=some (Hook.val (kmHook K as ea ts) w):=by
 obtain ⟨s,r,y⟩:=Option.map_eq_some_iff.mp (h3 w os)
 rw [r]
 obtain ⟨y1,y2⟩:=Prod.mk.inj y
 refine congrArg some (Prod.ext (GW (fun x m=>?_) y1) (GW (fun x m=>?_) y2))
 ·obtain ⟨_,_,rfl⟩:=List.mem_map.mp m
  rfl
 ·obtain ⟨_,_,rfl⟩:=List.mem_map.mp m
  rfl
end Head
namespace Head
open PySem PySem.W PyProof.Rows
abbrev q0:Program:=view PySem.Challenge.pw_pollproof_k87_whole_margin_of_lists [66]
abbrev r0:OpenRow:=OpenLaw.row PySem.Challenge.rw_pollproof_k87_whole_margin_of_lists
abbrev lo0:List PySem.Str:=[PySem.Str.ofString "_wall",PySem.Str.ofString "PollError",PySem.Str.ofString "NoNumber",PySem.Str.ofString "NoChange",PySem.Str.ofString "NoWay",PySem.Str.ofString "is_whole",PySem.Str.ofString "divisor",PySem.Str.ofString "down",PySem.Str.ofString "up",PySem.Str.ofString "fraction",PySem.Str.ofString "under",PySem.Str.ofString "holds",PySem.Str.ofString "with_one",PySem.Str.ofString "members",PySem.Str.ofString "numbers_by_slip",PySem.Str.ofString "sheet_from",PySem.Str.ofString "ballots_in",PySem.Str.ofString "number_of",PySem.Str.ofString "check_row",PySem.Str.ofString "changed",PySem.Str.ofString "MOST_HANDS",PySem.Str.ofString "MOST_SEATS",PySem.Str.ofString "are_hands",PySem.Str.ofString "are_seats",PySem.Str.ofString "are_lots",PySem.Str.ofString "Way",PySem.Str.ofString "MOST_STEP",PySem.Str.ofString "vote_of",PySem.Str.ofString "votes_of",PySem.Str.ofString "is_hurdle",PySem.Str.ofString "is_step",PySem.Str.ofString "Lists",PySem.Str.ofString "free_for",PySem.Str.ofString "turn_of",PySem.Str.ofString "rows_to",PySem.Str.ofString "shift",PySem.Str.ofString "pairs_by_seats",PySem.Str.ofString "Margin",PySem.Str.ofString "ListsMargin",PySem.Str.ofString "_law_cell",PySem.Str.ofString "_law_mixed",PySem.Str.ofString "_law_whole",PySem.Str.ofString "_law_divisor",PySem.Str.ofString "_law_lowest",PySem.Str.ofString "_law_slip",PySem.Str.ofString "_law_number",PySem.Str.ofString "_law_sheet",PySem.Str.ofString "_law_lots",PySem.Str.ofString "_law_hurdle",PySem.Str.ofString "_law_way",PySem.Str.ofString "_law_fewer",PySem.Str.ofString "_law_is_slip",PySem.Str.ofString "_law_changed",PySem.Str.ofString "_law_another",PySem.Str.ofString "_law_like_anew"]
set_option maxRecDepth 100000 in
set_option maxHeartbeats 0 in
theorem Re (w:World) (os:OsState):(R0 r0.prog w 100000 os).map (fun s=>((boot_heap w.params).isNs mainGlobals,staticsOk (importedModules r0.prog.main.body) (boot_heap w.params) s.abs.heap && namesBound r0.prog s.abs.heap && gensDone s.abs && laidKept (boot_heap w.params) s.abs.heap))=some (true,true):=by kernel_rfl
set_option maxRecDepth 100000 in
set_option maxHeartbeats 0 in
theorem Rf (w:World) (os:OsState):(R0 r0.prog w 100000 os).map (fun s=>((openSeen q0 lo0 (importedModules r0.prog.main.body) (fun s=>xlAt q0 [] s && recOk (RowW.records (OpenRow.toRowW r0)) s) true s.abs).1,(openSeen q0 lo0 (importedModules r0.prog.main.body) (fun s=>xlAt q0 [] s && recOk (RowW.records (OpenRow.toRowW r0)) s) true s.abs).2.1))=some ((openGood q0 lo0).1,(openGood q0 lo0).2.1):=by kernel_rfl
set_option maxRecDepth 100000 in
set_option maxHeartbeats 0 in
theorem Rg (w:World) (os:OsState):(R0 r0.prog w 100000 os).map (fun s=>(openSeen q0 lo0 (importedModules r0.prog.main.body) (fun s=>xlAt q0 [] s && recOk (RowW.records (OpenRow.toRowW r0)) s) true s.abs).2.2.1)=some (openGood q0 lo0).2.2.1:=by kernel_rfl
set_option maxRecDepth 100000 in
set_option maxHeartbeats 0 in
theorem Rh (w:World) (os:OsState):(R0 r0.prog w 100000 os).map (fun s=>(openSeen q0 lo0 (importedModules r0.prog.main.body) (fun s=>xlAt q0 [] s && recOk (RowW.records (OpenRow.toRowW r0)) s) true s.abs).2.2.2)=some (openGood q0 lo0).2.2.2:=by kernel_rfl
local macro_rules | `(tactic| o_head $H)=>do
 let (hl,hw,hc):=(Lean.mkIdent `hl,Lean.mkIdent `hw,Lean.mkIdent `hc)
 `(tactic| (
   refine holds_open (r:=r0) (q:=q0) (loose:=[PySem.Str.ofString "_wall",PySem.Str.ofString "PollError",PySem.Str.ofString "NoNumber",PySem.Str.ofString "NoChange",PySem.Str.ofString "NoWay",PySem.Str.ofString "is_whole",PySem.Str.ofString "divisor",PySem.Str.ofString "down",PySem.Str.ofString "up",PySem.Str.ofString "fraction",PySem.Str.ofString "under",PySem.Str.ofString "holds",PySem.Str.ofString "with_one",PySem.Str.ofString "members",PySem.Str.ofString "numbers_by_slip",PySem.Str.ofString "sheet_from",PySem.Str.ofString "ballots_in",PySem.Str.ofString "number_of",PySem.Str.ofString "check_row",PySem.Str.ofString "changed",PySem.Str.ofString "MOST_HANDS",PySem.Str.ofString "MOST_SEATS",PySem.Str.ofString "are_hands",PySem.Str.ofString "are_seats",PySem.Str.ofString "are_lots",PySem.Str.ofString "Way",PySem.Str.ofString "MOST_STEP",PySem.Str.ofString "vote_of",PySem.Str.ofString "votes_of",PySem.Str.ofString "is_hurdle",PySem.Str.ofString "is_step",PySem.Str.ofString "Lists",PySem.Str.ofString "free_for",PySem.Str.ofString "turn_of",PySem.Str.ofString "rows_to",PySem.Str.ofString "shift",PySem.Str.ofString "pairs_by_seats",PySem.Str.ofString "Margin",PySem.Str.ofString "ListsMargin",PySem.Str.ofString "_law_cell",PySem.Str.ofString "_law_mixed",PySem.Str.ofString "_law_whole",PySem.Str.ofString "_law_divisor",PySem.Str.ofString "_law_lowest",PySem.Str.ofString "_law_slip",PySem.Str.ofString "_law_number",PySem.Str.ofString "_law_sheet",PySem.Str.ofString "_law_lots",PySem.Str.ofString "_law_hurdle",PySem.Str.ofString "_law_way",PySem.Str.ofString "_law_fewer",PySem.Str.ofString "_law_is_slip",PySem.Str.ofString "_law_changed",PySem.Str.ofString "_law_another",PySem.Str.ofString "_law_like_anew"]) (N:=100000)
    (Xt:=fun s=>xlAt q0 [] s && recOk (RowW.records (OpenRow.toRowW r0)) s)
    (XP:=XL q0 []) (Yf:=Hook.obs $H) (Ya:=Hook.val $H) (YP:=Hook.says $H)
    ?$hl (Hook.of $H) (Hook.keeps $H) (fun s e=>xl_of s (Bool.and_eq_true_iff.mp e).1) XL.keeps
    (by rfl) (by rfl) (by rfl) (fun s e=>recFacts_of (Bool.and_eq_true_iff.mp e).2) (by rfl) (by assumption)
    (by decide +kernel) ⟨rfl,rfl,rfl,rfl,rfl,by decide +kernel⟩ ?$hw ?$hc;
   (next=>(exact QX (by kernel_rfl) (by decide) (fun s=>by kernel_rfl) Re Rf Rg Rh (Qt (fun w os=>by kernel_rfl))))))
set_option maxRecDepth 100000 in
set_option maxHeartbeats 0 in
open_top top for PySem.Challenge.rw_pollproof_k87_whole_margin_of_lists
end Head
local macro_rules | `(tactic| omega)=>`(tactic| first | lia | omega (config:={}))
namespace L2
open PySem PySem.Spec PyProof.Rows
abbrev Key:=Sum Int Str
def IU:Key->Value->Bool
 | .inl k,v=>Value.isInt k v
 | .inr x,v=>Value.isStrOf x v
def RH (w:World):Key->Int
 | .inl k=>hashInt k
 | .inr x=>hashStr w x
theorem B3:∀{k:Key} {v:Value},IU k v=true->(∃i t,k=Sum.inl i/\v=Value.int i t)\/(∃x t,k=Sum.inr x/\v=Value.str x t)
 | .inl i,v,h=>by
   obtain ⟨t,e⟩:=Value.isInt_shape (k:=i) (v:=v) h
   exact .inl ⟨i,t,rfl,e⟩
 | .inr x,v,h=>by
   obtain ⟨t,e⟩:=Value.isStrOf_shape (x:=x) (v:=v) h
   exact .inr ⟨x,t,rfl,e⟩
theorem MR (i:Int) (t:Tok):IU (.inl i) (.int i t)=true:=by simp [IU,Value.isInt]
theorem MS (x:Str) (t:Tok):IU (.inr x) (.str x t)=true:=by simp [IU,Value.isStrOf]
theorem Qo (a b:Int):decide ((Sum.inl a:Key)=Sum.inl b)=(a == b):=by
 by_cases e:a=b
 ·subst e;simp
 ·have h:¬ (Sum.inl a:Key)=Sum.inl b:=fun q=>e (Sum.inl.inj q)
  rw [decide_eq_false h]
  exact (beq_eq_false_iff_ne.mpr e).symm
theorem Qr (a b:Str):decide ((Sum.inr a:Key)=Sum.inr b)=decide (a=b):=by
 by_cases e:a=b
 ·subst e;simp
 ·have h:¬ (Sum.inr a:Key)=Sum.inr b:=fun q=>e (Sum.inr.inj q)
  rw [decide_eq_false h,decide_eq_false e]
theorem Qp (a:Int) (b:Str):decide ((Sum.inl a:Key)=Sum.inr b)=false:=decide_eq_false (fun q=>nomatch q)
theorem Qq (a:Str) (b:Int):decide ((Sum.inr a:Key)=Sum.inl b)=false:=decide_eq_false (fun q=>nomatch q)
def BC (prog:Program) (w:World):PySem.KeyKind prog w Key where
 is:=IU
 hash:=RH w
 inj:=fun v a b ha hb=>by
  rcases B3 ha with ⟨i,t,rfl,rfl⟩ | ⟨x,t,rfl,rfl⟩
  ·rcases B3 hb with ⟨j,u,rfl,e⟩ | ⟨y,u,rfl,e⟩
   ·injection e with e1 _;rw [e1]
   ·exact nomatch e
  ·rcases B3 hb with ⟨j,u,rfl,e⟩ | ⟨y,u,rfl,e⟩
   ·exact nomatch e
   ·injection e with e1 _;rw [e1]
 byValue:=fun k v h=>by
  rcases B3 h with ⟨i,t,rfl,rfl⟩ | ⟨x,t,rfl,rfl⟩ <;> rfl
 pyHash:=fun hv h=>by
  rcases B3 hv with ⟨i,t,rfl,rfl⟩ | ⟨x,t,rfl,rfl⟩
  ·exact wpAny_pyHash_int h
  ·exact wpAny_pyHash_str h
 eqBool:=fun hu hv h=>by
  rcases B3 hu with ⟨i,t,rfl,rfl⟩ | ⟨x,t,rfl,rfl⟩
  ·rcases B3 hv with ⟨j,u,rfl,rfl⟩ | ⟨y,u,rfl,rfl⟩
   ·rw [Qo] at h;exact wpAny_eqBool_int h
   ·rw [Qp] at h;exact SeqAt.EqAt.int_str i t y u _ _ _ _ h
  ·rcases B3 hv with ⟨j,u,rfl,rfl⟩ | ⟨y,u,rfl,rfl⟩
   ·rw [Qq] at h;exact SeqAt.EqAt.str_int x t j u _ _ _ _ h
   ·rw [Qr] at h;exact wpAny_eqBool_str h
 «strs»:=fun k x t v h=>by
  rcases B3 h with ⟨i,u,rfl,e⟩ | ⟨y,u,rfl,e⟩
  ·exact nomatch e
  ·injection e with e1 _
   subst e1
   cases v <;> rfl
theorem Kp (prog:Program) (w:World) (i:Int) (t:Tok):(BC prog w).is (.inl i) (.int i t)=true:=MR i t
theorem Kq (prog:Program) (w:World) (x:Str) (t:Tok):(BC prog w).is (.inr x) (.str x t)=true:=MS x t
end L2
namespace L2
open PySem PySem.Spec PyProof.Rows
inductive V where
 | non | bl (b:Bool) | int (i:Int) | str (x:Str) | byt (b:Array UInt8) | flt (b:UInt64) | ref (a:Addr) | ty (n:String)
 deriving DecidableEq
noncomputable def AS:V->Value->Prop
 | .non,u=>u=Value.none
 | .bl b,u=>u=Value.bool b
 | .int i,u=>∃t,u=Value.int i t
 | .str x,u=>∃t,u=Value.str x t
 | .byt b,u=>∃t,u=Value.bytes b t
 | .flt b,u=>∃t,u=Value.float b t
 | .ref a,u=>u=Value.ref a
 | .ty n,u=>u=Value.type n
abbrev AJ:List V->List Value->Prop:=Paired AS
theorem AJ.length {xs:List V} {us:List Value} (r:AJ xs us):xs.length=us.length:=Paired.length r
theorem AJ.get:∀{xs:List V} {us:List Value} {i:Nat} {x:V},AJ xs us->xs[i]?=some x->∃u,us[i]?=some u/\AS x u
 | _,_,_,_,.nil,e=>by simp at e
 | _,_,0,_,.cons r _,e=>by simp at e;subst e;exact ⟨_,rfl,r⟩
 | _,_,i+1,x,.cons _ t,e=>by
   obtain ⟨u,h1,h2⟩:=AJ.get (i:=i) (x:=x) t (by simpa using e)
   exact ⟨u,by simpa using h1,h2⟩
theorem AJ.set {x:V} {u:Value} (r:AS x u):∀{xs:List V} {us:List Value} (i:Nat),AJ xs us->AJ (xs.set i x) (us.set i u)
 | _,_,_,.nil=>.nil
 | _,_,0,.cons _ t=>.cons r t
 | _,_,i+1,.cons q t=>.cons q (AJ.set r i t)
theorem AJ.append:∀{xs ys:List V} {us ws:List Value},AJ xs us->AJ ys ws->AJ (xs++ys) (us++ws)
 | _,_,_,_,.nil,s=>s
 | _,_,_,_,.cons r t,s=>.cons r (AJ.append t s)
theorem AJ.take:∀{xs:List V} {us:List Value} (n:Nat),AJ xs us->AJ (xs.take n) (us.take n)
 | _,_,0,_=>.nil
 | _,_,_+1,.nil=>.nil
 | _,_,n+1,.cons r t=>.cons r (AJ.take n t)
theorem AJ.drop:∀{xs:List V} {us:List Value} (n:Nat),AJ xs us->AJ (xs.drop n) (us.drop n)
 | _,_,0,r=>r
 | _,_,_+1,.nil=>.nil
 | _,_,n+1,.cons _ t=>AJ.drop n t
noncomputable def Ew:Option V->Option Value->Prop
 | some v,some u=>AS v u
 | none,none=>True
 | _,_=>False
noncomputable def KV {κ:Type}:List (κ × V)->List (κ × Value)->Prop:=Paired fun (p:κ × V) (q:κ × Value)=>p.1=q.1/\AS p.2 q.2
def kV:Key->V
 | .inl i=>.int i
 | .inr x=>.str x
inductive HO where
 | lst (xs:List V)
 | tup (xs:List V)
 | dK (kvs:List (Key × V)) | dT (kvs:List (List Key × V))
 | set (S:Int->Bool) (n:Nat)
 | ins (C dx:Addr) (fs:List (Str × V))
 | own (x:Addr)
 | xd (fs:List (Str × V))
 | met (f x:Addr)
 | rng (lo hi:Int)
 | frz (o:Obj) (u:HO)
 | tbl (ps:Array Value)
 | ext (φ:Heap->Prop)
abbrev Hp:=Addr->Option HO
noncomputable def upd (H:Hp) (a:Addr) (o:HO):Hp:=fun b=>if b=a then some o else H b
theorem Ae {H:Hp} {a:Addr} {o:HO}:upd H a o a=some o:=by unfold upd;rw [if_pos rfl]
theorem Ay {H:Hp} {a b:Addr} {o:HO} (h:b≠a):upd H a o b=H b:=by unfold upd;rw [if_neg h]
theorem CY {H:Hp} {a:Addr} {o u:HO}:upd (upd H a o) a u=upd H a u:=by
 funext b;unfold upd;split <;> rfl
theorem Ds {H:Hp} {a b:Addr} {o u:HO} (h:H a=some o) (h':H b=some u) (d:o≠u):a≠b:=by
 intro e;subst e;rw [h] at h';exact d (Option.some.inj h')
theorem B7 {H:Hp} {a b:Addr} {o:HO} (h:H a=some o) (h':H b=none):a≠b:=by
 intro e;subst e;rw [h] at h';cases h'
section
variable (P:Program) (w:World)
noncomputable def Bx (H:Hp) (h:Heap) (a:Addr):HO->Prop
 | .lst xs=>xs.length<=sizeLine/\∃(its:List Value) (n:Nat),AJ xs its/\h.get? a=some { cls:=.type "list",data:=.seq its.toArray n }
 | .tup xs=>xs.length<=sizeLine/\∃its:List Value,AJ xs its/\IsTup h a its.toArray
 | .dK kvs=>kvs.length<=sizeLine/\(a == sysModules)=false/\∃vs,KV kvs vs/\h.DictOf (BC P w) a vs
 | .dT kvs=>kvs.length<=sizeLine/\(a == sysModules)=false/\∃xs:List (List Key × Addr × Value),
  Paired (fun (p:List Key × V) (q:List Key × Addr × Value)=>p.1=q.1/\H q.2.1=some (.tup (p.1.map kV))/\AS p.2 q.2.2) kvs xs /\
  ∃o es ep,h.get? a=some o/\o.ExactDict/\o.data=.dict es ep/\es.toList=xs.map (entryOfKey (tupleKind (BC P w)))/\(xs.map (·.1)).Nodup
 | .set S n=>h.SetOf (intKind P w) a S n
 | .ins C dx fs=>H dx=some (.own a)/\fs.length<=1000/\dx≠a/\h.get? a=some (PySem.W.instObj C dx) /\
  ∃mA,h.Ns1 dx mA/\(∀f,Ew (fs.lookup f) (mA f))/\PySem.Within mA (fs.map (·.1))
 | .own _=>∃o,h.get? a=some o
 | .xd fs=>∃mA,h.Ns1 a mA/\∀f,Ew (fs.lookup f) (mA f)
 | .rng lo hi=>∃t u v,h.get? a=some { cls:=.type "range",data:=.fields #[.int lo t,.int hi u,.int 1 v] }
 | .frz o u=>h.get? a=some o/\Bx H h a u
 | .tbl ps=>h.get? a=some { cls:=.none,data:=.fields ps }
 | .met f x=>h.get? a=some (PySem.W.methodObj (.ref f) (.ref x))
 | .ext φ=>φ h/\(∃o,h.get? a=some o)/\∀h1 h2:Heap,φ h1->(∀o,h1.get? a=some o->h2.get? a=some o)->φ h2
noncomputable def HOk (H:Hp) (h:Heap):Prop:=∀a o,H a=some o->Bx P w H h a o
end
section
variable {P:Program} {w:World} {H H':Hp} {h h':Heap} {a:Addr} {o:HO}
theorem Bx.lt (x:Bx P w H h a o):a < h.objs.size:=by
 cases o with
 | lst xs=>obtain ⟨_,_,_,_,e⟩:=x;exact Heap.lt_size e
 | tup xs=>obtain ⟨_,_,_,p⟩:=x;exact p.lt
 | dK kvs=>obtain ⟨_,_,_,_,o,_,_,e,_⟩:=x;exact Heap.lt_size e
 | dT kvs=>obtain ⟨_,_,_,_,o,_,_,e,_⟩:=x;exact Heap.lt_size e
 | set S n=>obtain ⟨o,_,_,_,e,_⟩:=x;exact Heap.lt_size e
 | ins C dx fs=>obtain ⟨_,_,_,e,_⟩:=x;exact Heap.lt_size e
 | own y=>obtain ⟨_,e⟩:=x;exact Heap.lt_size e
 | xd fs=>obtain ⟨_,⟨_,_,_,e,_⟩,_⟩:=x;exact Heap.lt_size e
 | rng lo hi=>obtain ⟨_,_,_,e⟩:=x;exact Heap.lt_size e
 | frz ob u=>obtain ⟨e,_⟩:=x;exact Heap.lt_size e
 | tbl ps=>exact Heap.lt_size (show h.get? a=some _ from x)
 | met f y=>exact Heap.lt_size (show h.get? a=some _ from x)
 | ext φ=>obtain ⟨_,⟨_,e⟩,_⟩:=x;exact Heap.lt_size e
theorem Paired.mapP {α β:Type} {F G:α->β->Prop}:∀{l₁:List α} {l₂:List β},Paired F l₁ l₂->(∀a b,F a b->G a b)->Paired G l₁ l₂
 | _,_,.nil,_=>.nil
 | _,_,.cons r t,f=>.cons (f _ _ r) (Paired.mapP t f)
theorem Bx.stay (x:Bx P w H h a o) (k:∀b u,(b=a\/H b=some (.own a))->h.get? b=some u->h'.get? b=some u)
 (ho:∀b,H b=some (.own a)->H' b=some (.own a)) (ht:∀b xs,H b=some (.tup xs)->H' b=some (.tup xs)):Bx P w H' h' a o:=by
 induction o with
 | lst xs=>obtain ⟨z,its,n,r,e⟩:=x;exact ⟨z,its,n,r,k _ _ (.inl rfl) e⟩
 | tup xs=>obtain ⟨z,its,r,ob,e,c⟩:=x;exact ⟨z,its,r,ob,k _ _ (.inl rfl) e,c⟩
 | dK kvs=>obtain ⟨z,y,vs,r,ob,es,ep,e,c⟩:=x;exact ⟨z,y,vs,r,ob,es,ep,k _ _ (.inl rfl) e,c⟩
 | dT kvs =>
   obtain ⟨z,y,xs,r,ob,es,ep,e,c⟩:=x
   exact ⟨z,y,xs,Paired.mapP r fun p q z=>⟨z.1,ht _ _ z.2.1,z.2.2⟩,ob,es,ep,k _ _ (.inl rfl) e,c⟩
 | set S n=>obtain ⟨ob,es,ep,t,e,c⟩:=x;exact ⟨ob,es,ep,t,k _ _ (.inl rfl) e,c⟩
 | ins C dx fs =>
   obtain ⟨d,z,ne,e,mA,⟨od,es,ep,e2,c⟩,r⟩:=x
   exact ⟨ho _ d,z,ne,k _ _ (.inl rfl) e,mA,⟨od,es,ep,k _ _ (.inr d) e2,c⟩,r⟩
 | own y=>obtain ⟨ob,e⟩:=x;exact ⟨ob,k _ _ (.inl rfl) e⟩
 | xd fs=>obtain ⟨mA,⟨od,es,ep,e,c⟩,r⟩:=x;exact ⟨mA,⟨od,es,ep,k _ _ (.inl rfl) e,c⟩,r⟩
 | rng lo hi=>obtain ⟨t,u,v,e⟩:=x;exact ⟨t,u,v,k _ _ (.inl rfl) e⟩
 | frz ob u ih=>obtain ⟨e,q⟩:=x;exact ⟨k _ _ (.inl rfl) e,ih q⟩
 | tbl ps =>
   have e:h.get? a=some { cls:=.none,data:=.fields ps }:=x
   show h'.get? a=some { cls:=.none,data:=.fields ps }
   exact k a _ (.inl rfl) e
 | met f y =>
   have e:h.get? a=some (PySem.W.methodObj (.ref f) (.ref y)):=x
   show h'.get? a=some (PySem.W.methodObj (.ref f) (.ref y))
   exact k a _ (.inl rfl) e
 | ext φ=>obtain ⟨p,⟨o,e⟩,st⟩:=x;exact ⟨st _ _ p fun o q=>k _ _ (.inl rfl) q,⟨o,k _ _ (.inl rfl) e⟩,st⟩
theorem HOk.lt (x:HOk P w H h) (e:H a=some o):a < h.objs.size:=(x a o e).lt
theorem HOk.fresh (x:HOk P w H h) (e:h.objs.size<=a):H a=none:=by
 cases q:H a with
 | none=>rfl
 | some u=>exact absurd (Nat.lt_of_lt_of_le (x.lt q) e) (Nat.lt_irrefl _)
theorem HOk.kept (x:HOk P w H h) (k:∀b u,h.get? b=some u->h'.get? b=some u):HOk P w H h':=fun a o e =>
 (x a o e).stay (fun b u _ q=>k b u q) (fun _ q=>q) fun _ _ q=>q
theorem HOk.laid (x:HOk P w H h) (k:∀b u,h.get? b=some u->h'.get? b=some u) (hp:h.objs.size<=a) (new:Bx P w (upd H a o) h' a o):HOk P w (upd H a o) h':=fun b u e=>by
 have hn:=x.fresh hp
 by_cases hb:b=a
 ·subst hb;rw [Ae] at e;cases e;exact new
 ·rw [Ay hb] at e
  exact (x b u e).stay (fun c v _ q=>k c v q) (fun c q=>by rw [Ay (B7 q hn)];exact q) fun c xs q=>by rw [Ay (B7 q hn)];exact q
end
noncomputable def Rd (H:Hp) (a:Addr) (u:HO):Prop:=H a=some u\/∃o,H a=some (.frz o u)
theorem Rd.ok {P:Program} {w:World} {H:Hp} {h:Heap} {a:Addr} {u:HO} (r:Rd H a u) (x:HOk P w H h):Bx P w H h a u:=by
 rcases r with r | ⟨o,r⟩
 ·exact x a u r
 ·obtain ⟨_,q⟩:=x a _ r
  exact q
noncomputable def Mut:Option HO->Prop
 | some (.lst _)=>True
 | some (.dK _)=>True
 | some (.dT _)=>True
 | some (.set _ _)=>True
 | some (.ins _ _ _)=>True
 | some (.ext _)=>True
 | _=>False
section
variable {P:Program} {w:World} {H:Hp} {h h':Heap} {x e:Addr} {o':HO}
theorem HOk.write (ok:HOk P w H h) (mu:Mut (H x)) (he:e=x\/H e=some (.own x)) (k:∀b u,b≠e->h.get? b=some u->h'.get? b=some u) (heo:∃u,h'.get? e=some u)
 (new:Bx P w (upd H x o') h' x o'):HOk P w (upd H x o') h':=fun b u q=>by
 have nown:∀c y,H c=some (.own y)->c≠x:=fun c y r z=>by subst z;rw [r] at mu;exact mu
 have ntup:∀c xs,H c=some (.tup xs)->c≠x:=fun c xs r z=>by subst z;rw [r] at mu;exact mu
 by_cases hb:b=x
 ·subst hb;rw [Ae] at q;cases q;exact new
 ·rw [Ay hb] at q
  by_cases hbe:b=e
  ·have q':H b=some (.own x):=by
    rcases he with z | z
    ·exact absurd (hbe.trans z) hb
    ·rw [hbe];exact z
   rw [q] at q';cases q'
   obtain ⟨v,hv⟩:=heo
   exact ⟨v,by rw [hbe];exact hv⟩
  ·refine (ok b u q).stay (fun c v hc r=>k c v ?_ r) (fun c r=>by rw [Ay (nown c b r)];exact r) fun c xs r=>by rw [Ay (ntup c xs r)];exact r
   rcases hc with rfl | hc
   ·exact hbe
   ·rintro rfl
    rcases he with z | z
    ·exact nown c b hc z
    ·rw [hc] at z;cases z;exact hb rfl
end
structure Un (fs ex:List Addr) (H H':Hp) (h h':Heap):Prop where
 keep:∀b o,h.get? b=some o->H b=none->b ∉ fs->b ∉ ex->h'.get? b=some o
 slot:∀b o,h.get? b=some o->H b=none->b∈fs->b ∉ ex->∃sl,h'.get? b=some { o with slots:=sl }
 free:∀b o,h.get? b=some o->H b=none->b ∉ ex->H' b=none
 there:∀b o,h.get? b=some o->b ∉ ex->∃o',h'.get? b=some o'
 tups:∀b xs,H b=some (.tup xs)->H' b=some (.tup xs)
 frzs:∀b o u,H b=some (.frz o u)->H' b=some (.frz o u)
 tbls:∀b ps,H b=some (.tbl ps)->∃more,H' b=some (.tbl (ps++more))
section
variable {fs fs' ex ex':List Addr} {H H1 H2:Hp} {h h1 h2 h':Heap} {a x e:Addr} {o:HO}
theorem Un.any (u:Un fs ex H H1 h h1) {b:Addr} {ob:Obj} (q:h.get? b=some ob) (n:H b=none) (hx:b ∉ ex):∃sl,h1.get? b=some { ob with slots:=sl }:=by
 by_cases hb:b∈fs
 ·exact u.slot b ob q n hb hx
 ·exact ⟨ob.slots,u.keep b ob q n hb hx⟩
theorem Un.kept (k:∀b u,h.get? b=some u->h'.get? b=some u):Un fs ex H H h h' :=
 ⟨fun b ob q _ _ _=>k b ob q,fun b ob q _ _ _=>⟨ob.slots,k b ob q⟩,fun _ _ _ n _=>n,fun b ob q _=>⟨ob,k b ob q⟩,fun _ _ q=>q,fun _ _ _ q=>q,fun _ ps q=>⟨#[],by rw [q];simp⟩⟩
theorem Un.refl:Un fs ex H H h h:=Un.kept fun _ _ q=>q
theorem Un.laid (k:∀b u,h.get? b=some u->h'.get? b=some u) (hp:h.objs.size<=a) (hn:H a=none):Un fs ex H (upd H a o) h h' where
 keep:=fun b u q _ _ _=>k b u q
 slot:=fun b u q _ _ _=>⟨u.slots,k b u q⟩
 free:=fun b u q n _=>by rw [Ay (Nat.ne_of_lt (Nat.lt_of_lt_of_le (Heap.lt_size q) hp))];exact n
 there:=fun b u q _=>⟨u,k b u q⟩
 tups:=fun b xs q=>by rw [Ay (B7 q hn)];exact q
 frzs:=fun b u xs q=>by rw [Ay (B7 q hn)];exact q
 tbls:=fun b ps q=>⟨#[],by rw [Ay (B7 q hn),q];simp⟩
theorem Un.write (mu:Mut (H x)) (he:e=x\/H e=some (.own x)) (k:∀b u,b≠e->h.get? b=some u->h'.get? b=some u) (heo:∃u,h'.get? e=some u):Un fs ex H (upd H x o) h h':=by
 have hx:∀b,H b=none->b≠x:=fun b n z=>by subst z;rw [n] at mu;exact mu
 have hb:∀b,H b=none->b≠e:=fun b n z=>by
  subst z
  rcases he with r | r
  ·exact hx b n r
  ·rw [n] at r;cases r
 have hm:∀b u,H b=some u->¬ Mut (some u)->b≠x:=fun b u q nm z=>by subst z;rw [q] at mu;exact nm mu
 refine ⟨fun b u q n _ _=>k b u (hb b n) q,fun b u q n _ _=>⟨u.slots,k b u (hb b n) q⟩,fun b u q n _=>by rw [Ay (hx b n)];exact n,fun b u q _=>?_,
  fun b xs q=>by rw [Ay (hm b _ q fun z=>z)];exact q,fun b u xs q=>by rw [Ay (hm b _ q fun z=>z)];exact q,fun b ps q=>⟨#[],by rw [Ay (hm b _ q fun z=>z),q];simp⟩⟩
 by_cases hbe:b=e
 ·subst hbe;exact heo
 ·exact ⟨u,k b u hbe q⟩
end
noncomputable def trk (h:Heap) (H:Hp):List Addr:=(List.range h.objs.size).filter fun a=>(H a).isSome
noncomputable def Jy (h:Heap) (H:Hp):Heap:=PySem.W.hideAll h (trk h H)
theorem MN (h:Heap) (H:Hp):(Jy h H).objs.size=h.objs.size:=PySem.W.hideAll_size _ _
theorem NI {h:Heap} {H:Hp} {b:Addr} {o:Obj} (e:h.get? b=some o) (n:H b=none):(Jy h H).get? b=some o :=
 PySem.W.hideAll_get _ e fun hm=>by
  have q:(H b).isSome=true:=(List.mem_filter.mp hm).2
  rw [n] at q;simp at q
theorem OX {h:Heap} {H:Hp} {b:Addr} {o:Obj} (e:(Jy h H).get? b=some o):h.get? b=some o/\H b=none:=by
 have e':h.get? b=some o:=PySem.W.of_hideAll (trk h H) e
 refine ⟨e',?_⟩
 cases q:H b with
 | none=>rfl
 | some x =>
   have hm:b∈trk h H:=List.mem_filter.mpr ⟨List.mem_range.mpr (Heap.lt_size e'),by simp [q]⟩
   have z:(Jy h H).get? b=none:=PySem.W.hideAll_none (trk h H) hm
   rw [z] at e;cases e
end L2
namespace L2
open PySem PySem.Spec PyProof.Rows
structure Mod (K:PySem.W.Frag) (mg:Str->Option Value) (base:Heap):Prop where
 kin:K.In base
 glob:base.Ns mainGlobals mg
 blt:∃mb,base.Ns builtinsNs mb/\∀x:Str,x≠"__name__"->mb x=bootBuiltins x
 nolimit:base.NoLimit
structure Cx where
 prog:Program
 w:World
 K:PySem.W.Frag
 mg:Str->Option Value
 base:Heap
 A:Around
 N:List Str
 s₀:Shared
 H₀:Hp
 env:Env
 outer:List Env
 stack:List Env
 ex:List Addr
 fn:Str->Bool
 calm:Bool
 pn:List (Addr × Obj)
 xe:Value->Shared->Prop
def frs (l:List Env):List Addr:=l.filterMap (·.frame)
abbrev Cx.fs (X:Cx):List Addr:=frs X.outer
noncomputable def Vis (sc:Scope) (x:Str):Prop:=sc.names.lookup x=some .local\/sc.names.lookup x=some .cell\/sc.names.lookup x=some .free
noncomputable def Loc (sc:Scope) (x:Str):Prop:=sc.names.lookup x=some .local\/sc.names.lookup x=some .cell
noncomputable def RA (env:Env) (h:Heap) (m:Str->Option Value) (x:Str) (u:Value):Prop :=
 (env.kindOf x=some .local/\m x=some u)\/((env.kindOf x=some .cell\/env.kindOf x=some .free)/\∃c,env.cells.lookup x=some c/\h.IsCell c (some u))
structure Cx.Ok (X:Cx):Prop where
 mod:Mod X.K X.mg X.base
 kind:X.env.scope.kind=.function
 glob:X.env.globals=mainGlobals
 blt:X.env.builtins=builtinsNs
 above:X.s₀.heap.objs.size<=X.env.locals
 inj:∀x y c,X.env.cells.lookup x=some c->X.env.cells.lookup y=some c->x=y
 has:∀x,(X.env.kindOf x=some .cell\/X.env.kindOf x=some .free)->∃c,X.env.cells.lookup x=some c
 cab:∀x c,X.fn x=true->X.env.cells.lookup x=some c->X.s₀.heap.objs.size<=c
 hd:X.calm=true->X.A.handled=none
 frames:X.A.frames=some X.stack
 stk:X.stack=X.outer\/(X.stack=X.env :: X.outer/\X.env.frame=some X.env.locals)
 exf:∀b∈X.ex,b≠X.env.locals/\∀x c,X.env.cells.lookup x=some c->c≠b
 bs:∀b o,X.base.get? b=some o->X.s₀.heap.get? b=some o/\X.H₀ b=none
 bsz:X.base.objs.size<=X.s₀.heap.objs.size
 noex:∀b o,X.base.get? b=some o->b ∉ X.ex
 exfs:∀b∈X.ex,b ∉ X.fs
 funs:X.s₀.heap.FunFrames X.base X.outer
 frf:∀b∈X.fs,X.H₀ b=none
structure Inv (X:Cx) (pins:List (Addr × Obj)) (σ:List (Option V)) (H:Hp) (s:Shared):Prop where
 ok:X.Ok
 os:s.os=X.s₀.os
 bare:AllBare s.gens
 base:Un X.fs X.ex X.H₀ H X.s₀.heap s.heap
 loc:∃m,s.heap.Ns X.env.locals m/\∀(i:Nat) (x:Str) (v:V),X.N[i]?=some x->σ[i]?=some (some v)->Vis X.env.scope x->∃u,AS v u/\RA X.env s.heap m x u
 cell:∀x c,X.env.cells.lookup x=some c->∃v,s.heap.IsCell c v
 free:H X.env.locals=none
 freeC:∀x c,X.env.cells.lookup x=some c->H c=none
 pin:∀p∈X.pn++pins,s.heap.get? p.1=some p.2/\H p.1=none/\p.1≠X.env.locals/\p.1 ∉ X.fs/\∀v,p.2.data≠.cell v
 hok:HOk X.prog X.w H s.heap
 len:σ.length=X.N.length
section
variable {X:Cx} {pins:List (Addr × Obj)} {σ:List (Option V)} {H H':Hp} {s:Shared} {h':Heap}
theorem Cx.Ok.nofr (ok:X.Ok) {b:Addr} {o:Obj} (e:X.base.get? b=some o):b ∉ X.fs:=fun hb=>by
 have:=(ok.funs.mem hb).1
 rw [e] at this;cases this
theorem Inv.bs (I:Inv X pins σ H s):∀b o,X.base.get? b=some o->s.heap.get? b=some o/\H b=none:=fun b o e =>
 ⟨I.base.keep b o (I.ok.bs b o e).1 (I.ok.bs b o e).2 (I.ok.nofr e) (I.ok.noex b o e),I.base.free b o (I.ok.bs b o e).1 (I.ok.bs b o e).2 (I.ok.noex b o e)⟩
theorem Inv.bk (I:Inv X pins σ H s):∀b o,X.base.get? b=some o->s.heap.get? b=some o:=fun b o e=>(I.bs b o e).1
theorem Inv.mod (I:Inv X pins σ H s):Mod X.K X.mg X.base:=I.ok.mod
theorem Inv.kIn (I:Inv X pins σ H s):X.K.In s.heap:=I.ok.mod.kin.keeps I.bk
theorem Inv.lt (I:Inv X pins σ H s):X.env.locals < s.heap.objs.size:=let ⟨_,hn,_⟩:=I.loc;hn.lt
theorem Inv.sz (I:Inv X pins σ H s):X.s₀.heap.objs.size<=s.heap.objs.size:=Nat.le_trans I.ok.above (Nat.le_of_lt I.lt)
theorem Inv.nofs (I:Inv X pins σ H s) {a:Addr} (h:s.heap.objs.size<=a):a ∉ X.fs:=fun hb=>by
 obtain ⟨_,o,ho,_⟩:=I.ok.funs.mem hb
 exact absurd (Nat.lt_of_lt_of_le (Heap.lt_size ho) (Nat.le_trans I.sz h)) (Nat.lt_irrefl _)
theorem Inv.cne (I:Inv X pins σ H s):∀x c,X.env.cells.lookup x=some c->c≠X.env.locals:=fun x c e z=>by
 obtain ⟨v,o,ho,hd⟩:=I.cell x c e
 obtain ⟨m,⟨o',es,ep,ho',hd',_⟩,_⟩:=I.loc
 rw [z,ho'] at ho;cases ho;rw [hd'] at hd;cases hd
theorem Inv.funs (I:Inv X pins σ H s):s.heap.FunFrames X.base X.outer:=by
 have all:∀(l:List Env),(∀b∈frs l,b∈X.fs)->X.s₀.heap.FunFrames X.base l->s.heap.FunFrames X.base l:=by
  intro l
  induction l with
  | nil=>intro _ _;trivial
  | cons env r ih =>
    intro hs hl
    obtain ⟨hk,⟨L,o,hf,hn,ho,hd⟩,hr⟩:=hl
    have hL:L∈X.fs:=hs L (by unfold frs;rw [List.filterMap_cons,hf];exact List.mem_cons_self)
    obtain ⟨sl,e⟩:=I.base.slot L o ho (I.ok.frf L hL) hL fun z=>I.ok.exfs L z hL
    exact ⟨hk,⟨L,_,hf,hn,e,hd⟩,ih (fun b hb=>hs b (by unfold frs;rw [List.filterMap_cons,hf];exact List.mem_cons_of_mem _ hb)) hr⟩
 exact all X.outer (fun _ hb=>hb) I.ok.funs
theorem Inv.stack (I:Inv X pins σ H s):s.heap.FunFrames X.base X.stack:=by
 rcases I.ok.stk with e | ⟨e,hf⟩
 ·rw [e];exact I.funs
 ·rw [e]
  obtain ⟨m,hn,_⟩:=I.loc
  refine .cons (by rw [I.ok.kind];decide) hf hn ?_ I.funs
  exact Heap.get?_none_of_le (Nat.le_trans I.ok.bsz I.ok.above)
theorem Inv.stkSub (I:Inv X pins σ H s):∀b∈frs X.stack,b∈X.env.locals :: X.fs:=fun b hb=>by
 rcases I.ok.stk with e | ⟨e,hf⟩
 ·rw [e] at hb;exact List.mem_cons_of_mem _ hb
 ·rw [e] at hb
  unfold frs at hb
  rw [List.filterMap_cons,hf] at hb
  exact hb
theorem Inv.stkFree (I:Inv X pins σ H s):∀b∈frs X.stack,H b=none:=fun b hb=>by
 rcases List.mem_cons.mp (I.stkSub b hb) with e | hb
 ·rw [e];exact I.free
 ·obtain ⟨_,o,ho,_⟩:=I.ok.funs.mem hb
  exact I.base.free b o ho (I.ok.frf b hb) fun z=>I.ok.exfs b z hb
theorem Inv.step {g':Array GenState} {t':Nat} {d':Drawn} {ch:List Addr} (I:Inv X pins σ H s)
 (hch:∀b∈ch,(b∈X.ex\/X.s₀.heap.objs.size<=b)/\b≠X.env.locals/\(∀x c,X.env.cells.lookup x=some c->c≠b)/\∀p∈X.pn++pins,p.1≠b)
 (keep:∀b o,b≠X.env.locals->b ∉ X.fs->b ∉ ch->s.heap.get? b=some o->H b=none->h'.get? b=some o)
 (slot:∀b o,b≠X.env.locals->b∈X.fs->b ∉ ch->s.heap.get? b=some o->H b=none->∃sl,h'.get? b=some { o with slots:=sl }) (free:∀b o,b ∉ ch->s.heap.get? b=some o->H b=none->H' b=none)
 (there:∀b o,b ∉ ch->s.heap.get? b=some o->∃o',h'.get? b=some o')
 (tups:∀b xs,H b=some (.tup xs)->H' b=some (.tup xs)) (frzs:∀b o u,H b=some (.frz o u)->H' b=some (.frz o u)) (tbls:∀b ps,H b=some (.tbl ps)->∃more,H' b=some (.tbl (ps++more)))
 (ns:∀m,s.heap.Ns X.env.locals m->h'.Ns X.env.locals m) (hok:HOk X.prog X.w H' h') (hg:AllBare g') :
 Inv X pins σ H' { s with heap:=h',gens:=g',drawn:=d',toks:=t' }:=by
 have neL:∀b o,X.s₀.heap.get? b=some o->b≠X.env.locals:=fun b o e=>Nat.ne_of_lt (Nat.lt_of_lt_of_le (Heap.lt_size e) I.ok.above)
 have neC:∀b o,X.s₀.heap.get? b=some o->b ∉ X.ex->b ∉ ch:=fun b o e hx hb=>by
  rcases (hch b hb).1 with z | z
  ·exact hx z
  ·exact absurd (Nat.lt_of_lt_of_le (Heap.lt_size e) z) (Nat.lt_irrefl _)
 have cellK:∀x c,X.env.cells.lookup x=some c->∀v,s.heap.IsCell c v->h'.IsCell c v:=fun x c e v ⟨o,ho,hd⟩=>by
  have nch:c ∉ ch:=fun z=>(hch c z).2.2.1 x c e rfl
  by_cases hc:c∈X.fs
  ·obtain ⟨sl,q⟩:=slot c o (I.cne x c e) hc nch ho (I.freeC x c e)
   exact ⟨_,q,hd⟩
  ·exact ⟨o,keep c o (I.cne x c e) hc nch ho (I.freeC x c e),hd⟩
 refine ⟨I.ok,I.os,hg,⟨fun b o e n hb hx=>?_,fun b o e n hb hx=>?_,fun b o e n hx=>?_,fun b o e hx=>?_,fun b xs e=>tups b xs (I.base.tups b xs e),fun b o xs e=>frzs b o xs (I.base.frzs b o xs e),fun b ps e=>?_⟩,?_,fun x c e=>?_,?_,fun x c e=>?_,fun p hp=>?_,hok,I.len⟩
 ·exact keep b o (neL b o e) hb (neC b o e hx) (I.base.keep b o e n hb hx) (I.base.free b o e n hx)
 ·obtain ⟨sl,e1⟩:=I.base.slot b o e n hb hx
  obtain ⟨sl',e2⟩:=slot b _ (neL b o e) hb (neC b o e hx) e1 (I.base.free b o e n hx)
  exact ⟨sl',e2⟩
 ·obtain ⟨o',e1⟩:=I.base.there b o e hx
  exact free b o' (neC b o e hx) e1 (I.base.free b o e n hx)
 ·obtain ⟨o',e1⟩:=I.base.there b o e hx
  exact there b o' (neC b o e hx) e1
 ·obtain ⟨m1,e1⟩:=I.base.tbls b ps e
  obtain ⟨m2,e2⟩:=tbls b _ e1
  exact ⟨m1++m2,by rw [e2,Array.append_assoc]⟩
 ·obtain ⟨m,hn,hl⟩:=I.loc
  refine ⟨m,ns m hn,fun i x v e1 e2 e3=>?_⟩
  obtain ⟨u,r,l⟩:=hl i x v e1 e2 e3
  refine ⟨u,r,?_⟩
  rcases l with l | ⟨k,c,e,z⟩
  ·exact .inl l
  ·exact .inr ⟨k,c,e,cellK x c e _ z⟩
 ·obtain ⟨v,z⟩:=I.cell x c e
  exact ⟨v,cellK x c e v z⟩
 ·obtain ⟨m,⟨o,_,_,ho,_⟩,_⟩:=I.loc
  exact free _ o (fun z=>(hch _ z).2.1 rfl) ho I.free
 ·obtain ⟨v,o,ho,hd⟩:=I.cell x c e
  exact free c o (fun z=>(hch c z).2.2.1 x c e rfl) ho (I.freeC x c e)
 ·obtain ⟨e,n,ne,nf,d⟩:=I.pin p hp
  have nch:p.1 ∉ ch:=fun z=>(hch p.1 z).2.2.2 p hp rfl
  exact ⟨keep p.1 p.2 ne nf nch e n,free p.1 p.2 nch e n,ne,nf,d⟩
theorem Inv.un {t':Nat} (I:Inv X pins σ H s) (u:Un X.fs [] H H' s.heap h') (hok:HOk X.prog X.w H' h'):Inv X pins σ H' { s with heap:=h',toks:=t' }:=by
 obtain ⟨m,⟨o,es,ep,ho,r⟩,_⟩:=id I.loc
 obtain ⟨sl,hL⟩:=u.any ho I.free (by simp)
 exact I.step (g':=s.gens) (d':=s.drawn) (ch:=[]) (fun _ z=>nomatch z) (fun b o _ hb _ e n=>u.keep b o e n hb (by simp)) (fun b o _ hb _ e n=>u.slot b o e n hb (by simp)) (fun b o _ e n=>u.free b o e n (by simp)) (fun b o _ e=>u.there b o e (by simp)) u.tups u.frzs u.tbls (fun m' hm=>by
  obtain ⟨o',es',ep',ho',r'⟩:=hm
  rw [ho] at ho';cases ho'
  exact ⟨_,es',ep',hL,r'⟩) hok I.bare
theorem Inv.call {g':Array GenState} {t':Nat} {d':Drawn} {ch:List Addr} (I:Inv X pins σ H s) (u:Un (frs X.stack) ch H H' s.heap h') (hok:HOk X.prog X.w H' h') (hg:AllBare g')
 (hch:∀b∈ch,(b∈X.ex\/X.s₀.heap.objs.size<=b)/\b≠X.env.locals/\(∀x c,X.env.cells.lookup x=some c->c≠b)/\∀p∈X.pn++pins,p.1≠b) :
 Inv X pins σ H' { s with heap:=h',gens:=g',drawn:=d',toks:=t' }:=by
 obtain ⟨m,⟨o,es,ep,ho,r⟩,_⟩:=id I.loc
 obtain ⟨sl,hL⟩:=u.any ho I.free fun z=>(hch _ z).2.1 rfl
 exact I.step (ch:=ch) hch (fun b o hL hb hc e n=>u.keep b o e n (fun z=>(List.mem_cons.mp (I.stkSub b z)).elim hL hb) hc) (fun b o _ _ hc e n=>u.any e n hc) (fun b o hc e n=>u.free b o e n hc) (fun b o hc e=>u.there b o e hc) u.tups u.frzs u.tbls (fun m' hm=>by
  obtain ⟨o',es',ep',ho',r'⟩:=hm
  rw [ho] at ho';cases ho'
  exact ⟨_,es',ep',hL,r'⟩) hok hg
theorem Inv.turned {t':Nat} {it:Addr} (I:Inv X pins σ H s) (k:∀b o,b≠it->s.heap.get? b=some o->h'.get? b=some o) (hn:H it=none) (hL:it≠X.env.locals)
 (h1:it∈X.ex\/X.s₀.heap.objs.size<=it) (h2:∀x c,X.env.cells.lookup x=some c->c≠it) (h3:∀p∈X.pn++pins,p.1≠it):Inv X pins σ H { s with heap:=h',toks:=t' }:=by
 have nit:∀b u,H b=some u->b≠it:=fun b u e z=>by rw [z,hn] at e;cases e
 refine I.step (g':=s.gens) (d':=s.drawn) (ch:=[it]) (fun b hb=>?_) (fun b o _ _ hc e _=>k b o (fun z=>hc (by simp [z])) e) (fun b o _ _ hc e _=>⟨o.slots,k b o (fun z=>hc (by simp [z])) e⟩) (fun _ _ _ _ n=>n)
  (fun b o hc e=>⟨o,k b o (fun z=>hc (by simp [z])) e⟩) (fun _ _ e=>e) (fun _ _ _ e=>e) (fun b ps e=>⟨#[],by rw [e];simp⟩) (fun m hm=>?_) (fun b u e=>?_) I.bare
 ·have e:b=it:=by simpa using hb
  subst e
  exact ⟨h1,hL,h2,h3⟩
 ·obtain ⟨o,es,ep,ho,r⟩:=hm
  exact ⟨o,es,ep,k _ o (Ne.symm hL) ho,r⟩
 ·refine (I.hok b u e).stay (fun c v hc q=>k c v ?_ q) (fun _ q=>q) fun _ _ q=>q
  rcases hc with z | z
  ·rw [z];exact nit b u e
  ·exact nit c _ z
theorem Inv.tok (I:Inv X pins σ H s) (t:Nat):Inv X pins σ H { s with toks:=t }:=I.un (h':=s.heap) (t':=t) Un.refl I.hok
theorem Inv.kept {t':Nat} (I:Inv X pins σ H s) (k:∀b u,s.heap.get? b=some u->h'.get? b=some u):Inv X pins σ H { s with heap:=h',toks:=t' }:=I.un (Un.kept k) (I.hok.kept k)
theorem Inv.laid {a:Addr} {o:HO} {t':Nat} (I:Inv X pins σ H s) (k:∀b u,s.heap.get? b=some u->h'.get? b=some u) (hp:s.heap.objs.size<=a) (new:Bx X.prog X.w (upd H a o) h' a o) :
 Inv X pins σ (upd H a o) { s with heap:=h',toks:=t' }:=I.un (Un.laid k hp (I.hok.fresh hp)) (I.hok.laid k hp new)
theorem Inv.write {x e:Addr} {o:HO} {t':Nat} (I:Inv X pins σ H s) (mu:Mut (H x)) (he:e=x\/H e=some (.own x)) (k:∀b u,b≠e->s.heap.get? b=some u->h'.get? b=some u) (heo:∃u,h'.get? e=some u)
 (new:Bx X.prog X.w (upd H x o) h' x o):Inv X pins σ (upd H x o) { s with heap:=h',toks:=t' }:=I.un (Un.write mu he k heo) (I.hok.write mu he k heo new)
theorem Inv.pins_of {pins':List (Addr × Obj)} (I:Inv X pins σ H s) (h:∀p∈pins',s.heap.get? p.1=some p.2/\H p.1=none/\p.1≠X.env.locals/\p.1 ∉ X.fs/\∀v,p.2.data≠.cell v):Inv X pins' σ H s :=
 ⟨I.ok,I.os,I.bare,I.base,I.loc,I.cell,I.free,I.freeC,fun p hp=>(List.mem_append.mp hp).elim (fun z=>I.pin p (List.mem_append_left _ z)) (h p),I.hok,I.len⟩
theorem Ku {N:List Str} (hN:N.Nodup) {i j:Nat} {x:Str} (a:N[i]?=some x) (b:N[j]?=some x):i=j:=by
 obtain ⟨h1,e1⟩:=List.getElem?_eq_some_iff.mp a
 obtain ⟨h2,e2⟩:=List.getElem?_eq_some_iff.mp b
 exact (List.getElem_inj hN).mp (e1.trans e2.symm)
theorem Jj {M:Model} {A:Around} {E:Value->Shared->Prop} {i:Nat} {x:Str} {v:V} {u:Value} {Q:Unit->Shared->Prop} (I:Inv X pins σ H s) (hN:X.N.Nodup) (hi:X.N[i]?=some x) (hx:Loc X.env.scope x) (r:AS v u)
 (h:∀s',Inv X pins (σ.set i (some v)) H s'->(∃a,Heap.SameBut a s.heap s'.heap/\(a=X.env.locals\/X.env.cells.lookup x=some a))->Q () s') (hf:X.fn x=true\/X.env.scope.names.lookup x=some .local:=by first | exact .inl rfl | exact .inr rfl | assumption):wpAny M A (storeName X.env x u) Q E s:=by
 obtain ⟨m,hn,hl⟩:=id I.loc
 have hcls:(X.env.scope.kind == .class || (X.env.scope.kind == .module && X.env.locals != X.env.globals))=false:=by rw [I.ok.kind];rfl
 have hiσ:i < σ.length:=by rw [I.len];exact (List.getElem?_eq_some_iff.mp hi).1
 have cne:=I.cne
 have tracked:∀{a:Addr} {h':Heap},(∃o,s.heap.get? a=some o/\H a=none)->Heap.SameBut a s.heap h'->HOk X.prog X.w H h':=fun {a h'} ha hs b ob e=>by
  obtain ⟨_,_,hfree⟩:=ha
  refine (I.hok b ob e).stay (fun c w' hc q=>(hs.2 c ?_).trans q) (fun _ q=>q) fun _ _ q=>q
  rintro rfl
  rcases hc with rfl | hc
  ·rw [hfree] at e;cases e
  ·rw [hfree] at hc;cases hc
 rcases hx with hk | hk
 ·refine wpAny_storeName_local hk hn (fun h' hn' hs=>?_) hcls
  obtain ⟨oL,_,_,hoL,_⟩:=id hn
  refine h _ ⟨I.ok,I.os,I.bare,⟨fun b o e n hb hx=>?_,fun b o e n hb hx=>?_,I.base.free,fun b o e hx=>?_,I.base.tups,I.base.frzs,I.base.tbls⟩,⟨_,hn',fun j y v' e1 e2 e3=>?_⟩,fun y c e=>?_,I.free,I.freeC,fun p hp=>?_,tracked ⟨oL,hoL,I.free⟩ hs,by simpa using I.len⟩ ⟨_,hs,.inl rfl⟩
  ·exact (hs.2 b (Nat.ne_of_lt (Nat.lt_of_lt_of_le (Heap.lt_size e) I.ok.above))).trans (I.base.keep b o e n hb hx)
  ·obtain ⟨sl,e1⟩:=I.base.slot b o e n hb hx
   exact ⟨sl,(hs.2 b (Nat.ne_of_lt (Nat.lt_of_lt_of_le (Heap.lt_size e) I.ok.above))).trans e1⟩
  ·obtain ⟨o',e1⟩:=I.base.there b o e hx
   exact ⟨o',(hs.2 b (Nat.ne_of_lt (Nat.lt_of_lt_of_le (Heap.lt_size e) I.ok.above))).trans e1⟩
  ·by_cases hj:j=i
   ·subst hj
    rw [hi] at e1;cases e1
    rw [List.getElem?_set_self hiσ] at e2
    cases e2
    exact ⟨u,r,.inl ⟨hk,by simp⟩⟩
   ·rw [List.getElem?_set_ne (Ne.symm hj)] at e2
    obtain ⟨u',r',q⟩:=hl j y v' e1 e2 e3
    refine ⟨u',r',?_⟩
    rcases q with ⟨k,e⟩ | ⟨k,c,e,z⟩
    ·refine .inl ⟨k,?_⟩
     have:y≠x:=fun e=>hj (Ku hN e1 (e ▸ hi))
     simp [this,e]
    ·exact .inr ⟨k,c,e,z.sameBut hs (cne y c e)⟩
  ·obtain ⟨w',z⟩:=I.cell y c e
   exact ⟨w',z.sameBut hs (cne y c e)⟩
  ·obtain ⟨e,n,ne,nf,d⟩:=I.pin p hp
   exact ⟨(hs.2 p.1 ne).trans e,n,ne,nf,d⟩
 ·have hfn:X.fn x=true:=by
   rcases hf with z | z
   ·exact z
   ·rw [z] at hk;cases hk
  obtain ⟨c,hc⟩:=I.ok.has x (.inl hk)
  obtain ⟨w',z⟩:=I.cell x c hc
  refine wpAny_storeName_cell I.ok.kind hk hc z (fun h' hc' hs=>?_)
  obtain ⟨oc,hoc,hocd⟩:=id z
  refine h { s with heap:=h' } ⟨I.ok,I.os,I.bare,⟨fun b o e n hb hx=>?_,fun b o e n hb hx=>?_,I.base.free,fun b o e hx=>?_,I.base.tups,I.base.frzs,I.base.tbls⟩,⟨m,hn.sameBut hs (Ne.symm (cne x c hc)),fun j y v' e1 e2 e3=>?_⟩,fun y c' e=>?_,I.free,I.freeC,fun p hp=>?_,tracked ⟨oc,hoc,I.freeC x c hc⟩ hs,by simpa using I.len⟩ ⟨c,hs,.inr hc⟩
  ·exact (hs.2 b (Nat.ne_of_lt (Nat.lt_of_lt_of_le (Heap.lt_size e) (I.ok.cab x c hfn hc)))).trans (I.base.keep b o e n hb hx)
  ·obtain ⟨sl,e1⟩:=I.base.slot b o e n hb hx
   exact ⟨sl,(hs.2 b (Nat.ne_of_lt (Nat.lt_of_lt_of_le (Heap.lt_size e) (I.ok.cab x c hfn hc)))).trans e1⟩
  ·obtain ⟨o',e1⟩:=I.base.there b o e hx
   exact ⟨o',(hs.2 b (Nat.ne_of_lt (Nat.lt_of_lt_of_le (Heap.lt_size e) (I.ok.cab x c hfn hc)))).trans e1⟩
  ·by_cases hj:j=i
   ·subst hj
    rw [hi] at e1;cases e1
    rw [List.getElem?_set_self hiσ] at e2
    cases e2
    exact ⟨u,r,.inr ⟨.inl hk,c,hc,hc'⟩⟩
   ·rw [List.getElem?_set_ne (Ne.symm hj)] at e2
    obtain ⟨u',r',q⟩:=hl j y v' e1 e2 e3
    refine ⟨u',r',?_⟩
    rcases q with q | ⟨k,c',e,z'⟩
    ·exact .inl q
    ·refine .inr ⟨k,c',e,z'.sameBut hs ?_⟩
     rintro rfl
     exact hj (Ku hN e1 (I.ok.inj _ _ _ e hc ▸ hi))
  ·by_cases hcc:c'=c
   ·subst hcc;exact ⟨_,hc'⟩
   ·obtain ⟨w2,z2⟩:=I.cell y c' e
    exact ⟨w2,z2.sameBut hs hcc⟩
  ·obtain ⟨e,n,ne,nf,d⟩:=I.pin p hp
   refine ⟨(hs.2 p.1 ?_).trans e,n,ne,nf,d⟩
   intro q
   rw [q,hoc] at e
   have q':oc=p.2:=Option.some.inj e
   exact d w' (by rw [<- q'];exact hocd)
theorem FM {M:Model} {A:Around} {E:Value->Shared->Prop} {i:Nat} {x:Str} {v:V} {u:Value} {Q:Unit->Shared->Prop} (I:Inv X pins σ H s) (hN:X.N.Nodup) (hi:X.N[i]?=some x) (hx:Loc X.env.scope x) (r:AS v u)
 (h:∀s',Inv X pins (σ.set i (some v)) H s'->Q () s') (hf:X.fn x=true\/X.env.scope.names.lookup x=some .local:=by first | exact .inl rfl | exact .inr rfl | assumption):wpAny M A (storeName X.env x u) Q E s :=
 Jj I hN hi hx r (fun s' I' _=>h s' I') hf
theorem Inv.call' {s':Shared} {ch:List Addr} (I:Inv X pins σ H s) (ho:s'.os=s.os) (u:Un (frs X.stack) ch H H' s.heap s'.heap) (hok:HOk X.prog X.w H' s'.heap) (hg:AllBare s'.gens)
 (hch:∀b∈ch,(b∈X.ex\/X.s₀.heap.objs.size<=b)/\b≠X.env.locals/\(∀x c,X.env.cells.lookup x=some c->c≠b)/\∀p∈X.pn++pins,p.1≠b):Inv X pins σ H' s':=by
 obtain ⟨h',g',d',t',o'⟩:=s'
 have e:o'=s.os:=ho
 subst e
 exact I.call (g':=g') (t':=t') (d':=d') u hok hg hch
end
abbrev XK:=Value->Option Addr->Hp->Prop
abbrev St:=List (Option V)
abbrev VK:=V->Hp->Prop
abbrev TE:=St->Hp->VK->Prop
abbrev TT:=St->Hp->(Bool->Hp->Prop)->Prop
abbrev TA:=St->Hp->(List V->Hp->Prop)->Prop
structure Fp where
 nx:St->Hp->Prop
 rt:VK
 bk:St->Hp->Prop:=fun _ _=>False
 ct:St->Hp->Prop:=fun _ _=>False
abbrev TS:=Fp->St->Hp->Prop
noncomputable def EP (X:Cx) (pins:List (Addr × Obj)) (σ:St) (Q:VK) (u:Value) (s':Shared):Prop:=∃v H',Inv X pins σ H' s'/\AS v u/\Q v H'
noncomputable def TP (X:Cx) (pins:List (Addr × Obj)) (σ:St) (Q:Bool->Hp->Prop) (b:Bool) (s':Shared):Prop:=∃H',Inv X pins σ H' s'/\Q b H'
noncomputable def AP (X:Cx) (pins:List (Addr × Obj)) (σ:St) (Q:List V->Hp->Prop) (us:List Value) (s':Shared):Prop:=∃vs H',Inv X pins σ H' s'/\AJ vs us/\Q vs H'
noncomputable def SP (X:Cx) (pins:List (Addr × Obj)) (D:Fp) (f:Flow) (s':Shared):Prop :=
 match f with
 | .next=>∃σ' H',Inv X pins σ' H' s'/\D.nx σ' H'
 | .brk=>∃σ' H',Inv X pins σ' H' s'/\D.bk σ' H'
 | .cont=>∃σ' H',Inv X pins σ' H' s'/\D.ct σ' H'
 | .ret u=>∃v σ' H',Inv X pins σ' H' s'/\AS v u/\D.rt v H'
noncomputable def PE (X:Cx) (e:Expr) (t:TE):Prop :=
 ∀(pins:List (Addr × Obj)) (s:Shared) (σ:St) (H:Hp) (Q:VK),Inv X pins σ H s->t σ H Q->wpAny (model X.prog X.w) X.A (eval e X.env) (EP X pins σ Q) X.xe s
noncomputable def PT (X:Cx) (e:Expr) (t:TT):Prop :=
 ∀(pins:List (Addr × Obj)) (s:Shared) (σ:St) (H:Hp) (Q:Bool->Hp->Prop),Inv X pins σ H s->t σ H Q->wpAny (model X.prog X.w) X.A (isTrue e X.env (eval e X.env)) (TP X pins σ Q) X.xe s
noncomputable def PW (X:Cx) (e:Expr) (t:TT):Prop :=
 ∀(whole:Sem Value) (pins:List (Addr × Obj)) (s:Shared) (σ:St) (H:Hp) (Q:Bool->Hp->Prop),Inv X pins σ H s->t σ H Q->wpAny (model X.prog X.w) X.A (isTrue e X.env whole) (TP X pins σ Q) X.xe s
theorem PW.pt {X:Cx} {e:Expr} {t:TT} (h:PW X e t):PT X e t:=h _
noncomputable def PA (X:Cx) (es:List Expr) (t:TA):Prop :=
 ∀(pos:Pos) (pins:List (Addr × Obj)) (s:Shared) (σ:St) (H:Hp) (Q:List V->Hp->Prop),Inv X pins σ H s->t σ H Q->wpAny (model X.prog X.w) X.A (spliced (backTo pos (starEach es X.env))) (AP X pins σ Q) X.xe s
noncomputable def PS (X:Cx) (st:Stmt) (t:TS):Prop :=
 ∀(pins:List (Addr × Obj)) (s:Shared) (σ:St) (H:Hp) (D:Fp),Inv X pins σ H s->t D σ H->wpAny (model X.prog X.w) X.A (exec st X.env) (SP X pins D) X.xe s
noncomputable def PSs (X:Cx) (st:List Stmt) (t:TS):Prop :=
 ∀(pins:List (Addr × Obj)) (s:Shared) (σ:St) (H:Hp) (D:Fp),Inv X pins σ H s->t D σ H->wpAny (model X.prog X.w) X.A (execs st X.env) (SP X pins D) X.xe s
theorem thn {α:Type} {t:Sem α} {Q Q':α->Shared->Prop} {M:Model} {A:Around} {E:Value->Shared->Prop} {s:Shared} (h:wpAny M A t Q E s) (hQ:∀a s,Q a s->Q' a s):wpAny M A t Q' E s:=wpAny_mono h hQ fun _ _ x=>x
end L2
namespace L2
open PySem PySem.Spec PyProof.Rows
section
variable {X:Cx}
noncomputable def P1 (i:Nat):TE:=fun σ H Q=>∃v,σ[i]?=some (some v)/\Q v H
noncomputable def tC (v:V):TE:=fun _ H Q=>Q v H
theorem Q0 {i:Nat} {x:Str} {pos:Pos} (hN:X.N[i]?=some x) (hv:Vis X.env.scope x) (hd:(x == ("__debug__":Str))=false:=by decide) (hcd:(x == ("__classdict__":Str))=false:=by decide):PE X (.Name x pos) (P1 i):=by
 intro pins s σ H Q I h
 obtain ⟨v,e,h⟩:=h
 obtain ⟨m,hn,hl⟩:=I.loc
 obtain ⟨u,r,l⟩:=hl i x v hN e hv
 have fin:EP X pins σ Q u s:=⟨v,H,I,r,h⟩
 rcases l with ⟨hk,hm⟩ | ⟨hk,c,hc,hcell⟩
 ·exact wpAny_Name (wpAny_loadName_local I.ok.kind hk hn hm fin) hd
 ·rcases hk with hk | hk
  ·exact wpAny_Name (wpAny_loadName_cell I.ok.kind hk hc hcell fin) hd
  ·exact wpAny_Name (wpAny_loadName_free I.ok.kind hk hc hcell fin hcd) hd
theorem Ab {i j pos}:PE X (.Constant (.int i) j pos) (tC (.int i)):=fun _ _ _ H _ I h=>wpAny_Constant_int ⟨.int i,H,I.tok _,⟨_,rfl⟩,h⟩
theorem DK {b j pos}:PE X (.Constant (.bool b) j pos) (tC (.bl b)):=fun _ _ _ H _ I h=>Constant_bool ⟨.bl b,H,I,rfl,h⟩
theorem B8 {j pos}:PE X (.Constant .none j pos) (tC .non):=fun _ _ _ H _ I h=>Constant_none ⟨.non,H,I,rfl,h⟩
theorem Hu {x j pos}:PE X (.Constant (.str x) j pos) (tC (.str x)):=fun _ _ _ H _ I h=>Calls.Constant_str ⟨.str x,H,I.tok _,⟨_,rfl⟩,h⟩
noncomputable def Gl (X:Cx) (x:Str):Prop:=X.env.kindOf x=some .globalImplicit
theorem GI {E:Value->Shared->Prop} {pins:List (Addr × Obj)} {s:Shared} {σ:St} {H:Hp} {x:Str} {u:Value} {pos:Pos} {Q:Value->Shared->Prop} (I:Inv X pins σ H s) (hg:Gl X x) (hm:X.mg x=some u) (h:Q u s)
 (hd:(x == ("__debug__":Str))=false:=by decide):wpAny (model X.prog X.w) X.A (eval (.Name x pos) X.env) Q E s :=
 Calls.Name_function_global I.ok.kind hg (Calls.loadGlobal_global (by rw [I.ok.glob];exact I.mod.glob.keeps I.bk) hm h) hd
theorem Ff {E:Value->Shared->Prop} {pins:List (Addr × Obj)} {s:Shared} {σ:St} {H:Hp} {x:Str} {u:Value} {pos:Pos} {Q:Value->Shared->Prop} (I:Inv X pins σ H s) (hg:Gl X x) (hm:X.mg x=none) (hv:bootBuiltins x=some u) (h:Q u s)
 (hn:x≠"__name__":=by decide) (hd:(x == ("__debug__":Str))=false:=by decide):wpAny (model X.prog X.w) X.A (eval (.Name x pos) X.env) Q E s:=by
 obtain ⟨mb,h1,h2⟩:=I.mod.blt
 exact Calls.Name_function_global I.ok.kind hg (Calls.loadGlobal_builtin (by rw [I.ok.glob];exact I.mod.glob.keeps I.bk) hm (by rw [I.ok.blt];exact h1.keeps I.bk) ((h2 x hn).trans hv) h) hd
theorem JI {x:Str} {v:V} {u:Value} {pos:Pos} (hg:Gl X x) (hm:X.mg x=some u) (r:AS v u) (hd:(x == ("__debug__":Str))=false:=by decide):PE X (.Name x pos) (tC v) :=
 fun _ _ _ H _ I h=>GI I hg hm ⟨v,H,I,r,h⟩ hd
theorem C2 {x:Str} {v:V} {u:Value} {pos:Pos} (hg:Gl X x) (hm:X.mg x=none) (hv:bootBuiltins x=some u) (r:AS v u) (hn:x≠"__name__":=by decide) (hd:(x == ("__debug__":Str))=false:=by decide):PE X (.Name x pos) (tC v) :=
 fun _ _ _ H _ I h=>Ff I hg hm hv ⟨v,H,I,r,h⟩ hn hd
variable {a b:Expr} {ta tb:TE} {pos:Pos}
noncomputable def tB (t:TE):TT:=fun σ H Q=>t σ H fun x H1=>∃c,x=.bl c/\Q c H1
theorem Bi {e:Expr} {t:TE} (h:PE X e t) (he:∀whole,isTrue e X.env whole=(do let v <- whole;standAt e.pos;holding [v] (truthy v)):=by intro _;rfl):PT X e (tB t):=by
 intro pins s σ H Q I hw
 refine isTrue_plain (thn (h pins s σ H _ I hw) fun v s1 ⟨x,H1,I1,r1,q1⟩=>?_) (he _)
 obtain ⟨d,rfl,q⟩:=q1
 cases r1
 exact wpAny_truthy_bool ⟨H1,I1,q⟩
variable {tA tB':TT} {rest:List Expr}
noncomputable def RU (t u:TT):TT:=fun σ H Q=>t σ H fun c H1=>if c=true then u σ H1 Q else Q false H1
noncomputable def tOr (t u:TT):TT:=fun σ H Q=>t σ H fun c H1=>if c=true then Q true H1 else u σ H1 Q
noncomputable def Sc (t:TT):TT:=fun σ H Q=>t σ H fun c H1=>Q (!c) H1
theorem JO (ha:PT X a tA):PW X (.BoolOp .And [a] pos) tA:=by
 intro wh pins s σ H Q I h
 refine isTrue_and (thn (ha pins s σ H Q I h) fun c s1 e=>?_)
 cases c with
 | true=>exact isTrue_and_nil e
 | false=>exact e
theorem CU (ha:PT X a tA):PW X (.BoolOp .Or [a] pos) tA:=by
 intro wh pins s σ H Q I h
 refine isTrue_or (thn (ha pins s σ H Q I h) fun c s1 e=>?_)
 cases c with
 | false=>exact isTrue_or_nil e
 | true=>exact e
theorem LE (ha:PT X a tA) (hb:PW X (.BoolOp .And (b :: rest) pos) tB'):PW X (.BoolOp .And (a :: b :: rest) pos) (RU tA tB'):=by
 intro wh pins s σ H Q I h
 refine isTrue_and (thn (ha pins s σ H _ I h) fun c s1 ⟨H1,I1,q1⟩=>?_)
 cases c with
 | true=>exact hb wh pins s1 σ H1 Q I1 q1
 | false=>exact ⟨H1,I1,q1⟩
theorem BS (ha:PT X a tA) (hb:PW X (.BoolOp .Or (b :: rest) pos) tB'):PW X (.BoolOp .Or (a :: b :: rest) pos) (tOr tA tB'):=by
 intro wh pins s σ H Q I h
 refine isTrue_or (thn (ha pins s σ H _ I h) fun c s1 ⟨H1,I1,q1⟩=>?_)
 cases c with
 | true=>exact ⟨H1,I1,q1⟩
 | false=>exact hb wh pins s1 σ H1 Q I1 q1
theorem Bo (ha:PT X a tA):PT X (.UnaryOp .Not a pos) (Sc tA):=by
 intro pins s σ H Q I h
 exact isTrue_not (ha pins s σ H (fun c H1=>Q (!c) H1) I h)
noncomputable def Rt (ta tb:TE):TE:=fun σ H Q=>ta σ H fun x H1=>∃c,x=.bl c/\if c=true then tb σ H1 Q else Q (.bl false) H1
noncomputable def R3 (ta:TE):TE:=fun σ H Q=>ta σ H fun x H1=>∃c,x=.bl c/\Q (.bl (!c)) H1
theorem DA {op} {t:TE} (h:PE X a t):PE X (.BoolOp op [a] pos) t:=fun pins s σ H Q I hw=>BoolOp_one (h pins s σ H Q I hw)
theorem D9 (ha:PE X a ta) (hb:PE X (.BoolOp .And (b :: rest) pos) tb):PE X (.BoolOp .And (a :: b :: rest) pos) (Rt ta tb):=by
 intro pins s σ H Q I h
 refine BoolOp_and (thn (ha pins s σ H _ I h) fun v s1 ⟨x,H1,I1,r1,q1⟩=>?_)
 obtain ⟨c,rfl,q1⟩:=q1
 cases r1
 refine wpAny_truthy_bool ?_
 cases c with
 | true=>exact hb pins s1 σ H1 Q I1 q1
 | false=>exact ⟨.bl false,H1,I1,rfl,q1⟩
theorem Oi (ha:PE X a ta):PE X (.UnaryOp .Not a pos) (R3 ta):=by
 intro pins s σ H Q I h
 refine UnaryOp_ (thn (ha pins s σ H _ I h) fun v s1 ⟨x,H1,I1,r1,q1⟩=>?_)
 obtain ⟨c,rfl,q1⟩:=q1
 cases r1
 exact not_of (wpAny_truthy_bool ⟨.bl (!c),H1,I1,rfl,q1⟩)
noncomputable def tIf (t:TT) (ta tb:TE):TE:=fun σ H Q=>t σ H fun c H1=>if c=true then ta σ H1 Q else tb σ H1 Q
theorem Ec {c:Expr} (hc:PT X c tA) (ha:PE X a ta) (hb:PE X b tb):PE X (.IfExp c a b pos) (tIf tA ta tb):=by
 intro pins s σ H Q I h
 refine wpAny_IfExp (thn (hc pins s σ H _ I h) fun d s1 ⟨H1,I1,q1⟩=>?_)
 cases d with
 | true=>exact ha pins s1 σ H1 Q I1 q1
 | false=>exact hb pins s1 σ H1 Q I1 q1
end
end L2
namespace L2
open PySem PySem.Spec PyProof.Rows
noncomputable def SqL (K:PySem.W.Frag) (H:Hp) (a:Addr) (xs:List V):Prop :=
 Rd H a (.lst xs) \/
  ∃(o:Obj) (its:Array Value) (n:Nat),K.lookup a=some o/\o.cls=.type "list"/\o.dict=none/\o.data=.seq its n/\its.size<=sizeLine/\AJ xs its.toList
noncomputable def SqT (K:PySem.W.Frag) (H:Hp) (a:Addr) (xs:List V):Prop :=
 Rd H a (.tup xs) \/
  ∃(o:Obj) (its:Array Value) (n:Nat),K.lookup a=some o/\o.cls=.type "tuple"/\o.data=.seq its n/\its.size<=sizeLine/\AJ xs its.toList
noncomputable def RC:Value->Option V
 | .none=>some .non
 | .bool b=>some (.bl b)
 | .int i _=>some (.int i)
 | .str x _=>some (.str x)
 | .bytes b _=>some (.byt b)
 | .float b _=>some (.flt b)
 | .ref a=>some (.ref a)
 | .type n=>some (.ty n)
 | _=>none
theorem AS.abs {x:V} {u:Value} (r:AS x u):RC u=some x:=by
 cases x with
 | non=>cases r;rfl
 | bl _=>cases r;rfl
 | int _=>obtain ⟨t,rfl⟩:=r;rfl
 | str _=>obtain ⟨t,rfl⟩:=r;rfl
 | byt _=>obtain ⟨t,rfl⟩:=r;rfl
 | flt _=>obtain ⟨t,rfl⟩:=r;rfl
 | ref _=>cases r;rfl
 | ty _=>cases r;rfl
theorem AS.inj {x y:V} {u:Value} (r:AS x u) (q:AS y u):x=y:=Option.some.inj (r.abs.symm.trans q.abs)
theorem AJ.inj:∀{xs ys:List V} {us:List Value},AJ xs us->AJ ys us->xs=ys
 | _,_,_,.nil,.nil=>rfl
 | _,_,_,.cons r t,.cons r' t'=>by rw [r.inj r',AJ.inj t t']
section
variable {X:Cx} {pins:List (Addr × Obj)} {σ:St} {H:Hp} {s:Shared} {a:Addr} {xs ys:List V}
theorem SqL.of {K:PySem.W.Frag} (h:H a=some (.lst xs)):SqL K H a xs:=.inl (.inl h)
theorem SqT.of {K:PySem.W.Frag} (h:H a=some (.tup xs)):SqT K H a xs:=.inl (.inl h)
theorem Inv.list (I:Inv X pins σ H s) (h:SqL X.K H a xs):∃its:List Value,AJ xs its/\PlainL s.heap a its.toArray/\xs.length<=sizeLine:=by
 rcases h with h | ⟨o,its,n,hk,hc,hd,hs,hz,r⟩
 ·obtain ⟨z,its,n,r,e⟩:=h.ok I.hok
  exact ⟨its,r,⟨_,n,e,rfl,rfl,rfl⟩,z⟩
 ·refine ⟨its.toList,r,⟨o,n,I.kIn a o hk,hc,hd,by simpa using hs⟩,?_⟩
  have e:=r.length
  simp only [Array.length_toList] at e
  omega
theorem Inv.tuple (I:Inv X pins σ H s) (h:SqT X.K H a xs):∃its:List Value,AJ xs its/\IsTup s.heap a its.toArray/\xs.length<=sizeLine:=by
 rcases h with h | ⟨o,its,n,hk,hc,hs,hz,r⟩
 ·obtain ⟨z,its,r,p⟩:=h.ok I.hok
  exact ⟨its,r,p,z⟩
 ·refine ⟨its.toList,r,⟨o,I.kIn a o hk,hc,n,by simpa using hs⟩,?_⟩
  have e:=r.length
  simp only [Array.length_toList] at e
  omega
theorem Inv.list_inj (I:Inv X pins σ H s) (h:SqL X.K H a xs) (h':SqL X.K H a ys):xs=ys:=by
 obtain ⟨its,r,⟨o,n,e,_,_,d⟩,_⟩:=I.list h
 obtain ⟨its',r',⟨o',n',e',_,_,d'⟩,_⟩:=I.list h'
 rw [e] at e';cases e'
 rw [d] at d'
 injection d' with d1 _
 have:its=its':=by simpa using congrArg Array.toList d1
 subst this
 exact r.inj r'
theorem Inv.tuple_inj (I:Inv X pins σ H s) (h:SqT X.K H a xs) (h':SqT X.K H a ys):xs=ys:=by
 obtain ⟨its,r,⟨o,e,_,n,d⟩,_⟩:=I.tuple h
 obtain ⟨its',r',⟨o',e',_,n',d'⟩,_⟩:=I.tuple h'
 rw [e] at e';cases e'
 rw [d] at d'
 injection d' with d1 _
 have:its=its':=by simpa using congrArg Array.toList d1
 subst this
 exact r.inj r'
end
abbrev Cx.wish (X:Cx) (E:Value->Shared->Prop):Cx:={ X with xe:=E }
abbrev Cx.nox (X:Cx):Cx:=X.wish fun _ _=>False
theorem Cx.Ok.wish {X:Cx} (ok:X.Ok) (E:Value->Shared->Prop):(X.wish E).Ok :=
 ⟨ok.mod,ok.kind,ok.glob,ok.blt,ok.above,ok.inj,ok.has,ok.cab,ok.hd,ok.frames,ok.stk,ok.exf,ok.bs,ok.bsz,ok.noex,ok.exfs,ok.funs,ok.frf⟩
theorem Cx.Ok.unwish {X:Cx} {E:Value->Shared->Prop} (ok:(X.wish E).Ok):X.Ok :=
 ⟨ok.mod,ok.kind,ok.glob,ok.blt,ok.above,ok.inj,ok.has,ok.cab,ok.hd,ok.frames,ok.stk,ok.exf,ok.bs,ok.bsz,ok.noex,ok.exfs,ok.funs,ok.frf⟩
section
variable {X:Cx} {pins:List (Addr × Obj)} {σ:St} {H:Hp} {s:Shared} {E:Value->Shared->Prop}
theorem Inv.wish (I:Inv X pins σ H s) (E:Value->Shared->Prop):Inv (X.wish E) pins σ H s:=⟨I.ok.wish E,I.os,I.bare,I.base,I.loc,I.cell,I.free,I.freeC,I.pin,I.hok,I.len⟩
theorem Inv.unwish (I:Inv (X.wish E) pins σ H s):Inv X pins σ H s:=⟨I.ok.unwish,I.os,I.bare,I.base,I.loc,I.cell,I.free,I.freeC,I.pin,I.hok,I.len⟩
theorem SP.unwish {D:Fp} {f:Flow} {s':Shared} (h:SP (X.wish E) pins D f s'):SP X pins D f s':=by
 cases f with
 | next=>obtain ⟨σ',H',I,q⟩:=h;exact ⟨σ',H',I.unwish,q⟩
 | brk=>obtain ⟨σ',H',I,q⟩:=h;exact ⟨σ',H',I.unwish,q⟩
 | cont=>obtain ⟨σ',H',I,q⟩:=h;exact ⟨σ',H',I.unwish,q⟩
 | ret u=>obtain ⟨v,σ',H',I,r,q⟩:=h;exact ⟨v,σ',H',I.unwish,r,q⟩
theorem PSs.nox {st:List Stmt} {t:TS} (h:PSs X.nox st t):PSs X st t:=fun pins s σ H D I hw =>
 wpAny_mono (h pins s σ H D (I.wish _) hw) (fun _ _ q=>q.unwish) fun _ _ z=>False.elim z
end
section
variable {X:Cx} {st:Stmt} {rest:List Stmt} {t u:TS} {e:Expr} {te:TE} {pos:Pos}
noncomputable def R1:TS:=fun D σ H=>D.nx σ H
noncomputable def R5 (t u:TS):TS:=fun D σ H=>t { D with nx:=u D } σ H
theorem Az:PSs X [] R1:=fun _ _ σ H _ I h=>wpAny_execs_nil ⟨σ,H,I,h⟩
theorem Ad (h1:PS X st t) (h2:PSs X rest u):PSs X (st :: rest) (R5 t u):=by
 intro pins s σ H D I h
 refine wpAny_execs_cons (thn (h1 pins s σ H { D with nx:=u D } I h) fun f s1 q=>?_)
 cases f with
 | next =>
   obtain ⟨σ',H',I',q⟩:=q
   exact h2 pins s1 σ' H' D I' q
 | ret v=>exact q
 | brk=>exact q
 | cont=>exact q
theorem Ah (h1:PS X st t):PSs X [st] t:=by
 intro pins s σ H D I h
 refine wpAny_execs_cons (thn (h1 pins s σ H D I h) fun f s1 q=>?_)
 cases f with
 | next=>exact wpAny_execs_nil q
 | ret v=>exact q
 | brk=>exact q
 | cont=>exact q
theorem Inv.quiet {pins:List (Addr × Obj)} {σ:St} {H:Hp} {s:Shared} (I:Inv X pins σ H s):interactive X.env=false:=by simp [interactive,I.ok.kind]
noncomputable def Rx (te:TE):TS:=fun D σ H=>te σ H fun _ H1=>D.nx σ H1
theorem Er (he:PE X e te) (hs:swapsWith e none pos.line X.env=pure false:=by rfl):PS X (.Expr e pos) (Rx te):=by
 intro pins s σ H D I h
 exact wpAny_Expr_any (thn (he pins s σ H _ I h) fun v s1 ⟨x,H1,I1,r1,q1⟩=>⟨σ,H1,I1,q1⟩) I.quiet hs
noncomputable def Se (te:TE):TS:=fun D σ H=>te σ H D.rt
theorem An (he:PE X e te):PS X (.Return (some e) pos) (Se te):=by
 intro pins s σ H D I h
 exact wpAny_Return_some (thn (he pins s σ H _ I h) fun v s1 ⟨x,H1,I1,r1,q1⟩=>⟨x,σ,H1,I1,r1,q1⟩)
noncomputable def RZ (c:TT) (t u:TS):TS:=fun D σ H=>c σ H fun b H1=>if b=true then t D σ H1 else u D σ H1
theorem AW {c:Expr} {a b:List Stmt} {tc:TT} (hc:PT X c tc) (ha:PSs X a t) (hb:PSs X b u):PS X (.If c a b pos) (RZ tc t u):=by
 intro pins s σ H D I h
 refine wpAny_If (thn (hc pins s σ H _ I h) fun d s1 ⟨H1,I1,q1⟩=>?_)
 cases d with
 | true=>exact ha pins s1 σ H1 D I1 q1
 | false=>exact hb pins s1 σ H1 D I1 q1
noncomputable def QG:TS:=fun _ _ _=>False
theorem Ee:PS X st QG:=fun _ _ _ _ _ _ h=>h.elim
end
abbrev TG:=V->St->Hp->(St->Hp->Prop)->Prop
abbrev TGs:=List V->St->Hp->(St->Hp->Prop)->Prop
noncomputable def PG (X:Cx) (target:Expr) (t:TG):Prop :=
 ∀(pins:List (Addr × Obj)) (s:Shared) (σ:St) (H:Hp) (v:V) (u:Value) (Q:St->Hp->Prop),Inv X pins σ H s->AS v u->t v σ H Q ->
  wpAny (model X.prog X.w) X.A (assign target X.env u) (fun _ s'=>∃σ' H',Inv X pins σ' H' s'/\Q σ' H') X.xe s
noncomputable def PGs (X:Cx) (ts:List Expr) (t:TGs):Prop :=
 ∀(pins:List (Addr × Obj)) (s:Shared) (σ:St) (H:Hp) (vs:List V) (us:List Value) (Q:St->Hp->Prop),Inv X pins σ H s->AJ vs us->t vs σ H Q ->
  wpAny (model X.prog X.w) X.A (assignInOrder ((assignEach ts X.env).map (·.2)) us) (fun _ s'=>∃σ' H',Inv X pins σ' H' s'/\Q σ' H') X.xe s
abbrev PZ:=V->V->V->Hp->(Hp->Prop)->Prop
noncomputable def QN (X:Cx) (t:PZ):Prop :=
 ∀(pins:List (Addr × Obj)) (s:Shared) (σ:St) (H:Hp) (o i v:V) (ov iv u:Value) (Q:Hp->Prop),Inv X pins σ H s->AS o ov->AS i iv->AS v u->t o i v H Q ->
  wpAny (model X.prog X.w) X.A (setItem ov iv u) (fun _ s'=>∃H',Inv X pins σ H' s'/\Q H') X.xe s
section
variable {X:Cx} {pos:Pos}
noncomputable def DT (i:Nat):TG:=fun v σ H Q=>Q (σ.set i (some v)) H
theorem Ce {i:Nat} {x:Str} (hN:X.N.Nodup) (hi:X.N[i]?=some x) (hx:Loc X.env.scope x) (hf:X.fn x=true\/X.env.scope.names.lookup x=some .local:=by first | exact .inl rfl | exact .inr rfl | assumption):PG X (.Name x pos) (DT i):=by
 intro pins s σ H v u Q I r h
 exact wpAny_assign_Name (FM I hN hi hx r (fun s' I'=>⟨_,H,I',h⟩) hf)
noncomputable def Qi:TGs:=fun vs σ H Q=>vs=[]/\Q σ H
noncomputable def Kk (t:TG) (u:TGs):TGs:=fun vs σ H Q=>∃v r,vs=v :: r/\t v σ H fun σ' H'=>u r σ' H' Q
theorem GK:PGs X [] Qi:=by
 intro pins s σ H vs us Q I r h
 obtain ⟨e,h⟩:=h
 subst e
 cases r
 exact assignInOrder_nil ⟨σ,H,I,h⟩
theorem Dm {e:Expr} {es:List Expr} {t:TG} {u:TGs} (h1:PG X e t) (h2:PGs X es u)
 (hs:(assignEach (e :: es) X.env).map (·.2)=assign e X.env :: (assignEach es X.env).map (·.2):=by rfl):PGs X (e :: es) (Kk t u):=by
 intro pins s σ H vs us Q I r h
 obtain ⟨v,vr,e1,h⟩:=h
 subst e1
 cases r with
 | cons r rr =>
   rw [hs]
   refine assignInOrder_cons (thn (h1 pins s σ H _ _ _ I r h) fun _ s1 ⟨σ1,H1,I1,q1⟩=>?_)
   exact h2 pins s1 σ1 H1 _ _ Q I1 rr q1
noncomputable def Qj (K:PySem.W.Frag) (n:Nat) (t:TGs):TG:=fun v σ H Q=>∃a xs,v=.ref a/\SqT K H a xs/\xs.length=n/\t xs σ H Q
theorem JL {es:List Expr} {k:Nat} {t:TGs} {n:Nat} (hc:X.calm=true) (h:PGs X es t)
 (hn:(assignEach es X.env).length=n:=by rfl) (hst:(assignEach es X.env).findIdx? (·.1)=none:=by rfl):PG X (.Tuple es k pos) (Qj X.K n t):=by
 intro pins s σ H v u Q I r hw
 obtain ⟨a,xs,e1,hq,hl,hw⟩:=hw
 subst e1
 cases r
 obtain ⟨its,rv,ht,hz⟩:=I.tuple hq
 refine assign_Tuple_tuple (I.ok.hd hc) ht (by simp [hn,<- hl,rv.length]) hst fun h' hx=>?_
 have I1:Inv X pins σ H { s with heap:=h' }:=I.kept (t':=s.toks) fun b o e=>hx b o (Nat.ne_of_lt (Heap.lt_size e)) e
 exact h pins _ σ H xs _ Q I1 (by simpa using rv) hw
noncomputable def RE (to ti:TE) (t:PZ):TG:=fun v σ H Q=>to σ H fun o H1=>ti σ H1 fun i H2=>t o i v H2 fun H3=>Q σ H3
theorem Oj {o i:Expr} {to ti:TE} {t:PZ} (ho:PE X o to) (hi:PE X i ti) (hs:QN X t)
 (ha:∀v,assign (.Subscript o i pos) X.env v=(do
  let ov <- holding [v] (eval o X.env)
  let iv <- holding [v,ov] (eval i X.env)
  standAt pos
  holding [v,ov,iv] (setItem ov iv v)
  release [v,ov,iv] []):=by intro _;rfl):PG X (.Subscript o i pos) (RE to ti t):=by
 intro pins s σ H v u Q I r h
 rw [ha]
 refine wpAny_bind (wpAny_holding (thn (ho pins s σ H _ I h) fun ov s1 ⟨x,H1,I1,r1,q1⟩=>?_))
 refine wpAny_bind (wpAny_holding (thn (hi pins s1 σ H1 _ I1 q1) fun iv s2 ⟨y,H2,I2,r2,q2⟩=>?_))
 refine wpAny_bind (wpAny_standAt (wpAny_bind (wpAny_holding (thn (hs pins s2 σ H2 x y v ov iv u _ I2 r1 r2 r q2) fun _ s3 ⟨H3,I3,q3⟩=>?_))))
 exact wpAny_release ⟨σ,H3,I3,q3⟩
noncomputable def QC (te:TE) (g:TG):TS:=fun D σ H=>te σ H fun x H1=>g x σ H1 D.nx
theorem LD {tg e:Expr} {te:TE} {g:TG} (he:PE X e te) (hg:PG X tg g) (hs:swapsWithSole [tg] e pos.line X.env=pure false:=by rfl) (hw:swappedStores [tg] e X.env=pure none:=by rfl)
 (h1:(assignEach [tg] X.env).map (·.2)=[assign tg X.env]:=by rfl):PS X (.Assign [tg] e pos) (QC te g):=by
 intro pins s σ H D I h
 refine wpAny_Assign_stores (thn (he pins s σ H _ I h) fun v s1 ⟨x,H1,I1,r1,q1⟩=>?_) hs hw
 rw [h1]
 exact thn (hg pins s1 σ H1 x v _ I1 r1 q1) fun _ s2 q=>q
theorem Al {i:Nat} {x:Str} {e:Expr} {te:TE} {pos':Pos} (hN:X.N.Nodup) (hi:X.N[i]?=some x) (hx:Loc X.env.scope x) (he:PE X e te) (hs:swapsWith e (some (.Name x pos')) pos.line X.env=pure false:=by rfl) (hf:X.fn x=true\/X.env.scope.names.lookup x=some .local:=by first | exact .inl rfl | exact .inr rfl | assumption) :
 PS X (.Assign [.Name x pos'] e pos) (QC te (DT i)):=by
 intro pins s σ H D I h
 refine wpAny_Assign_Name (thn (he pins s σ H _ I h) fun v s1 ⟨y,H1,I1,r1,q1⟩=>?_) hs
 exact FM I1 hN hi hx r1 (fun s2 I2=>⟨_,H1,I2,q1⟩) hf
noncomputable def Sd (i j:Nat) (ta:TA):TS:=fun D σ H=>ta σ H fun vs H1=>∃v w,vs=[v,w]/\D.nx ((σ.set i (some v)).set j (some w)) H1
theorem Oq {i j:Nat} {x y:Str} {a b:Expr} {ta:TA} {px py pt:Pos} {kt k2 pt2} (hc:X.calm=true) (hN:X.N.Nodup) (hi:X.N[i]?=some x) (hj:X.N[j]?=some y) (hij:i≠j)
 (hx:X.env.scope.names.lookup x=some .local) (hy:X.env.scope.names.lookup y=some .local) (ha:PA X [a,b] ta)
 (hw:swappedStores [.Tuple [.Name x px,.Name y py] kt pt] (.Tuple [a,b] k2 pt2) X.env=pure (some [x,y]))
 (hs:swapsWithSole [.Tuple [.Name x px,.Name y py] kt pt] (.Tuple [a,b] k2 pt2) pos.line X.env=pure false:=by rfl) :
 PS X (.Assign [.Tuple [.Name x px,.Name y py] kt pt] (.Tuple [a,b] k2 pt2) pos) (Sd i j ta):=by
 intro pins s σ H D I h
 rw [exec_Assign_arm]
 refine wpAny_bind (wpAny_standAt ?_)
 rw [hs]
 refine wpAny_bind (wpAny_pure ?_)
 rw [if_neg (by decide)]
 refine wpAny_bind (Tuple_ (thn (ha _ pins s σ H _ I h) fun us s1 ⟨vs,H1,I1,r1,q1⟩=>?_))
 obtain ⟨v,w,e1,q1⟩:=q1
 subst e1
 obtain ⟨u1,u2,rfl,rv,rw'⟩:∃u1 u2,us=[u1,u2]/\AS v u1/\AS w u2:=by
  cases r1 with
  | cons p q =>
    cases q with
    | cons p' q' =>
      cases q'
      exact ⟨_,_,rfl,p,p'⟩
 refine wpAny_newObj_type ?_ (by show 2<=sizeLine;decide)
 have I2:Inv X pins σ H1 { s1 with heap:=s1.heap.push { cls:=.type "tuple",data:=.seq [u1,u2].toArray } }:=I1.kept (t':=s1.toks) fun b o e=>Heap.get?_push_of_some _ e
 rw [hw]
 refine wpAny_bind (wpAny_pure ?_)
 show wpAny (model X.prog X.w) X.A (do rule "assign.swapped-stores";let items <- unpackItems (.ref s1.heap.objs.size) 2 none;assignInOrder [fun v=>bindName X.env y v,fun v=>bindName X.env x v] items.reverse;pure Flow.next) _ _ _
 refine wpAny_bind (wpAny_rule (wpAny_bind (unpackItems_tuple (items:=#[u1,u2]) (I.ok.hd hc) (IsTup.new s1.heap _) fun h' hx'=>?_)))
 have I3:=I2.kept (h':=h') (t':=s1.toks) fun b o e=>hx' b o (Nat.ne_of_lt (Heap.lt_size e)) e
 show wpAny _ _ (assignInOrder [fun v=>bindName X.env y v,fun v=>bindName X.env x v] [u2,u1] >>= fun _=>pure Flow.next) _ _ _
 refine wpAny_bind (assignInOrder_cons (wpAny_bindName (FM I3 hN hj (.inl hy) rw' (fun s2 I4=>?_) (.inr hy))))
 refine assignInOrder_cons (wpAny_bindName (FM I4 hN hi (.inl hx) rv (fun s3 I5=>assignInOrder_nil (wpAny_pure ?_)) (.inr hx)))
 rw [List.set_comm _ _ (Ne.symm hij)] at I5
 exact ⟨_,H1,I5,q1⟩
end
section
variable {X:Cx} {pos:Pos}
noncomputable def OF (c:TT) (tb:TS):TS:=fun D σ H=>∃W:Nat->St->Hp->Prop,(∃m,W m σ H)/\∀m σ H,W m σ H ->
 c σ H fun b H1=>if b=true then ∃N:St->Hp->Prop,(∀σ' H',N σ' H'->∃m',m' < m/\W m' σ' H')/\tb { D with nx:=N,ct:=N,bk:=D.nx } σ H1 else D.nx σ H1
theorem Hz {c:Expr} {body:List Stmt} {tc:TT} {tb:TS} (hp:PassesOwn (model X.prog X.w) X.A X.env X.xe) (hc:PT X c tc) (hb:PSs X body tb):PS X (.While c body [] pos) (OF tc tb):=by
 intro pins s σ H D I h
 obtain ⟨W,⟨m0,w0⟩,turn⟩:=h
 refine wpAny_While (codeAny_whileLoop (fun n s'=>∃σ' H',Inv X pins σ' H' s'/\W n σ' H') ?_ m0 ⟨σ,H,I,w0⟩)
 rintro n s1 ⟨σ1,H1,I1,w1⟩
 refine wpAny_passesOwn hp (thn (hc pins s1 σ1 H1 _ I1 (turn n σ1 H1 w1)) fun b s2 ⟨H2,I2,q2⟩=>?_)
 cases b with
 | true =>
   obtain ⟨N,hN,q2⟩:=q2
   rw [if_pos rfl]
   refine wpAny_passesOwn hp (thn (hb pins s2 σ1 H2 _ I2 q2) fun f s3 q3=>?_)
   cases f with
   | next =>
     obtain ⟨σ3,H3,I3,n3⟩:=q3
     obtain ⟨m',hm,w3⟩:=hN σ3 H3 n3
     exact ⟨m',hm,σ3,H3,I3,w3⟩
   | cont =>
     obtain ⟨σ3,H3,I3,n3⟩:=q3
     obtain ⟨m',hm,w3⟩:=hN σ3 H3 n3
     exact ⟨m',hm,σ3,H3,I3,w3⟩
   | brk=>exact q3
   | ret v=>exact q3
 | false =>
   rw [if_neg Bool.false_ne_true]
   exact wpAny_execs_nil ⟨σ1,H2,I2,q2⟩
end
structure It where
 go:Nat->Hp->Prop
 yld:Nat->Hp->V->Hp->Prop
 stop:Nat->Hp->Prop
noncomputable def JY (X:Cx) (pins:List (Addr × Obj)) (H:Hp) (b:Addr):Prop :=
 H b=none/\b≠X.env.locals/\b ∉ X.fs/\(b∈X.ex\/X.s₀.heap.objs.size<=b)/\(∀x c,X.env.cells.lookup x=some c->c≠b)/\∀p∈X.pn++pins,p.1≠b
theorem Inv.fpOk {X:Cx} {pins:List (Addr × Obj)} {σ:St} {H H':Hp} {s:Shared} {b:Addr} (I:Inv X pins σ H s) (hb:s.heap.objs.size<=b) (hn:H' b=none):JY X pins H' b:=by
 refine ⟨hn,Nat.ne_of_gt (Nat.lt_of_lt_of_le I.lt hb),I.nofs hb,.inr (Nat.le_trans I.sz hb),fun x c e z=>?_,fun p hp z=>?_⟩
 ·obtain ⟨v,q⟩:=I.cell x c e
  exact absurd (Nat.lt_of_lt_of_le q.lt (by rw [z];exact hb)) (Nat.lt_irrefl _)
 ·exact absurd (Nat.lt_of_lt_of_le (Heap.lt_size (I.pin p hp).1) (by rw [z];exact hb)) (Nat.lt_irrefl _)
structure Turn (P:Program) (w:World) (K:PySem.W.Frag) (tg:Expr) (J:It) (fp:List Addr) (it:Addr) (tn:Nat->Heap->Prop):Prop where
 mem:it∈fp
 obj:∀i h,tn i h->∀b∈fp,∃o,h.get? b=some o/\∀v,o.data≠.cell v
 keep:∀i h h',tn i h->(∀b∈fp,∀o,h.get? b=some o->h'.get? b=some o)->tn i h'
 item:∀(X:Cx),X.prog=P->X.w=w->X.K=K->X.calm=true->∀(i:Nat) (pins:List (Addr × Obj)) (s:Shared) (σ:St) (H:Hp) (E:Value->Shared->Prop),Inv X pins σ H s->(∀b∈fp,JY X pins H b)->tn i s.heap->J.go i H ->
  wpAny (model P w) X.A (pyNext (.ref it)) (fun r s1=>∃u,r=some u /\
   wpAny (model P w) X.A (letOwnedTupleGo tg (.ref it) u) (fun _ s2=>∃x H',Inv X pins σ H' s2/\AS x u/\J.yld i H x H'/\tn (i+1) s2.heap/\∀b∈fp,H' b=none) E s1) E s
 done:∀(X:Cx),X.prog=P->X.w=w->X.K=K->X.calm=true->∀(i:Nat) (pins:List (Addr × Obj)) (s:Shared) (σ:St) (H:Hp) (E:Value->Shared->Prop),Inv X pins σ H s->(∀b∈fp,JY X pins H b)->tn i s.heap->J.stop i H ->
  wpAny (model P w) X.A (pyNext (.ref it)) (fun r s1=>r=none/\Inv X pins σ H s1) E s
 self:∀(A:Around) (i:Nat) (s:Shared) (Q:Value->Shared->Prop) (E:Value->Shared->Prop),tn i s.heap->Q (.ref it) s->wpAny (model P w) A (pyIter (.ref it)) Q E s
abbrev TI:=St->Hp->(It->Hp->Prop)->Prop
noncomputable def PIE (X:Cx) (pins:List (Addr × Obj)) (σ:St) (tg:Expr) (R:It->Hp->Prop) (itv:Value) (s2:Shared):Prop :=
 ∃(it:Addr) (fp:List Addr) (tn:Nat->Heap->Prop) (J:It) (H':Hp),itv=.ref it/\Inv X pins σ H' s2/\Turn X.prog X.w X.K tg J fp it tn/\tn 0 s2.heap/\(∀b∈fp,JY X pins H' b)/\R J H'
noncomputable def PI (X:Cx) (tg iter:Expr) (wi:TI):Prop :=
 ∀(pins:List (Addr × Obj)) (s:Shared) (σ:St) (H:Hp) (R:It->Hp->Prop),Inv X pins σ H s->wi σ H R ->
  wpAny (model X.prog X.w) X.A (eval iter X.env) (fun v s1=>wpAny (model X.prog X.w) X.A (pyIter v) (PIE X pins σ tg R) X.xe s1) X.xe s
theorem ND {M:Model} {A:Around} {E:Value->Shared->Prop} {s:Shared} {tg:Expr} {it:Addr} {u:Value} {o:Obj} {n:String} {vs:Array Value} {Q:Unit->Shared->Prop} (ho:s.heap.get? it=some o) (hc:o.cls=.type n) (hd:o.data=.fields vs)
 (hn:["enumerate","zip","dict_itemiterator","dict_reverseitemiterator","odict_iterator","itertools.zip_longest","itertools.pairwise"].contains n=false) (hQ:Q () s):wpAny M A (letOwnedTupleGo tg (.ref it) u) Q E s:=by
 unfold letOwnedTupleGo
 cases tg <;> first
  | exact wpAny_pure hQ
  | (cases u <;> first
   | exact wpAny_pure hQ
   | (refine wpAny_bind (wpAny_load ho ?_)
      rw [hc,hd]
      show wpAny M A (if (["enumerate","zip","dict_itemiterator","dict_reverseitemiterator","odict_iterator","itertools.zip_longest","itertools.pairwise"].contains n && vs[0]? == some (rawInt _))=true then _ else _) Q E s
      rw [if_neg (by intro h;rw [hn,Bool.false_and] at h;cases h)]
      exact wpAny_pure hQ))
noncomputable def Itl (K:PySem.W.Frag) (a:Addr):It :=
 ⟨fun i H=>∃xs x,SqL K H a xs/\xs[i]?=some x,fun i H x H'=>H'=H/\∀xs,SqL K H a xs->xs[i]?=some x,fun i H=>∃xs,SqL K H a xs/\xs.length<=i⟩
noncomputable def Itt (K:PySem.W.Frag) (a:Addr):It :=
 ⟨fun i H=>∃xs x,SqT K H a xs/\xs[i]?=some x,fun i H x H'=>H'=H/\∀xs,SqT K H a xs->xs[i]?=some x,fun i H=>∃xs,SqT K H a xs/\xs.length<=i⟩
noncomputable def Itr (lo:Int) (n:Nat):It:=⟨fun i _=>i < n,fun i H x H'=>H'=H/\x=.int (lo+i),fun i _=>n<=i⟩
theorem No {P:Program} {w:World} {K:PySem.W.Frag} {tg:Expr} (a it:Addr):Turn P w K tg (Itl K a) [it] it (fun i h=>h.IsListIter it a i) where
 mem:=by simp
 obj:=fun i h st b hb=>by
  have e:b=it:=by simpa using hb
  subst e
  obtain ⟨o,e,c,d⟩:=st
  exact ⟨o,e,fun v z=>by rw [d] at z;cases z⟩
 keep:=fun i h h' st k=>st.at fun o e=>k it (by simp) o e
 item:=by
  intro X hP hw hK hc i pins s σ H E I hf st hg
  subst hP hw hK
  obtain ⟨xs,x,hq,hx⟩:=hg
  obtain ⟨its,rv,p,hz⟩:=I.list hq
  obtain ⟨u,hu,ru⟩:=rv.get hx
  obtain ⟨f0,f1,f2,f3,f4,f5⟩:=hf it (by simp)
  refine wpAny_pyNext_list_item st p.isList (x:=u) (by simpa using hu) fun h' st' sb=>?_
  have I1:Inv X pins σ H { s with heap:=h' }:=I.turned (t':=s.toks) (fun b o hb e=>(sb.2 b hb).trans e) f0 f1 f3 f4 f5
  obtain ⟨o,e,c,d⟩:=id st'
  exact ⟨u,rfl,ND (s:={ s with heap:=h' }) e c d (by decide) ⟨x,H,I1,ru,⟨rfl,fun ys hy=>by rw [I.list_inj hy hq];exact hx⟩,st',fun b hb=>(hf b hb).1⟩⟩
 done:=by
  intro X hP hw hK hc i pins s σ H E I hf st hg
  subst hP hw hK
  obtain ⟨xs,hq,hx⟩:=hg
  obtain ⟨its,rv,p,hz⟩:=I.list hq
  obtain ⟨f0,f1,f2,f3,f4,f5⟩:=hf it (by simp)
  have hl:=rv.length
  exact wpAny_pyNext_list_end (I.ok.hd hc) st p.isList (by simp;omega) fun h' eb=>⟨rfl,I.turned (t':=s.toks) (fun b o hb e=>eb b o hb e) f0 f1 f3 f4 f5⟩
 self:=fun _ _ _ _ _ st h=>wpAny_pyIter_listiter st h
theorem LO {P:Program} {w:World} {K:PySem.W.Frag} {tg:Expr} (a it:Addr):Turn P w K tg (Itt K a) [it] it (fun i h=>h.IsTupleIter it a i) where
 mem:=by simp
 obj:=fun i h st b hb=>by
  have e:b=it:=by simpa using hb
  subst e
  obtain ⟨o,e,c,d⟩:=st
  exact ⟨o,e,fun v z=>by rw [d] at z;cases z⟩
 keep:=fun i h h' st k=>st.at fun o e=>k it (by simp) o e
 item:=by
  intro X hP hw hK hc i pins s σ H E I hf st hg
  subst hP hw hK
  obtain ⟨xs,x,hq,hx⟩:=hg
  obtain ⟨its,rv,p,hz⟩:=I.tuple hq
  obtain ⟨u,hu,ru⟩:=rv.get hx
  obtain ⟨f0,f1,f2,f3,f4,f5⟩:=hf it (by simp)
  refine wpAny_pyNext_tuple_item st (show s.heap.IsTuple a its.toArray from p) (x:=u) (by simpa using hu) fun h' st' sb=>?_
  have I1:Inv X pins σ H { s with heap:=h' }:=I.turned (t':=s.toks) (fun b o hb e=>(sb.2 b hb).trans e) f0 f1 f3 f4 f5
  obtain ⟨o,e,c,d⟩:=id st'
  exact ⟨u,rfl,ND (s:={ s with heap:=h' }) e c d (by decide) ⟨x,H,I1,ru,⟨rfl,fun ys hy=>by rw [I.tuple_inj hy hq];exact hx⟩,st',fun b hb=>(hf b hb).1⟩⟩
 done:=by
  intro X hP hw hK hc i pins s σ H E I hf st hg
  subst hP hw hK
  obtain ⟨xs,hq,hx⟩:=hg
  obtain ⟨its,rv,p,hz⟩:=I.tuple hq
  obtain ⟨f0,f1,f2,f3,f4,f5⟩:=hf it (by simp)
  have hl:=rv.length
  exact wpAny_pyNext_tuple_end (I.ok.hd hc) st (show s.heap.IsTuple a its.toArray from p) (by simp;omega) fun h' eb=>⟨rfl,I.turned (t':=s.toks) (fun b o hb e=>eb b o hb e) f0 f1 f3 f4 f5⟩
 self:=fun _ _ _ _ _ st h=>wpAny_pyIter_tupleiter st h
theorem LN {P:Program} {w:World} {K:PySem.W.Frag} {tg:Expr} (it:Addr) (lo:Int) (n:Nat):Turn P w K tg (Itr lo n) [it] it (fun i h=>IsRangeIter h it (lo+(i:Nat)*1) ((n:Int) - (i:Nat)) 1) where
 mem:=by simp
 obj:=fun i h st b hb=>by
  have e:b=it:=by simpa using hb
  subst e
  exact ⟨_,st,fun v z=>by
   have z':Data.fields _=Data.cell v:=z
   cases z'⟩
 keep:=fun i h h' st k=>k it (by simp) _ st
 item:=by
  intro X hP hw hK hc i pins s σ H E I hf st hg
  subst hP hw hK
  obtain ⟨f0,f1,f2,f3,f4,f5⟩:=hf it (by simp)
  have W:=Walks.range (prog:=X.prog) (w:=X.w) (I.ok.hd hc) it lo 1 n
  refine W.item i s _ _ hg st fun v h' tk hv st' kk=>?_
  obtain ⟨t,rfl⟩:=hv
  have I1:Inv X pins σ H { s with heap:=h',toks:=tk }:=I.turned (fun b o hb e=>kk b o (by simpa using hb) e) f0 f1 f3 f4 f5
  refine ⟨_,rfl,ND (s:={ s with heap:=h',toks:=tk }) (n:="range_iterator") st' rfl rfl (by decide) ⟨.int (lo+i),H,I1,⟨t,?_⟩,⟨rfl,rfl⟩,st',fun b hb=>(hf b hb).1⟩⟩
  rw [Int.mul_one]
 done:=by
  intro X hP hw hK hc i pins s σ H E I hf st hg
  subst hP hw hK
  obtain ⟨f0,f1,f2,f3,f4,f5⟩:=hf it (by simp)
  exact wpAny_pyNext_range_end (I.ok.hd hc) st (by have:n<=i:=hg;omega) fun h' eb=>⟨rfl,I.turned (t':=s.toks) (fun b o hb e=>eb b o hb e) f0 f1 f3 f4 f5⟩
 self:=fun _ _ _ _ _ st h=>wpAny_pyIter_rangeiter st h
end L2
namespace L2
open PySem PySem.Spec PyProof.Rows
section
variable {X:Cx} {tg:Expr}
noncomputable def QU (K:PySem.W.Frag) (tl:TE):TI:=fun σ H R=>tl σ H fun x H1=>∃a,x=.ref a/\(∃xs,SqL K H1 a xs)/\R (Itl K a) H1
noncomputable def RG (K:PySem.W.Frag) (tl:TE):TI:=fun σ H R=>tl σ H fun x H1=>∃a,x=.ref a/\(∃xs,SqT K H1 a xs)/\R (Itt K a) H1
theorem BD {l:Expr} {tl:TE} (hl:PE X l tl):PI X tg l (QU X.K tl):=by
 intro pins s σ H R I h
 refine thn (hl pins s σ H _ I h) fun v s1 ⟨x,H1,I1,r1,q1⟩=>?_
 obtain ⟨a,e,⟨xs,hq⟩,q⟩:=q1
 subst e
 cases r1
 obtain ⟨its,rv,p,hz⟩:=I1.list hq
 refine wpAny_pyIter_list p.isList ?_
 refine ⟨s1.heap.objs.size,[s1.heap.objs.size],_,_,H1,rfl,I1.kept (t':=s1.toks) fun b o e=>Heap.get?_push_of_some _ e,No a _,⟨_,Heap.get?_push_size _ rfl,rfl,rfl⟩,fun b hb=>?_,q⟩
 have e:b=s1.heap.objs.size:=by simpa using hb
 subst e
 exact I1.fpOk (Nat.le_refl _) (I1.hok.fresh (Nat.le_refl _))
theorem Q1 {l:Expr} {tl:TE} (hl:PE X l tl):PI X tg l (RG X.K tl):=by
 intro pins s σ H R I h
 refine thn (hl pins s σ H _ I h) fun v s1 ⟨x,H1,I1,r1,q1⟩=>?_
 obtain ⟨a,e,⟨xs,hq⟩,q⟩:=q1
 subst e
 cases r1
 obtain ⟨its,rv,p,hz⟩:=I1.tuple hq
 refine wpAny_pyIter_tuple (show s1.heap.IsTuple a its.toArray from p) ?_
 refine ⟨s1.heap.objs.size,[s1.heap.objs.size],_,_,H1,rfl,I1.kept (t':=s1.toks) fun b o e=>Heap.get?_push_of_some _ e,LO a _,⟨_,Heap.get?_push_size _ rfl,rfl,rfl⟩,fun b hb=>?_,q⟩
 have e:b=s1.heap.objs.size:=by simpa using hb
 subst e
 exact I1.fpOk (Nat.le_refl _) (I1.hok.fresh (Nat.le_refl _))
theorem K6 {pins:List (Addr × Obj)} {σ:St} {H:Hp} {s:Shared} {R:It->Hp->Prop} {E:Value->Shared->Prop} {lo hi:Int} {t u v:Tok} {tk:Nat} (I:Inv X pins σ H s) (h1:-(2 ^ 62)<=lo) (h2:lo < 2 ^ 62) (h3:-(2 ^ 62)<=hi) (h4:hi < 2 ^ 62)
 (q:R (Itr lo (hi - lo).toNat) H):wpAny (model X.prog X.w) X.A (pyIter (.ref s.heap.objs.size)) (PIE X pins σ tg R) E { s with heap:=s.heap.push { cls:=.type "range",data:=.fields #[.int lo t,.int hi u,.int 1 v] },toks:=tk }:=by
 refine wpAny_pyIter_range (IsRange.new ..) (small_one h1 h2 h3 h4) ?_
 have I1:Inv X pins σ H { s with heap:=s.heap.push { cls:=.type "range",data:=.fields #[.int lo t,.int hi u,.int 1 v] },toks:=tk }:=I.kept fun b o e=>Heap.get?_push_of_some _ e
 refine ⟨(s.heap.push { cls:=.type "range",data:=.fields #[.int lo t,.int hi u,.int 1 v] }).objs.size,[(s.heap.push { cls:=.type "range",data:=.fields #[.int lo t,.int hi u,.int 1 v] }).objs.size],_,_,H,rfl,
  I1.kept (t':=tk) fun b o e=>Heap.get?_push_of_some _ e,LN _ lo (hi - lo).toNat,?_,fun b hb=>?_,q⟩
 ·have e1:lo+((0:Nat):Int)*1=lo:=by simp
  have e2:(((hi - lo).toNat:Nat):Int) - ((0:Nat):Int)=Builtin.Range.rangeSize lo hi 1:=by rw [rangeSize_one];split <;> omega
  show IsRangeIter _ _ (lo+((0:Nat):Int)*1) ((((hi - lo).toNat:Nat):Int) - ((0:Nat):Int)) 1
  rw [e1,e2]
  exact Heap.get?_push_size _ rfl
 ·have e:b=(s.heap.push { cls:=.type "range",data:=.fields #[.int lo t,.int hi u,.int 1 v] }).objs.size:=by simpa using hb
  subst e
  exact I1.fpOk (Nat.le_refl _) (I1.hok.fresh (Nat.le_refl _))
noncomputable def QV (ta:TA):TI:=fun σ H R=>ta σ H fun vs H1=>∃j:Int,vs=[.int j]/\-(2 ^ 62)<=j/\j < 2 ^ 62/\R (Itr 0 j.toNat) H1
noncomputable def QW (ta:TA):TI:=fun σ H R=>ta σ H fun vs H1=>∃i j:Int,vs=[.int i,.int j]/\(-(2 ^ 62)<=i/\i < 2 ^ 62/\-(2 ^ 62)<=j/\j < 2 ^ 62)/\R (Itr i (j - i).toNat) H1
theorem BU {a:Expr} {ta:TA} {p pos:Pos} (hg:Gl X "range") (hm:X.mg "range"=none) (ha:PA X [a] ta) (hs:starEach [a] X.env=[(false,eval a X.env)]:=by rfl):PI X tg (.Call (.Name "range" p) [a] [] pos) (QV ta):=by
 intro pins s σ H R I h
 refine Call_ (Ff I hg hm boot_range (PyProof.Rows.callWith_type1 (thn (ha pos pins s σ H _ I h) fun us s1 ⟨vs,H1,I1,r1,q1⟩=>?_) hs rfl))
 obtain ⟨j,e,q1,q2,q⟩:=q1
 subst e
 cases r1 with
 | cons r rr =>
   cases rr
   obtain ⟨t,rfl⟩:=r
   exact call_range_1 (K6 I1 (by omega) (by omega) q1 q2 (by simpa using q))
theorem Na {a b:Expr} {ta:TA} {p pos:Pos} (hg:Gl X "range") (hm:X.mg "range"=none) (ha:PA X [a,b] ta) (hs:starEach [a,b] X.env=[(false,eval a X.env),(false,eval b X.env)]:=by rfl) (hs2:starEach [b] X.env=[(false,eval b X.env)]:=by rfl) :
 PI X tg (.Call (.Name "range" p) [a,b] [] pos) (QW ta):=by
 intro pins s σ H R I h
 refine Call_ (Ff I hg hm boot_range (PyProof.Rows.callWith_type1 (thn (ha pos pins s σ H _ I h) fun us s1 ⟨vs,H1,I1,r1,q1⟩=>?_) (by rw [hs,hs2]) (by rw [hs2];rfl)))
 obtain ⟨i,j,e,⟨q1,q2,q3,q4⟩,q⟩:=q1
 subst e
 cases r1 with
 | cons r rr =>
   cases rr with
   | cons r' rr =>
     cases rr
     obtain ⟨t,rfl⟩:=r
     obtain ⟨t',rfl⟩:=r'
     exact call_range_2 (K6 I1 q1 q2 q3 q4 q)
noncomputable def RX (wi:TI) (g:TG) (tb:TS):TS:=fun D σ H=>wi σ H fun J H1=>∃W:Nat->Nat->St->Hp->Prop,(∃m,W 0 m σ H1)/\∀i m σ H,W i m σ H ->
 (J.stop i H/\D.nx σ H)\/(J.go i H/\∃N:St->Hp->Prop,(∀σ' H',N σ' H'->∃m',m' < m/\W (i+1) m' σ' H')/\∀x H',J.yld i H x H'->g x σ H' fun σ2 H2=>tb { D with nx:=N,ct:=N,bk:=D.nx } σ2 H2)
noncomputable def Hw (fp:List Addr) (h:Heap):List (Addr × Obj):=fp.filterMap fun b=>(h.get? b).map fun o=>(b,o)
theorem En {fp:List Addr} {h:Heap} {b:Addr} {o:Obj} (hb:b∈fp) (e:h.get? b=some o):(b,o)∈Hw fp h:=List.mem_filterMap.mpr ⟨b,hb,by rw [e];rfl⟩
theorem MZ {fp:List Addr} {h:Heap} {p:Addr × Obj} (hp:p∈Hw fp h):p.1∈fp/\h.get? p.1=some p.2:=by
 obtain ⟨b,hb,e⟩:=List.mem_filterMap.mp hp
 cases q:h.get? b with
 | none=>rw [q] at e;cases e
 | some o =>
   rw [q] at e
   have e':(b,o)=p:=Option.some.inj e
   subst e'
   exact ⟨hb,q⟩
theorem Inv.pinned {pins:List (Addr × Obj)} {σ:St} {H:Hp} {s:Shared} {fp:List Addr} (I:Inv X pins σ H s) (hf:∀b∈fp,JY X pins H b) (ho:∀b∈fp,∃o,s.heap.get? b=some o/\∀v,o.data≠.cell v):Inv X (pins++Hw fp s.heap) σ H s :=
 I.pins_of fun p hp=>(List.mem_append.mp hp).elim (fun z=>I.pin p (List.mem_append_right _ z)) fun z=>by
  obtain ⟨hb,e⟩:=MZ z
  obtain ⟨f0,f1,f2,_⟩:=hf p.1 hb
  obtain ⟨o,e',d⟩:=ho p.1 hb
  rw [e] at e';cases e'
  exact ⟨e,f0,f1,f2,d⟩
theorem Inv.unpinned {pins pl:List (Addr × Obj)} {σ:St} {H:Hp} {s:Shared} (I:Inv X (pins++pl) σ H s):Inv X pins σ H s:=I.pins_of fun p hp=>I.pin p (List.mem_append_right _ (List.mem_append_left _ hp))
theorem Es {iter:Expr} {body:List Stmt} {wi:TI} {g:TG} {tb:TS} {pos:Pos} (hp:PassesOwn (model X.prog X.w) X.A X.env X.xe) (hc:X.calm=true) (hi:PI X tg iter wi) (hg:PG X tg g) (hb:PSs X body tb)
 (hs:∀x,foldedSetIterable iter X.env x=pure x:=by intro _;rfl):PS X (.For tg iter body [] pos) (RX wi g tb):=by
 intro pins s σ H D I h
 refine wpAny_For (thn (hi pins s σ H _ I h) fun v s1 h1=>thn h1 fun itv s2 h2=>?_) hs
 obtain ⟨it,fp,tn,J,H2,e,I2,T,st2,f2,W,⟨m0,w0⟩,turn⟩:=h2
 subst e
 have stat:∀{H':Hp},(∀b∈fp,H' b=none)->∀b∈fp,JY X pins H' b:=fun hn b hb=>⟨hn b hb,(f2 b hb).2⟩
 refine codeAny_forLoop_any (fun n s'=>∃i σ' H',Inv X pins σ' H' s'/\tn i s'.heap/\(∀b∈fp,H' b=none)/\W i n σ' H') ?_ m0 ⟨0,σ,H2,I2,st2,fun b hb=>(f2 b hb).1,w0⟩
 rintro n s3 ⟨i,σ3,H3,I3,st3,fr3,w3⟩
 rcases turn i n σ3 H3 w3 with ⟨stop,qn⟩ | ⟨go,N,hN,step⟩
 ·refine wpAny_passesOwn hp (thn (T.done X rfl rfl rfl hc i pins s3 σ3 H3 X.xe I3 (stat fr3) st3 stop) fun r s4 ⟨hr,I4⟩=>?_)
  subst hr
  exact wpAny_execs_nil ⟨σ3,H3,I4,qn⟩
 ·refine wpAny_passesOwn hp (thn (T.item X rfl rfl rfl hc i pins s3 σ3 H3 X.xe I3 (stat fr3) st3 go) fun r s4 ⟨u,hr,h4⟩=>?_)
  subst hr
  refine wpAny_passesOwn hp (thn h4 fun _ s5 ⟨x,H5,I5,r5,y5,st5,fr5⟩=>?_)
  have I5':=I5.pinned (stat fr5) (T.obj _ _ st5)
  refine wpAny_passesOwn hp (thn (hg _ s5 σ3 H5 x u _ I5' r5 (step x H5 y5)) fun _ s6 ⟨σ6,H6,I6,q6⟩=>?_)
  refine wpAny_passesOwn hp (thn (hb _ s6 σ6 H6 _ I6 q6) fun f s7 q7=>?_)
  have again:∀{σ7:St} {H7:Hp},Inv X (pins++Hw fp s5.heap) σ7 H7 s7->N σ7 H7->∃m,m < n/\∃i σ' H',Inv X pins σ' H' s7/\tn i s7.heap/\(∀b∈fp,H' b=none)/\W i m σ' H':=fun {σ7 H7} I7 n7=>by
   obtain ⟨m',hm,w7⟩:=hN σ7 H7 n7
   refine ⟨m',hm,i+1,σ7,H7,I7.unpinned,T.keep _ _ _ st5 fun b hb o e=>(I7.pin (b,o) (List.mem_append_right _ (List.mem_append_right _ (En hb e)))).1,fun b hb=>?_,w7⟩
   obtain ⟨o,e,d⟩:=T.obj _ _ st5 b hb
   exact (I7.pin (b,o) (List.mem_append_right _ (List.mem_append_right _ (En hb e)))).2.1
  cases f with
  | next=>obtain ⟨σ7,H7,I7,n7⟩:=q7;exact again I7 n7
  | cont=>obtain ⟨σ7,H7,I7,n7⟩:=q7;exact again I7 n7
  | brk=>obtain ⟨σ7,H7,I7,q7⟩:=q7;exact ⟨σ7,H7,I7.unpinned,q7⟩
  | ret v=>obtain ⟨x7,σ7,H7,I7,r7,q7⟩:=q7;exact ⟨x7,σ7,H7,I7.unpinned,r7,q7⟩
end
theorem Ft {K:PySem.W.Frag} {a:Addr} {xs:List V} {g:TG} {tb:TS} {D:Fp} {σ:St} {H:Hp} (Pv:Nat->St->Hp->Prop) (h0:Pv 0 σ H) (hl:∀i σ H,i<=xs.length->Pv i σ H->SqL K H a xs)
 (hs:∀i x σ H,xs[i]?=some x->Pv i σ H->g x σ H fun σ2 H2=>tb { D with nx:=Pv (i+1),ct:=Pv (i+1),bk:=D.nx } σ2 H2) (hd:∀σ H,Pv xs.length σ H->D.nx σ H) :
 ∃W:Nat->Nat->St->Hp->Prop,(∃m,W 0 m σ H)/\∀i m σ H,W i m σ H ->
  ((Itl K a).stop i H/\D.nx σ H)\/((Itl K a).go i H/\∃N:St->Hp->Prop,(∀σ' H',N σ' H'->∃m',m' < m/\W (i+1) m' σ' H')/\∀x H',(Itl K a).yld i H x H'->g x σ H' fun σ2 H2=>tb { D with nx:=N,ct:=N,bk:=D.nx } σ2 H2):=by
 refine ⟨fun i m σ H=>m=xs.length - i/\i<=xs.length/\Pv i σ H,⟨xs.length,by simp,Nat.zero_le _,h0⟩,?_⟩
 rintro i m σ H ⟨rfl,hi,p⟩
 have q:=hl i σ H hi p
 by_cases hlt:i < xs.length
 ·refine .inr ⟨⟨xs,xs[i],q,by simp [hlt]⟩,Pv (i+1),fun σ' H' p'=>⟨xs.length - (i+1),by omega,rfl,hlt,p'⟩,fun x H' y=>?_⟩
  obtain ⟨e,y⟩:=y
  subst e
  exact hs i x σ _ (y xs q) p
 ·have e:i=xs.length:=by omega
  subst e
  exact .inl ⟨⟨xs,q,Nat.le_refl _⟩,hd σ H p⟩
theorem ON {K:PySem.W.Frag} {a:Addr} {xs:List V} {g:TG} {tb:TS} {D:Fp} {σ:St} {H:Hp} (Pv:Nat->St->Hp->Prop) (h0:Pv 0 σ H) (hl:∀i σ H,i<=xs.length->Pv i σ H->SqT K H a xs)
 (hs:∀i x σ H,xs[i]?=some x->Pv i σ H->g x σ H fun σ2 H2=>tb { D with nx:=Pv (i+1),ct:=Pv (i+1),bk:=D.nx } σ2 H2) (hd:∀σ H,Pv xs.length σ H->D.nx σ H) :
 ∃W:Nat->Nat->St->Hp->Prop,(∃m,W 0 m σ H)/\∀i m σ H,W i m σ H ->
  ((Itt K a).stop i H/\D.nx σ H)\/((Itt K a).go i H/\∃N:St->Hp->Prop,(∀σ' H',N σ' H'->∃m',m' < m/\W (i+1) m' σ' H')/\∀x H',(Itt K a).yld i H x H'->g x σ H' fun σ2 H2=>tb { D with nx:=N,ct:=N,bk:=D.nx } σ2 H2):=by
 refine ⟨fun i m σ H=>m=xs.length - i/\i<=xs.length/\Pv i σ H,⟨xs.length,by simp,Nat.zero_le _,h0⟩,?_⟩
 rintro i m σ H ⟨rfl,hi,p⟩
 have q:=hl i σ H hi p
 by_cases hlt:i < xs.length
 ·refine .inr ⟨⟨xs,xs[i],q,by simp [hlt]⟩,Pv (i+1),fun σ' H' p'=>⟨xs.length - (i+1),by omega,rfl,hlt,p'⟩,fun x H' y=>?_⟩
  obtain ⟨e,y⟩:=y
  subst e
  exact hs i x σ _ (y xs q) p
 ·have e:i=xs.length:=by omega
  subst e
  exact .inl ⟨⟨xs,q,Nat.le_refl _⟩,hd σ H p⟩
theorem ED {lo:Int} {n:Nat} {g:TG} {tb:TS} {D:Fp} {σ:St} {H:Hp} (Pv:Nat->St->Hp->Prop) (h0:Pv 0 σ H)
 (hs:∀i σ H,i < n->Pv i σ H->g (.int (lo+i)) σ H fun σ2 H2=>tb { D with nx:=Pv (i+1),ct:=Pv (i+1),bk:=D.nx } σ2 H2) (hd:∀σ H,Pv n σ H->D.nx σ H) :
 ∃W:Nat->Nat->St->Hp->Prop,(∃m,W 0 m σ H)/\∀i m σ H,W i m σ H ->
  ((Itr lo n).stop i H/\D.nx σ H)\/((Itr lo n).go i H/\∃N:St->Hp->Prop,(∀σ' H',N σ' H'->∃m',m' < m/\W (i+1) m' σ' H')/\∀x H',(Itr lo n).yld i H x H'->g x σ H' fun σ2 H2=>tb { D with nx:=N,ct:=N,bk:=D.nx } σ2 H2):=by
 refine ⟨fun i m σ H=>m=n - i/\i<=n/\Pv i σ H,⟨n,by simp,Nat.zero_le _,h0⟩,?_⟩
 rintro i m σ H ⟨rfl,hi,p⟩
 by_cases hlt:i < n
 ·refine .inr ⟨hlt,Pv (i+1),fun σ' H' p'=>⟨n - (i+1),by omega,rfl,hlt,p'⟩,fun x H' y=>?_⟩
  obtain ⟨e,y⟩:=y
  subst e y
  exact hs i σ _ hlt p
 ·have e:i=n:=by omega
  subst e
  exact .inl ⟨Nat.le_refl _,hd σ H p⟩
theorem Lj {c:TT} {tb:TS} {D:Fp} {σ:St} {H:Hp} (Pv:St->Hp->Prop) (μ:St->Hp->Nat) (h0:Pv σ H)
 (hs:∀σ H,Pv σ H->c σ H fun b H1=>if b=true then tb { D with nx:=fun σ' H'=>Pv σ' H'/\μ σ' H' < μ σ H,ct:=fun σ' H'=>Pv σ' H'/\μ σ' H' < μ σ H,bk:=D.nx } σ H1 else D.nx σ H1)
 (mono:∀σ H Q Q',(∀b H1,Q b H1->Q' b H1)->c σ H Q->c σ H Q'):OF c tb D σ H:=by
 refine ⟨fun m σ H=>m=μ σ H/\Pv σ H,⟨_,rfl,h0⟩,?_⟩
 rintro m σ H ⟨rfl,p⟩
 refine mono σ H _ _ (fun b H1 q=>?_) (hs σ H p)
 cases b with
 | true=>exact ⟨_,fun σ' H' ⟨p',l⟩=>⟨_,l,rfl,p'⟩,q⟩
 | false=>exact q
end L2
namespace L2
open PySem PySem.Spec PyProof.Rows
abbrev R2:=V->V->Hp->VK->Prop
noncomputable def OpR (X:Cx) (f:Value->Value->Sem Value) (r:R2):Prop :=
 ∀(pins:List (Addr × Obj)) (s:Shared) (σ:St) (H:Hp) (x y:V) (v u:Value) (Q:VK),Inv X pins σ H s->AS x v->AS y u->r x y H Q ->
  wpAny (model X.prog X.w) X.A (f v u) (EP X pins σ Q) X.xe s
noncomputable def UnR (X:Cx) (f:Value->Sem Value) (r:V->Hp->VK->Prop):Prop :=
 ∀(pins:List (Addr × Obj)) (s:Shared) (σ:St) (H:Hp) (x:V) (v:Value) (Q:VK),Inv X pins σ H s->AS x v->r x H Q ->
  wpAny (model X.prog X.w) X.A (f v) (EP X pins σ Q) X.xe s
noncomputable def CP (X:Cx) (f:Value) (r:List V->Hp->VK->Prop):Prop :=
 ∀(pins:List (Addr × Obj)) (s:Shared) (σ:St) (H:Hp) (xs:List V) (us:List Value) (Q:VK),Inv X pins σ H s->AJ xs us->r xs H Q ->
  wpAny (model X.prog X.w) X.A (call f us) (EP X pins σ Q) X.xe s
noncomputable def tOp (r:R2) (ta tb:TE):TE:=fun σ H Q=>ta σ H fun x H1=>tb σ H1 fun y H2=>r x y H2 Q
noncomputable def tUn (r:V->Hp->VK->Prop) (ta:TE):TE:=fun σ H Q=>ta σ H fun x H1=>r x H1 Q
noncomputable def rI (C:Int->Int->Prop) (g:Int->Int->V):R2:=fun x y H Q=>∃i j,x=.int i/\y=.int j/\C i j/\Q (g i j) H
noncomputable def rI0 (g:Int->Int->V):R2:=fun x y H Q=>∃i j,x=.int i/\y=.int j/\Q (g i j) H
noncomputable def rU (g:Int->V):V->Hp->VK->Prop:=fun x H Q=>∃i,x=.int i/\Q (g i) H
section
variable {X:Cx} {a b c:Expr} {ta tb tc:TE} {pos:Pos}
theorem Qa (ha:PE X a ta) (hb:PE X b tb) {pins:List (Addr × Obj)} {s:Shared} {σ:St} {H:Hp} {R:V->V->Hp->Prop} (I:Inv X pins σ H s)
 (h:ta σ H fun x H1=>tb σ H1 fun y H2=>R x y H2) {Q:Value->Shared->Prop} {f:Value->Value->Sem Value}
 (hf:∀v u s2 x y H2,Inv X pins σ H2 s2->AS x v->AS y u->R x y H2->wpAny (model X.prog X.w) X.A (f v u) Q X.xe s2) :
 wpAny (model X.prog X.w) X.A (eval a X.env) (fun v s₁=>wpAny (model X.prog X.w) X.A (eval b X.env) (fun u s₂=>wpAny (model X.prog X.w) X.A (f v u) Q X.xe s₂) X.xe s₁) X.xe s:=by
 refine thn (ha pins s σ H _ I h) fun v s1 ⟨x,H1,I1,r1,q1⟩=>?_
 refine thn (hb pins s1 σ H1 _ I1 q1) fun u s2 ⟨y,H2,I2,r2,q2⟩=>?_
 exact hf v u s2 x y H2 I2 r1 r2 q2
theorem Ai {op:Operator} {r:R2} (ho:OpR X (binaryOp op) r) (ha:PE X a ta) (hb:PE X b tb):PE X (.BinOp a op b pos) (tOp r ta tb):=by
 intro pins s σ H Q I h
 exact wpAny_BinOp (Qa ha hb I h fun v u s2 x y H2 I2 rx ry q=>ho pins s2 σ H2 x y v u Q I2 rx ry q)
theorem Mp {op:UnaryOp} {r:V->Hp->VK->Prop} (ho:UnR X (unaryOp op) r) (ha:PE X a ta):PE X (.UnaryOp op a pos) (tUn r ta):=by
 intro pins s σ H Q I h
 exact UnaryOp_ (thn (ha pins s σ H _ I h) fun v s1 ⟨x,H1,I1,r1,q1⟩=>ho pins s1 σ H1 x v Q I1 r1 q1)
theorem opI {f:Value->Value->Sem Value} {C:Int->Int->Prop} {g:Int->Int->Int}
 (rule:∀(i j:Int) (t u:Tok) (s:Shared) (Q:Value->Shared->Prop) (E:Value->Shared->Prop),C i j->Q (.int (g i j) s.toks) { s with toks:=s.toks+1 }->wpAny (model X.prog X.w) X.A (f (.int i t) (.int j u)) Q E s) :
 OpR X f (rI C fun i j=>.int (g i j)):=by
 intro pins s σ H x y v u Q I rx ry h
 obtain ⟨i,j,rfl,rfl,hc,q⟩:=h
 obtain ⟨t,rfl⟩:=rx
 obtain ⟨t',rfl⟩:=ry
 exact rule i j t t' s _ _ hc ⟨.int (g i j),H,I.tok _,⟨_,rfl⟩,q⟩
theorem Pa {f:Value->Value->Sem Value} {g:Int->Int->Int}
 (rule:∀(i j:Int) (t u:Tok) (s:Shared) (Q:Value->Shared->Prop) (E:Value->Shared->Prop),Q (.int (g i j) s.toks) { s with toks:=s.toks+1 }->wpAny (model X.prog X.w) X.A (f (.int i t) (.int j u)) Q E s) :
 OpR X f (rI0 fun i j=>.int (g i j)):=by
 intro pins s σ H x y v u Q I rx ry h
 obtain ⟨i,j,rfl,rfl,q⟩:=h
 obtain ⟨t,rfl⟩:=rx
 obtain ⟨t',rfl⟩:=ry
 exact rule i j t t' s _ _ ⟨.int (g i j),H,I.tok _,⟨_,rfl⟩,q⟩
theorem OZ {f:Value->Value->Sem Value} {g:Int->Int->Bool}
 (rule:∀(i j:Int) (t u:Tok) (s:Shared) (Q:Value->Shared->Prop) (E:Value->Shared->Prop),Q (.bool (g i j)) s->wpAny (model X.prog X.w) X.A (f (.int i t) (.int j u)) Q E s) :
 OpR X f (rI0 fun i j=>.bl (g i j)):=by
 intro pins s σ H x y v u Q I rx ry h
 obtain ⟨i,j,rfl,rfl,q⟩:=h
 obtain ⟨t,rfl⟩:=rx
 obtain ⟨t',rfl⟩:=ry
 exact rule i j t t' s _ _ ⟨.bl (g i j),H,I,rfl,q⟩
noncomputable def JX (i j:Int):Prop:=0<=j/\j<=1000000/\i.natAbs < 2 ^ 64
theorem LP (k:Nat):(0:Int)<=2 ^ k:=by
 rw [two_pow_cast]
 exact Int.natCast_nonneg _
theorem AA:OpR X (binaryOp .Add) (rI0 fun i j=>.int (i+j)):=Pa fun _ _ _ _ _ _ _ q=>add_int q
theorem Cb:OpR X (binaryOp .Sub) (rI0 fun i j=>.int (i - j)):=Pa fun _ _ _ _ _ _ _ q=>sub_int q
theorem A7:OpR X (binaryOp .Mod) (rI (fun _ j=>j≠0) fun i j=>.int (i.fmod j)):=opI fun _ _ _ _ _ _ _ hc q=>mod_int' hc q
theorem Gd:OpR X (binaryOp .Pow) (rI JX fun i j=>.int (i ^ j.toNat)):=opI fun _ _ _ _ _ _ _ hc q=>pow_int_small hc.1 hc.2.1 hc.2.2 q
theorem C8:OpR X (binaryOp .LShift) (rI JX fun i j=>.int (i*2 ^ j.toNat)):=opI fun _ _ _ _ _ _ _ hc q=>lshift_int_small hc.1 hc.2.1 hc.2.2 q
theorem Qw:OpR X (binaryOp .RShift) (rI (fun _ j=>0<=j) fun i j=>.int (i / 2 ^ j.toNat)):=opI fun i j _ _ _ _ _ hc q =>
 rshift_int hc (by rw [Int.fdiv_eq_ediv_of_nonneg i (LP _)];exact q)
theorem Oe:OpR X (binaryOp .BitAnd) (rI0 fun i j=>.int (Builtin.bitAnd i j)):=Pa fun _ _ _ _ _ _ _ q=>and_int q
theorem PJ:OpR X (binaryOp .BitOr) (rI0 fun i j=>.int (Builtin.bitOr i j)):=Pa fun _ _ _ _ _ _ _ q=>or_int q
theorem unI {f:Value->Sem Value} {g:Int->Int}
 (rule:∀(i:Int) (t:Tok) (s:Shared) (Q:Value->Shared->Prop) (E:Value->Shared->Prop),Q (.int (g i) s.toks) { s with toks:=s.toks+1 }->wpAny (model X.prog X.w) X.A (f (.int i t)) Q E s) :
 UnR X f (rU fun i=>.int (g i)):=by
 intro pins s σ H x v Q I rx h
 obtain ⟨i,rfl,q⟩:=h
 obtain ⟨t,rfl⟩:=rx
 exact rule i t s _ _ ⟨.int (g i),H,I.tok _,⟨_,rfl⟩,q⟩
theorem JV:UnR X (unaryOp .USub) (rU fun i=>.int (-i)):=unI fun _ _ _ _ _ q=>neg_int q
end
noncomputable def Ro:V->V->Bool
 | .non,.non=>true | .non,.int _=>true | .int _,.non=>true | .non,.bl _=>true | .bl _,.non=>true | .non,.str _=>true | .str _,.non=>true
 | .int _,.int _=>true | .bl _,.bl _=>true | .str _,.str _=>true | .byt _,.byt _=>true
 | .int _,.str _=>true | .str _,.int _=>true | .bl _,.str _=>true | .str _,.bl _=>true
 | _,_=>false
noncomputable def rEq:R2:=fun x y H Q=>Ro x y=true/\Q (.bl (decide (x=y))) H
noncomputable def rNe:R2:=fun x y H Q=>Ro x y=true/\Q (.bl (!decide (x=y))) H
theorem LV {i j:Int}:decide (V.int i=V.int j)=(i == j):=by
 rw [Bool.eq_iff_iff]
 simp
theorem N6 {i j:Bool}:decide (V.bl i=V.bl j)=(i == j):=by
 rw [Bool.eq_iff_iff]
 simp
theorem LW {i j:Str}:decide (V.str i=V.str j)=(i == j):=by
 rw [Bool.eq_iff_iff]
 simp
theorem LU {i j:Array UInt8}:decide (V.byt i=V.byt j)=(i.toList == j.toList):=by
 rw [Bool.eq_iff_iff]
 cases i
 cases j
 simp
section
variable {X:Cx} {a b c:Expr} {ta tb tc:TE} {pos:Pos}
theorem AT {pins:List (Addr × Obj)} {σ:St} {H:Hp} {s:Shared} {Q:VK} {k k':Bool} (I:Inv X pins σ H s) (q:Q (.bl k) H) (e:k=k'):EP X pins σ Q (.bool k') s:=by
 subst e
 exact ⟨.bl k,H,I,rfl,q⟩
theorem CF:OpR X (compareOp .Eq) rEq:=by
 intro pins s σ H x y v u Q I rx ry h
 obtain ⟨hs,q⟩:=h
 cases x with
 | non =>
   cases rx
   cases y with
   | non=>cases ry;exact PySem.EqNone.eq_none_none (AT I q (by simp))
   | bl j=>cases ry;exact PySem.EqNone.eq_none_bool (AT I q (by simp))
   | int j=>obtain ⟨t',rfl⟩:=ry;exact PySem.EqNone.eq_none_int (AT I q (by simp))
   | str j=>obtain ⟨t',rfl⟩:=ry;exact PySem.EqNone.eq_none_str (AT I q (by simp))
   | _=>exact absurd (show false=true from hs) Bool.false_ne_true
 | bl i =>
   cases rx
   cases y with
   | non=>cases ry;exact PySem.EqNone.eq_bool_none (AT I q (by simp))
   | bl j=>cases ry;exact eq_bool (AT I q N6)
   | str j=>obtain ⟨t',rfl⟩:=ry;exact PySem.EqMixed.eq_bool_str (AT I q (by simp))
   | _=>exact absurd (show false=true from hs) Bool.false_ne_true
 | int i =>
   obtain ⟨t,rfl⟩:=rx
   cases y with
   | non=>cases ry;exact PySem.EqNone.eq_int_none (AT I q (by simp))
   | int j=>obtain ⟨t',rfl⟩:=ry;exact eq_int (AT I q LV)
   | str j=>obtain ⟨t',rfl⟩:=ry;exact PySem.EqMixed.eq_int_str (AT I q (by simp))
   | _=>exact absurd (show false=true from hs) Bool.false_ne_true
 | str i =>
   obtain ⟨t,rfl⟩:=rx
   cases y with
   | non=>cases ry;exact PySem.EqNone.eq_str_none (AT I q (by simp))
   | bl j=>cases ry;exact PySem.EqMixed.eq_str_bool (AT I q (by simp))
   | int j=>obtain ⟨t',rfl⟩:=ry;exact PySem.EqMixed.eq_str_int (AT I q (by simp))
   | str j=>obtain ⟨t',rfl⟩:=ry;exact eq_str (AT I q LW)
   | _=>exact absurd (show false=true from hs) Bool.false_ne_true
 | byt i =>
   obtain ⟨t,rfl⟩:=rx
   cases y with
   | byt j=>obtain ⟨t',rfl⟩:=ry;exact PySem.W.eq_bytes (AT I q LU)
   | _=>exact absurd (show false=true from hs) Bool.false_ne_true
 | _=>cases y <;> exact absurd (show false=true from hs) Bool.false_ne_true
theorem E6:OpR X (compareOp .NotEq) rNe:=by
 intro pins s σ H x y v u Q I rx ry h
 obtain ⟨hs,q⟩:=h
 cases x with
 | non =>
   cases rx
   cases y with
   | non=>cases ry;exact PySem.EqNone.ne_none_none (AT I q (by simp))
   | bl j=>cases ry;exact PySem.EqNone.ne_none_bool (AT I q (by simp))
   | int j=>obtain ⟨t',rfl⟩:=ry;exact PySem.EqNone.ne_none_int (AT I q (by simp))
   | str j=>obtain ⟨t',rfl⟩:=ry;exact PySem.EqNone.ne_none_str (AT I q (by simp))
   | _=>exact absurd (show false=true from hs) Bool.false_ne_true
 | bl i =>
   cases rx
   cases y with
   | non=>cases ry;exact PySem.EqNone.ne_bool_none (AT I q (by simp))
   | bl j=>cases ry;exact ne_bool (AT I q (congrArg not N6))
   | str j=>obtain ⟨t',rfl⟩:=ry;exact PySem.EqMixed.ne_bool_str (AT I q (by simp))
   | _=>exact absurd (show false=true from hs) Bool.false_ne_true
 | int i =>
   obtain ⟨t,rfl⟩:=rx
   cases y with
   | non=>cases ry;exact PySem.EqNone.ne_int_none (AT I q (by simp))
   | int j=>obtain ⟨t',rfl⟩:=ry;exact ne_int (AT I q (congrArg not LV))
   | str j=>obtain ⟨t',rfl⟩:=ry;exact PySem.EqMixed.ne_int_str (AT I q (by simp))
   | _=>exact absurd (show false=true from hs) Bool.false_ne_true
 | str i =>
   obtain ⟨t,rfl⟩:=rx
   cases y with
   | non=>cases ry;exact PySem.EqNone.ne_str_none (AT I q (by simp))
   | bl j=>cases ry;exact PySem.EqMixed.ne_str_bool (AT I q (by simp))
   | int j=>obtain ⟨t',rfl⟩:=ry;exact PySem.EqMixed.ne_str_int (AT I q (by simp))
   | str j=>obtain ⟨t',rfl⟩:=ry;exact ne_str (AT I q (congrArg not LW))
   | _=>exact absurd (show false=true from hs) Bool.false_ne_true
 | byt i =>
   obtain ⟨t,rfl⟩:=rx
   cases y with
   | byt j=>obtain ⟨t',rfl⟩:=ry;exact PySem.W.ne_bytes (AT I q (congrArg not LU))
   | _=>exact absurd (show false=true from hs) Bool.false_ne_true
 | _=>cases y <;> exact absurd (show false=true from hs) Bool.false_ne_true
theorem Eb:OpR X (compareOp .Lt) (rI0 fun i j=>.bl (decide (i < j))):=OZ fun _ _ _ _ _ _ _ q=>lt_int q
theorem Gy:OpR X (compareOp .LtE) (rI0 fun i j=>.bl (decide (i<=j))):=OZ fun _ _ _ _ _ _ _ q=>le_int q
theorem Ho:OpR X (compareOp .Gt) (rI0 fun i j=>.bl (decide (j < i))):=OZ fun _ _ _ _ _ _ _ q=>gt_int q
theorem PH:OpR X (compareOp .GtE) (rI0 fun i j=>.bl (decide (j<=i))):=OZ fun _ _ _ _ _ _ _ q=>ge_int q
theorem Hq:OpR X (compareOp .Is) (fun x y H Q=>y=.non/\Q (.bl (decide (x=.non))) H):=by
 intro pins s σ H x y v u Q I rx ry h
 obtain ⟨rfl,q⟩:=h
 cases ry
 refine is_none_gen (AT I q ?_)
 cases x <;> first
  | (cases rx;rfl)
  | (obtain ⟨t,rfl⟩:=rx;rfl)
theorem FB:OpR X (compareOp .IsNot) (fun x y H Q=>y=.non/\Q (.bl (!decide (x=.non))) H):=by
 intro pins s σ H x y v u Q I rx ry h
 obtain ⟨rfl,q⟩:=h
 cases ry
 refine isnot_none_gen (AT I q ?_)
 cases x <;> first
  | (cases rx;rfl)
  | (obtain ⟨t,rfl⟩:=rx;rfl)
theorem Ar (b:Expr) {op:CmpOp} (h:op≠.In:=by decide) (h2:op≠.NotIn:=by decide):behindInMarks op b=false:=by
 have e1:(op == CmpOp.In)=false:=by cases op <;> first | rfl | exact absurd rfl h
 have e2:(op == CmpOp.NotIn)=false:=by cases op <;> first | rfl | exact absurd rfl h2
 cases b <;> simp [behindInMarks,e1,e2]
theorem C3 {op:CmpOp} {r:R2} (ho:OpR X (compareOp op) r) (ha:PE X a ta) (hb:PE X b tb) (hm:behindInMarks op b=false):PE X (.Compare a [op] [b] pos) (tOp r ta tb):=by
 intro pins s σ H Q I h
 exact wpAny_Compare1 (Qa ha hb I h fun v u s2 x y H2 I2 rx ry q=>ho pins s2 σ H2 x y v u Q I2 rx ry q) hm
noncomputable def OE (t:TE):TT:=fun σ H Q=>t σ H fun x H'=>∃k,x=.bl k/\Q k H'
theorem Aq {op:CmpOp} {r:R2} (ho:OpR X (compareOp op) r) (ha:PE X a ta) (hb:PE X b tb) (hm:behindInMarks op b=false):PT X (.Compare a [op] [b] pos) (OE (tOp r ta tb)):=by
 intro pins s σ H Q I h
 refine wpAny_isTrue_Compare1 (thn (ha pins s σ H _ I h) fun v s1 ⟨x,H1,I1,r1,q1⟩=>thn (hb pins s1 σ H1 _ I1 q1) fun u s2 ⟨y,H2,I2,r2,q2⟩ =>
  thn (ho pins s2 σ H2 x y v u _ I2 r1 r2 q2) fun c s3 ⟨z,H3,I3,r3,k,e,q3⟩=>?_) hm
 subst e
 cases r3
 exact wpAny_truthy_bool ⟨H3,I3,q3⟩
noncomputable def QD (r r':R2) (ta tb tc:TE):TE:=fun σ H Q=>ta σ H fun x H1=>tb σ H1 fun y H2=>r x y H2 fun z H3=>∃k,z=.bl k /\
 (if k=true then tc σ H3 fun w' H4=>r' y w' H4 Q else Q (.bl false) H3)
theorem FC {op op':CmpOp} {r r':R2} (ho:OpR X (compareOp op) r) (ho':OpR X (compareOp op') r') (ha:PE X a ta) (hb:PE X b tb) (hc:PE X c tc)
 (hm:lastMarks [op,op'] [b,c]=false:=by with_unfolding_all rfl):PE X (.Compare a [op,op'] [b,c] pos) (QD r r' ta tb tc):=by
 intro pins s σ H Q I h
 refine Compare_chain (thn (ha pins s σ H _ I h) fun v s1 ⟨x,H1,I1,r1,q1⟩=>chain_link (thn (hb pins s1 σ H1 _ I1 q1) fun u s2 ⟨y,H2,I2,r2,q2⟩ =>
  thn (ho pins s2 σ H2 x y v u _ I2 r1 r2 q2) fun d s3 ⟨z,H3,I3,r3,k,e,q3⟩=>?_)) hm
 subst e
 cases r3
 refine wpAny_truthy_bool ?_
 cases k with
 | false=>exact ite_ff ⟨.bl false,H3,I3,rfl,q3⟩
 | true=>exact ite_tt (chain_last (thn (hc pins s3 σ H3 _ I3 q3) fun w' s4 ⟨z',H4,I4,r4,q4⟩=>ho' pins s4 σ H4 y z' u w' Q I4 r2 r4 q4))
theorem J8:(sizeLine:Nat) < 2 ^ 63:=by rw [sizeLine_eq];decide
theorem Dv {x:V} {us:List Value} (r:AJ [x] us):∃u,us=[u]/\AS x u:=by
 cases r with
 | cons r1 r2=>cases r2;exact ⟨_,rfl,r1⟩
theorem M8 {x y:V} {us:List Value} (r:AJ [x,y] us):∃u w',us=[u,w']/\AS x u/\AS y w':=by
 cases r with
 | cons r1 r2 =>
   cases r2 with
   | cons r3 r4=>cases r4;exact ⟨_,_,rfl,r1,r3⟩
theorem Fr:CP X (.builtin "abs") (fun xs H Q=>∃i,xs=[.int i]/\Q (.int (if i < 0 then -i else i)) H):=by
 intro pins s σ H xs us Q I r h
 obtain ⟨i,rfl,q⟩:=h
 obtain ⟨u,rfl,t,rfl⟩:=Dv r
 exact call_abs_int fun u tk=>⟨.int (if i < 0 then -i else i),H,I.tok _,⟨_,rfl⟩,q⟩
theorem FR (hc:X.calm=true):CP X (.builtin "max") (fun xs H Q=>∃i j,xs=[.int i,.int j]/\Q (.int (if j > i then j else i)) H):=by
 intro pins s σ H xs us Q I r h
 obtain ⟨i,j,rfl,q⟩:=h
 obtain ⟨u,w',rfl,⟨t,rfl⟩,⟨t',rfl⟩⟩:=M8 r
 refine max_two_ints (I.ok.hd hc) fun h' tk k=>⟨_,H,I.kept k,?_,q⟩
 by_cases hj:j > i
 ·rw [if_pos hj,if_pos hj];exact ⟨_,rfl⟩
 ·rw [if_neg hj,if_neg hj];exact ⟨_,rfl⟩
theorem FS (hc:X.calm=true):CP X (.builtin "min") (fun xs H Q=>∃i j,xs=[.int i,.int j]/\Q (.int (if j < i then j else i)) H):=by
 intro pins s σ H xs us Q I r h
 obtain ⟨i,j,rfl,q⟩:=h
 obtain ⟨u,w',rfl,⟨t,rfl⟩,⟨t',rfl⟩⟩:=M8 r
 refine min_two_ints (I.ok.hd hc) fun h' tk k=>⟨_,H,I.kept k,?_,q⟩
 by_cases hj:j < i
 ·rw [if_pos hj,if_pos hj];exact ⟨_,rfl⟩
 ·rw [if_neg hj,if_neg hj];exact ⟨_,rfl⟩
theorem FQ:CP X (.type "int") (fun xs H Q=>(∃i,xs=[.int i]/\Q (.int i) H)\/∃k,xs=[.bl k]/\Q (.int (if k then 1 else 0)) H):=by
 intro pins s σ H xs us Q I r h
 rcases h with ⟨i,rfl,q⟩ | ⟨k,rfl,q⟩
 ·obtain ⟨u,rfl,t,rfl⟩:=Dv r
  exact call_int_int ⟨.int i,H,I,⟨_,rfl⟩,q⟩
 ·obtain ⟨u,rfl,r1⟩:=Dv r
  cases r1
  exact call_int_bool ⟨.int (if k then 1 else 0),H,I.tok _,⟨_,rfl⟩,q⟩
end
end L2
namespace L2
open PySem PySem.Spec PyProof.Rows
structure Ln (h:Heap) (x dx C:Addr) (mA:Str->Option Value):Prop where
 obj:h.get? x=some (PySem.W.instObj C dx)
 ns:h.Ns1 dx mA
 ne:dx≠x
theorem MV {h:Heap} {dx:Addr} {mA:Str->Option Value} (n:h.Ns1 dx mA):∃od,h.get? dx=some od/\∀name,PySem.W.lookIn name od=some (mA name):=by
 obtain ⟨o,es,ep,ho,hd,hk,_,hm⟩:=n
 refine ⟨o,ho,fun name=>?_⟩
 have e:=hm name
 unfold nsFind findBy at e
 rw [<- Array.find?_toList] at e
 unfold PySem.W.lookIn
 rw [hd]
 dsimp only
 split
 ·rename_i y q
  rw [q] at e
  exact congrArg some e
 ·rename_i q
  rw [q] at e
  have a:es.toList.any (·.refKey)=false:=by
   rw [List.any_eq_false]
   intro y hy
   obtain ⟨z,t,hkey⟩:=hk y (Array.mem_toList_iff.mp hy)
   simp [DictEntry.refKey,hkey]
  have a':¬ es.toList.any (·.refKey)=true:=by rw [a];exact Bool.false_ne_true
  rw [if_neg a']
  exact congrArg some e
theorem Ln.look {h:Heap} {x dx C:Addr} {mA:Str->Option Value} (I:Ln h x dx C mA):∃od,PySem.W.InstAt h x (PySem.W.instObj C dx) C (some od)/\∀name,PySem.W.lookIn name od=some (mA name) :=
 let ⟨od,ho,hl⟩:=MV I.ns
 ⟨od,⟨I.obj,rfl,rfl,ho⟩,hl⟩
section
variable {prog:Program} {w:World} {A:Around} {E:Value->Shared->Prop} {s:Shared} {K:PySem.W.Frag} {x dx C f:Addr} {mA:Str->Option Value} {name:Str} {v:Value}
theorem OQ {expr:Bool} {Q:Value->Shared->Prop} (X:K.In s.heap) (I:Ln s.heap x dx C mA) (hg:PySem.W.plainGet K C name=true) (hh:PySem.W.hasDictIn K C=true)
 (ha:PySem.W.findIn K (.ref C) name=some none) (hv:mA name=some v) (hv':PySem.W.handedIn v=true) (h:Q v { s with toks:=s.toks+1 }) :
 wpAny (model prog w) A (getAttr (.ref x) name expr) Q E s:=by
 obtain ⟨od,J,hl⟩:=I.look
 exact PySem.W.get_value X J (PySem.W.plainGet_of hg).1 (PySem.W.findObj_own hh ha rfl (by rw [hl,hv])) hv' h
theorem NC {pl:Sem Bool} {Q:Value × List Value->Shared->Prop} (X:K.In s.heap) (I:Ln s.heap x dx C mA) (hg:PySem.W.plainGet K C name=true)
 (hf:PySem.W.findIn K (.ref C) name=some (some (.ref f))) (ht:PySem.W.isFn K (.ref f)=true) (hv:mA name=none) (h:Q (.ref f,[.ref x]) s) :
 wpAny (model prog w) A (getMethod (.ref x) name pl) Q E s:=by
 obtain ⟨od,J,hl⟩:=I.look
 exact PySem.W.method_fn X J (PySem.W.plainGet_of hg).1 (PySem.W.plainGet_of hg).2 hf (beq_iff_eq.mp ht) (by show (PySem.W.lookIn name od).map (·.isSome)=some false;rw [hl,hv];rfl) h
theorem Po {ns:List Str} {Q:Unit->Shared->Prop} (X:K.In s.heap) (I:Ln s.heap x dx C mA)
 (hs:PySem.W.findIn K (.ref C) "__setattr__"=some (some (.builtin "object.__setattr__"))) (hp:PySem.W.plainOver K C=true) (ht:PySem.W.takerIn K C name=some none) (hh:PySem.W.hasDictIn K C=true)
 (hw:PySem.Within mA ns) (hsz:ns.length<=sizeLine)
 (h:∀h',Ln h' x dx C (fun y=>if y=name then some v else mA y)->Heap.SameBut dx s.heap h'->Q () { s with heap:=h',toks:=s.toks+2 }) :
 wpAny (model prog w) A (setAttr (.ref x) name v) Q E s:=by
 obtain ⟨od,J,hl⟩:=I.look
 refine PySem.W.set_plain X J hs (PySem.W.osa_open (s:={ s with toks:=s.toks+1 }) (r:=none) X J hp ht fun b=>?_)
 obtain ⟨cd,hc,hd'⟩:=PySem.W.any_some hh
 have hx:s.heap.get? x=some ⟨.ref C,some dx,.plain,#[]⟩:=I.obj
 refine wpAny_bind (wpAny_pure (wpAny_bind (wpAny_bind (wpAny_loadPart hx (wpAny_bind (PySem.W.Looks.here (s:={ s with toks:=s.toks+1 }) (PySem.W.looks_clsIn X hc) ?_))))))
 rw [hd']
 refine wpAny_pure (a:=some dx) (wpAny_bind (wpAny_pure (wpAny_bind ?_)))
 refine wpAny_nsSet1 (s:={ s with toks:=s.toks+1 }) I.ns fun h' hn2 hs2=>?_
 obtain ⟨oD,esD,epD,hoD,hdD,hcD⟩:=hn2.count (PySem.Within.cons name v hw)
 refine wpAny_bind (wpAny_lookBehind hoD (by rw [hdD];exact pastItsLine_dict (Nat.le_trans hcD (by rw [List.length_cons];omega))) ?_)
 exact wpAny_pure (h _ ⟨(hs2.2 _ (Ne.symm I.ne)).trans I.obj,hn2,I.ne⟩ hs2)
theorem NU {R:Result->Shared->Prop} {vs:List Value} {kw:List (Str × Value)} (X:K.In s.heap) (hm:PySem.W.makesIn K C=true)
 (hi:PySem.W.findIn K (.ref C) "__init__"=some (some (.ref f))) (hf:PySem.W.typeIn K (.ref f)=some (.type "function"))
 (h:codeAny (model prog w) (A.under (.builtin "type.__call__" ⟨.ref C :: vs,kw⟩)) (.call (.ref f) ⟨.ref (s.heap.objs.size+1) :: vs,kw⟩) (PySem.W.InitBack (s.heap.objs.size+1) R)
  { s with heap:=(s.heap.push PySem.W.emptyDict).push (PySem.W.instObj C s.heap.objs.size) }) :
 codeAny (model prog w) A (.call (.ref C) ⟨vs,kw⟩) R s:=by
 obtain ⟨hh,g,d,t,os⟩:=s
 exact PySem.W.make_core (PySem.W.makes_of X hm) (PySem.W.looks_findIn X hi) (fun self=>PySem.W.bind_fn X self hf) (.inl rfl) h
end
noncomputable def C0 (f:Str) (v:V):List (Str × V)->List (Str × V)
 | []=>[(f,v)]
 | (g,x) :: r=>if g=f then (g,v) :: r else (g,x) :: C0 f v r
theorem Gv (f g:Str) (v:V):∀fs:List (Str × V),(C0 f v fs).lookup g=if g=f then some v else fs.lookup g
 | []=>by
   show List.lookup g [(f,v)]=_
   by_cases h:g=f
   ·have hb:(g == f)=true:=beq_iff_eq.mpr h
    simp only [List.lookup,hb,if_pos h]
   ·have hb:(g == f)=false:=beq_eq_false_iff_ne.mpr h
    simp only [List.lookup,hb,if_neg h]
 | (k,x) :: r=>by
   have ih:=Gv f g v r
   rw [show C0 f v ((k,x) :: r)=(if k=f then (k,v) :: r else (k,x) :: C0 f v r) from rfl]
   by_cases hk:k=f
   ·rw [if_pos hk]
    by_cases h:g=k
    ·have hb:(g == k)=true:=beq_iff_eq.mpr h
     simp only [List.lookup,hb,if_pos (h.trans hk)]
    ·have hb:(g == k)=false:=beq_eq_false_iff_ne.mpr h
     simp only [List.lookup,hb,if_neg (fun e:g=f=>h (e.trans hk.symm))]
   ·rw [if_neg hk]
    by_cases h:g=k
    ·have hb:(g == k)=true:=beq_iff_eq.mpr h
     simp only [List.lookup,hb,if_neg (fun e:g=f=>hk (h.symm.trans e))]
    ·have hb:(g == k)=false:=beq_eq_false_iff_ne.mpr h
     simp only [List.lookup,hb]
     exact ih
theorem FV (f:Str) (v:V):∀fs:List (Str × V),f∈(C0 f v fs).map (·.1)/\∀g,g∈fs.map (·.1)->g∈(C0 f v fs).map (·.1)
 | []=>⟨by simp [C0],fun g h=>by simp at h⟩
 | (k,x) :: r=>by
   obtain ⟨i1,i2⟩:=FV f v r
   rw [show C0 f v ((k,x) :: r)=(if k=f then (k,v) :: r else (k,x) :: C0 f v r) from rfl]
   by_cases hk:k=f
   ·rw [if_pos hk]
    subst hk
    exact ⟨by simp,fun g h=>by simpa using h⟩
   ·rw [if_neg hk]
    refine ⟨?_,fun g h=>?_⟩
    ·rw [List.map_cons]
     exact List.mem_cons_of_mem _ i1
    ·rw [List.map_cons] at h ⊢
     rcases List.mem_cons.mp h with e | e
     ·exact List.mem_cons.mpr (.inl e)
     ·exact List.mem_cons_of_mem _ (i2 g e)
theorem Gu (f:Str) (v:V):∀fs:List (Str × V),(C0 f v fs).length<=fs.length+1
 | []=>by simp [C0]
 | (k,x) :: r=>by
   have ih:=Gu f v r
   rw [show C0 f v ((k,x) :: r)=(if k=f then (k,v) :: r else (k,x) :: C0 f v r) from rfl]
   by_cases hk:k=f
   ·rw [if_pos hk,List.length_cons,List.length_cons];omega
   ·rw [if_neg hk,List.length_cons,List.length_cons];omega
theorem Ew.some_of {v:V} {o:Option Value} (r:Ew (some v) o):∃u,o=some u/\AS v u:=by
 cases o with
 | none=>exact (show False from r).elim
 | some u=>exact ⟨u,rfl,r⟩
theorem Ew.none_of {o:Option Value} (r:Ew none o):o=none:=by
 cases o with
 | none=>rfl
 | some u=>exact (show False from r).elim
theorem MK {v:V} {u:Value} (r:AS v u):PySem.W.handedIn u=true:=by
 cases v with
 | non=>cases (show u=Value.none from r);rfl
 | bl b=>cases (show u=Value.bool b from r);rfl
 | int i=>obtain ⟨t,e⟩:=(show ∃t,u=Value.int i t from r);cases e;rfl
 | str x=>obtain ⟨t,e⟩:=(show ∃t,u=Value.str x t from r);cases e;rfl
 | byt b=>obtain ⟨t,e⟩:=(show ∃t,u=Value.bytes b t from r);cases e;rfl
 | flt b=>obtain ⟨t,e⟩:=(show ∃t,u=Value.float b t from r);cases e;rfl
 | ref a=>cases (show u=Value.ref a from r);rfl
 | ty n=>cases (show u=Value.type n from r);rfl
section
variable {P:Program} {w:World} {H H':Hp} {h h':Heap} {a C dx:Addr} {fs fs':List (Str × V)}
theorem GH (hok:HOk P w H h) (e:H a=some (.ins C dx fs)):∃mA,Ln h a dx C mA/\(∀f,Ew (fs.lookup f) (mA f))/\PySem.Within mA (fs.map (·.1))/\fs.length<=1000/\H dx=some (.own a):=by
 obtain ⟨d,z,ne,ob,mA,n,r,q⟩:=(show Bx P w H h a (.ins C dx fs) from hok a _ e)
 exact ⟨mA,⟨ob,n,ne⟩,r,q,z,d⟩
end
structure Cls (K:PySem.W.Frag) (C:Addr):Prop where
 pg:PySem.W.plainGet K C Str.empty=true
 hd:PySem.W.hasDictIn K C=true
 po:PySem.W.plainOver K C=true
 sa:PySem.W.findIn K (.ref C) "__setattr__"=some (some (.builtin "object.__setattr__"))
theorem Cls.get {K:PySem.W.Frag} {C:Addr} (c:Cls K C) (f:Str):PySem.W.plainGet K C f=true:=c.pg
noncomputable def B6 (K:PySem.W.Frag) (C:Addr) (f:Str):Prop:=PySem.W.findIn K (.ref C) f=some none
theorem B6.taker {K:PySem.W.Frag} {C:Addr} {f:Str} (n:B6 K C f):PySem.W.takerIn K C f=some none:=by
 unfold PySem.W.takerIn
 rw [show PySem.W.findIn K (.ref C) f=some none from n]
 rfl
structure DS (K:PySem.W.Frag) (C:Addr) (m:Str) (f:Addr):Prop where
 at_:PySem.W.findIn K (.ref C) m=some (some (.ref f))
 fn:PySem.W.isFn K (.ref f)=true
 kp:PySem.W.keepIn K (.ref f)=true
section
variable {X:Cx} {pins:List (Addr × Obj)} {σ:St} {H:Hp} {s:Shared} {a C dx:Addr} {fs:List (Str × V)} {f:Str} {v:V} {A:Around} {E:Value->Shared->Prop}
theorem Ly {b:Bool} {Q:Value->Shared->Prop} (I:Inv X pins σ H s) (e:H a=some (.ins C dx fs)) (c:Cls X.K C) (n:B6 X.K C f) (l:fs.lookup f=some v)
 (h:∀u s',Inv X pins σ H s'->AS v u->Q u s'):wpAny (model X.prog X.w) A (getAttr (.ref a) f b) Q E s:=by
 obtain ⟨mA,O,r,_,_,_⟩:=GH I.hok e
 obtain ⟨u,hu,ru⟩:=Ew.some_of (v:=v) (o:=mA f) (by rw [<- l];exact r f)
 exact OQ I.kIn O (c.get f) c.hd n hu (MK ru) (h u _ (I.tok _) ru)
theorem Lz {m:Str} {g:Addr} {pl:Sem Bool} {Q:Value × List Value->Shared->Prop} (I:Inv X pins σ H s) (e:H a=some (.ins C dx fs)) (c:Cls X.K C) (k:DS X.K C m g) (l:fs.lookup m=none)
 (h:Q (.ref g,[.ref a]) s):wpAny (model X.prog X.w) A (getMethod (.ref a) m pl) Q E s:=by
 obtain ⟨mA,O,r,_,_,_⟩:=GH I.hok e
 have hn:mA m=none:=Ew.none_of (by rw [<- l];exact r m)
 exact NC I.kIn O (c.get m) k.at_ k.fn hn h
theorem LK {y:V} {u:Value} {Q:Unit->Shared->Prop} (I:Inv X pins σ H s) (e:H a=some (.ins C dx fs)) (c:Cls X.K C) (n:B6 X.K C f) (hl:fs.length < 1000) (ry:AS y u)
 (h:∀s',Inv X pins σ (upd H a (.ins C dx (C0 f y fs))) s'->Q () s'):wpAny (model X.prog X.w) A (setAttr (.ref a) f u) Q E s:=by
 obtain ⟨mA,O,r,wi,_,ho⟩:=GH I.hok e
 have hz:(fs.map (·.1)).length<=sizeLine:=by rw [List.length_map,sizeLine_eq];omega
 refine Po I.kIn O c.sa c.po n.taker c.hd wi hz fun h' O' sb=>h _ ?_
 have hd:∃o,h'.get? dx=some o:=let ⟨o,_,_,e',_⟩:=O'.ns;⟨o,e'⟩
 refine I.write (x:=a) (e:=dx) (by rw [e];exact True.intro) (.inr ho) (fun b q hb z=>(sb.2 b hb).trans z) hd ?_
 refine ⟨by rw [Ay O.ne];exact ho,?_,O.ne,O'.obj,_,O'.ns,fun g=>?_,fun g hg=>?_⟩
 ·have:=Gu f y fs;omega
 ·show Ew ((C0 f y fs).lookup g) (if g=f then some u else mA g)
  rw [Gv]
  by_cases q:g=f
  ·rw [if_pos q,if_pos q];exact ry
  ·rw [if_neg q,if_neg q];exact r g
 ·by_cases q:g=f
  ·rw [q];exact (FV f y fs).1
  ·refine (FV f y fs).2 g (wi g fun z=>hg ?_)
   show (if g=f then some u else mA g)=none
   rw [if_neg q];exact z
theorem Inv.made (I:Inv X pins σ H s):Inv X pins σ (upd (upd H s.heap.objs.size (.own (s.heap.objs.size+1))) (s.heap.objs.size+1) (.ins C s.heap.objs.size []))
 { s with heap:=(s.heap.push PySem.W.emptyDict).push (PySem.W.instObj C s.heap.objs.size) }:=by
 have e1:(s.heap.push PySem.W.emptyDict).get? s.heap.objs.size=some PySem.W.emptyDict:=Heap.get?_push_size s.heap rfl
 have e2:((s.heap.push PySem.W.emptyDict).push (PySem.W.instObj C s.heap.objs.size)).get? (s.heap.objs.size+1)=some (PySem.W.instObj C s.heap.objs.size):=by
  have:=Heap.get?_push_size (s.heap.push PySem.W.emptyDict) (o:=PySem.W.instObj C s.heap.objs.size) rfl
  rwa [Heap.size_push] at this
 have e3:(s.heap.push PySem.W.emptyDict).Ns s.heap.objs.size (fun _=>none):=⟨PySem.W.emptyDict,#[],_,e1,rfl,(fun e he=>absurd he (by simp)),fun _=>rfl⟩
 have I1:=I.laid (a:=s.heap.objs.size) (o:=.own (s.heap.objs.size+1)) (h':=s.heap.push PySem.W.emptyDict) (t':=s.toks) (fun b u q=>Heap.get?_push_of_some _ q) (Nat.le_refl _) ⟨_,e1⟩
 refine I1.laid (a:=s.heap.objs.size+1) (o:=.ins C s.heap.objs.size []) (t':=s.toks) (fun b u q=>Heap.get?_push_of_some _ q) (Nat.le_of_eq (Heap.size_push _ _)) ?_
 have ne:s.heap.objs.size≠s.heap.objs.size+1:=Nat.ne_of_lt (Nat.lt_succ_self _)
 refine ⟨by rw [Ay ne,Ae],Nat.zero_le _,ne,e2,fun _=>none,(Heap.Ns1.of_empty e3).at fun o q=>Heap.get?_push_of_some _ q,fun _=>True.intro,fun y hy=>absurd rfl hy⟩
theorem OL {prog:Program} {w:World} {env:Env} {e:Expr} {f:Str} {pos:Pos} {s:Shared} {Q:Value->Shared->Prop} (hb:attributeBase e f env (eval e env)=eval e env)
 (h:wpAny (model prog w) A (eval e env) (fun o s₁=>wpAny (model prog w) A (getAttr o f true) Q E s₁) E s):wpAny (model prog w) A (eval (.Attribute e f pos) env) Q E s :=
 Attribute_any_ h (by rw [arm_eval_Attribute,hb])
end
noncomputable def RW (K:PySem.W.Frag) (ta:TE) (f:Str):TE:=fun σ H Q=>ta σ H fun x H1=>∃a C dx fs v,x=.ref a/\H1 a=some (.ins C dx fs)/\Cls K C/\B6 K C f/\fs.lookup f=some v/\Q v H1
noncomputable def RT (K:PySem.W.Frag) (ta tv:TE) (f:Str):TS:=fun D σ H=>tv σ H fun y H1=>ta σ H1 fun x H2=>∃a C dx fs,x=.ref a/\H2 a=some (.ins C dx fs)/\Cls K C/\B6 K C f/\fs.length < 1000 /\
 D.nx σ (upd H2 a (.ins C dx (C0 f y fs)))
section
variable {X:Cx} {o e value:Expr} {f:Str} {pos pos' tpos:Pos} {ta tv:TE}
theorem Bh (he:PE X e ta) (hb:attributeBase e f X.env (eval e X.env)=eval e X.env):PE X (.Attribute e f pos) (RW X.K ta f):=by
 intro pins s σ H Q I h
 refine OL hb (thn (he pins s σ H _ I h) fun u s1 ⟨x,H1,I1,rx,a,C,dx,fs,v,ex,ea,c,n,l,q⟩=>?_)
 subst ex
 obtain rfl:u=Value.ref a:=rx
 exact Ly I1 ea c n l fun u' s2 I2 ru=>⟨v,H1,I2,ru,q⟩
theorem Gg (ha:PE X o ta) (hv:PE X value tv) (hs:swapsWith value (some (.Attribute o f pos')) pos.line X.env=pure false):PS X (.Assign [.Attribute o f pos'] value pos) (RT X.K ta tv f):=by
 intro pins s σ H D I h
 refine plainObj_wpAny_Assign_Attribute (thn (hv pins s σ H _ I h) fun u s1 ⟨y,H1,I1,ry,q⟩=>thn (ha pins s1 σ H1 _ I1 q) fun ov s2 ⟨x,H2,I2,rx,a,C,dx,fs,ex,ea,c,n,l,q2⟩=>?_) hs
 subst ex
 obtain rfl:ov=Value.ref a:=rx
 exact LK I2 ea c n l ry fun s3 I3=>⟨σ,_,I3,q2⟩
end
section
variable {X:Cx} {pins:List (Addr × Obj)} {σ:St} {H:Hp} {s:Shared} {A:Around} {E:Value->Shared->Prop} {Q:Value->Shared->Prop} {c:Value} {b:Bool}
inductive Dp (K:PySem.W.Frag) (H:Hp):V->Value->Prop where
 | non:Dp K H .non (.type "NoneType")
 | bl (x:Bool):Dp K H (.bl x) (.type "bool")
 | int (i:Int):Dp K H (.int i) (.type "int")
 | str (x:Str):Dp K H (.str x) (.type "str")
 | flt (x:UInt64):Dp K H (.flt x) (.type "float")
 | lst {a:Addr} {xs:List V} (e:H a=some (.lst xs)):Dp K H (.ref a) (.type "list")
 | frz {a:Addr} {o:Obj} {xs:List V} (e:H a=some (.frz o (.lst xs))):Dp K H (.ref a) (.type "list")
 | tup {a:Addr} {xs:List V} (e:H a=some (.tup xs)):Dp K H (.ref a) (.type "tuple")
 | dK {a:Addr} {kvs:List (Key × V)} (e:H a=some (.dK kvs)):Dp K H (.ref a) (.type "dict")
 | dT {a:Addr} {kvs:List (List Key × V)} (e:H a=some (.dT kvs)):Dp K H (.ref a) (.type "dict")
 | ins {a C dx:Addr} {fs:List (Str × V)} (e:H a=some (.ins C dx fs)) (cl:Cls K C) (ha:PySem.W.findIn K (.ref C) "__class__"=some (some (.builtin "object.__class__")))
  (hn:PySem.W.specialIn K (.builtin "object.__class__") "__get__"=some (some (.builtin "getset_descriptor.__get__"))) (htk:PySem.W.takesIn K (.builtin "object.__class__")=some true)
  (hm:PySem.W.mroIn K C (.type "object")=some true):Dp K H (.ref a) (.ref C)
theorem MQ {x:V} {u t:Value} (I:Inv X pins σ H s) (rx:AS x u) (ty:Dp X.K H x t) (e:PySem.W.kitOne X.K t c=some b) (h:∀tk,Q (.bool b) { s with toks:=tk }) :
 wpAny (model X.prog X.w) A (call (.builtin "isinstance") [u,c]) Q E s:=by
 cases ty with
 | non=>cases (show u=Value.none from rx);exact PySem.W.kia_one PySem.W.kitx_none I.kIn True.intro e (fun z=>nomatch z) h
 | bl y=>cases (show u=Value.bool y from rx);exact PySem.W.kia_one PySem.W.kitx_bool I.kIn True.intro e (fun z=>nomatch z) h
 | int i=>obtain ⟨t,q⟩:=(show ∃t,u=Value.int i t from rx);cases q;exact PySem.W.kia_one PySem.W.kitx_int I.kIn True.intro e (fun z=>nomatch z) h
 | str y=>obtain ⟨t,q⟩:=(show ∃t,u=Value.str y t from rx);cases q;exact PySem.W.kia_one PySem.W.kitx_str I.kIn True.intro e (fun z=>nomatch z) h
 | flt y=>obtain ⟨t,q⟩:=(show ∃t,u=Value.float y t from rx);cases q;exact PySem.W.kia_one PySem.W.kitx_float I.kIn True.intro e (fun z=>nomatch z) h
 | @lst a xs ea =>
   cases (show u=Value.ref a from rx)
   obtain ⟨_,_,n,_,h1⟩:=(show Bx X.prog X.w H s.heap a (.lst xs) from I.hok a _ ea)
   exact PySem.W.kia_one PySem.W.kitx_list I.kIn ⟨_,h1,rfl⟩ e (fun z=>nomatch z) h
 | @frz a ob xs ea =>
   cases (show u=Value.ref a from rx)
   obtain ⟨_,_,_,n,_,h1⟩:=(show Bx X.prog X.w H s.heap a (.frz ob (.lst xs)) from I.hok a _ ea)
   exact PySem.W.kia_one PySem.W.kitx_list I.kIn ⟨_,h1,rfl⟩ e (fun z=>nomatch z) h
 | @tup a xs ea =>
   cases (show u=Value.ref a from rx)
   obtain ⟨_,_,_,p⟩:=(show Bx X.prog X.w H s.heap a (.tup xs) from I.hok a _ ea)
   obtain ⟨o,h1,h2,_⟩:=p
   exact PySem.W.kia_one PySem.W.kitx_tuple I.kIn ⟨o,h1,h2⟩ e (fun z=>nomatch z) h
 | @dK a kvs ea =>
   cases (show u=Value.ref a from rx)
   obtain ⟨_,_,vs,_,p⟩:=(show Bx X.prog X.w H s.heap a (.dK kvs) from I.hok a _ ea)
   obtain ⟨o,es,ep,h1,h2,_⟩:=p
   exact PySem.W.kia_one PySem.W.kitx_dict I.kIn ⟨o,h1,h2.1⟩ e (fun z=>nomatch z) h
 | @dT a kvs ea =>
   cases (show u=Value.ref a from rx)
   obtain ⟨_,_,xs,_,o,es,ep,h1,h2,_⟩:=(show Bx X.prog X.w H s.heap a (.dT kvs) from I.hok a _ ea)
   exact PySem.W.kia_one PySem.W.kitx_dict I.kIn ⟨o,h1,h2.1⟩ e (fun z=>nomatch z) h
 | @ins a C dx fs ea cl ha hn htk hm =>
   cases (show u=Value.ref a from rx)
   obtain ⟨mA,O,_⟩:=GH I.hok ea
   obtain ⟨od,J,_⟩:=O.look
   exact PySem.W.kia_one (PySem.W.kitx_own (cl.get _) cl.hd ha hn htk hm) I.kIn J e (fun z=>nomatch z) h
end
end L2
namespace L2
open PySem PySem.Spec PyProof.Rows
structure Da (k:Nat) (A:Around):Prop where
 hd:A.handled=none
 dp:A.depth+3*k+5 < recursionLimit
 un:A.units+16*k+200 < cLine
theorem Da.mono {j k:Nat} {A:Around} (r:Da k A) (h:j<=k):Da j A:=⟨r.hd,by have:=r.dp;omega,by have:=r.un;omega⟩
theorem Da.deeper {k:Nat} {A:Around} (r:Da (k+1) A) (env:Env):Da k (A.deeper env) :=
 ⟨r.hd,by have:=r.dp;show A.depth+1+3*k+5 < _;omega,by have:=r.un;show A.units+3+16*k+200 < _;omega⟩
theorem L5 {A:Around} {C:Addr} {us:List Value} {kw:List (Str × Value)}:(A.under (.builtin "type.__call__" ⟨.ref C :: us,kw⟩)).depth=A.depth+1:=by
 first | rfl | simp [Around.under,Code.weight,Code.isCreation,Code.isGuard,Code.isCaller,Code.frames,Code.isFrame,guardIds]
theorem L6 {A:Around} {C:Addr} {us:List Value} {kw:List (Str × Value)}:(A.under (.builtin "type.__call__" ⟨.ref C :: us,kw⟩)).units=A.units+1:=by
 first | rfl | simp [Around.under,Code.cUnits,Code.frames,Code.isFrame]
theorem Da.make {k:Nat} {A:Around} (r:Da (k+1) A) (C:Addr) (us:List Value) (kw:List (Str × Value)):Da k (A.under (.builtin "type.__call__" ⟨.ref C :: us,kw⟩)) :=
 ⟨r.hd,by have:=r.dp;rw [L5];omega,by have:=r.un;rw [L6];omega⟩
theorem Da.depth {k:Nat} {A:Around} (r:Da k A):A.depth < recursionLimit:=by have:=r.dp;omega
theorem Da.units {k:Nat} {A:Around} (r:Da k A):A.units+64 < cLine:=by have:=r.un;omega
theorem Da.units0 {k:Nat} {A:Around} (r:Da k A):A.units < cLine:=by have:=r.un;omega
noncomputable def Sb:TA:=fun _ H Q=>Q [] H
noncomputable def Ru (ta:TE) (tr:TA):TA:=fun σ H Q=>ta σ H fun x H1=>tr σ H1 fun xs H2=>Q (x :: xs) H2
section
variable {X:Cx} {e:Expr} {es:List Expr} {te:TE} {t:TA} {pos:Pos}
theorem Ac:PA X [] Sb:=fun _ _ _ _ H Q I h=>Calls.spliced_nil ⟨[],H,I,.nil,h⟩
theorem Aa (ha:PE X e te) (hr:PA X es t) (hs:starEach (e :: es) X.env=(false,eval e X.env) :: starEach es X.env:=by rfl):PA X (e :: es) (Ru te t):=by
 intro pos pins s σ H Q I h
 rw [hs]
 show wpAny _ _ (spliced ((false,eval e X.env) :: backTo pos (starEach es X.env))) _ _ s
 refine Calls.spliced_cons (thn (ha pins s σ H _ I h) fun u s1 ⟨x,H1,I1,r1,q1⟩=>?_)
 exact thn (hr pos pins s1 σ H1 _ I1 q1) fun us s2 ⟨xs,H2,I2,r2,q2⟩=>⟨x :: xs,H2,I2,.cons r1 r2,q2⟩
noncomputable def Sf (t:TA):TE:=fun σ H Q=>t σ H fun xs H1=>xs.length<=sizeLine/\∀p,H1 p=none->Q (.ref p) (upd H1 p (.tup xs))
noncomputable def Sa (t:TA):TE:=fun σ H Q=>t σ H fun xs H1=>xs.length<=sizeLine/\∀p,H1 p=none->Q (.ref p) (upd H1 p (.lst xs))
theorem AL {x1} (h:PA X es t):PE X (.Tuple es x1 pos) (Sf t):=by
 intro pins s σ H Q I hq
 refine wpAny_Tuple_spliced (thn (h pos pins s σ H _ I hq) fun us s1 ⟨xs,H1,I1,r,z,q⟩=>⟨by rw [<- r.length];exact z,?_⟩)
 have hf:H1 s1.heap.objs.size=none:=I1.hok.fresh (Nat.le_refl _)
 refine ⟨.ref s1.heap.objs.size,upd H1 s1.heap.objs.size (.tup xs),I1.laid (t':=s1.toks) (fun b u e=>Heap.get?_push_of_some _ e) (Nat.le_refl _) ?_,rfl,q _ hf⟩
 exact ⟨z,us,r,⟨_,Heap.get?_push_size _ rfl,rfl,_,rfl⟩⟩
theorem CT (h:PA X es t):PE X (.List es pos) (Sa t):=by
 intro pins s σ H Q I hq
 refine wpAny_List_spliced (thn (h pos pins s σ H _ I hq) fun us s1 ⟨xs,H1,I1,r,z,q⟩=>⟨by rw [<- r.length];exact z,?_⟩)
 have hf:H1 s1.heap.objs.size=none:=I1.hok.fresh (Nat.le_refl _)
 refine ⟨.ref s1.heap.objs.size,upd H1 s1.heap.objs.size (.lst xs),I1.laid (t':=s1.toks) (fun b u e=>Heap.get?_push_of_some _ e) (Nat.le_refl _) ?_,rfl,q _ hf⟩
 exact ⟨z,us,0,r,Heap.get?_push_size _ rfl⟩
end
abbrev Sp:=List V->Hp->VK->XK->Prop
abbrev CXT:=List Env->Hp->Shared->XK->Value->Shared->Prop
structure Lk (P:Program) (w:World) (K:PySem.W.Frag) (mg:Str->Option Value) (base:Heap) (A:Around) (outer:List Env) (s:Shared) (H:Hp):Prop where
 frames:A.frames=some outer
 mod:Mod K mg base
 bs:∀b o,base.get? b=some o->s.heap.get? b=some o/\H b=none
 bsz:base.objs.size<=s.heap.objs.size
 funs:s.heap.FunFrames base outer
 frf:∀b∈frs outer,H b=none
 hok:HOk P w H s.heap
 bare:AllBare s.gens
noncomputable def CE (outer:List Env) (P:Program) (w:World) (H:Hp) (s:Shared) (Q:VK) (u:Value) (s':Shared):Prop :=
 ∃v H',s'.os=s.os/\AllBare s'.gens/\Un (frs outer) [] H H' s.heap s'.heap/\HOk P w H' s'.heap/\AS v u/\Q v H'
noncomputable def CR (CX:CXT) (outer:List Env) (P:Program) (w:World) (H:Hp) (s:Shared) (Q:VK) (E:XK) (r:Result) (s':Shared):Prop :=
 match r with
 | .ok (.ret u)=>CE outer P w H s Q u s'
 | .ok _=>False
 | .error e=>CX outer H s E e s'
structure AO (P:Program) (w:World) (K:PySem.W.Frag) (mg:Str->Option Value) (base:Heap) (CX:CXT) (k:Nat) (f:Addr) (fd:FuncData) (ps:List Str) (sp:Sp):Prop where
 len:∀vs H Q E,sp vs H Q E->vs.length=ps.length
 run:∀(A:Around) (outer:List Env) (s:Shared) (H:Hp) (args:Args) (us:List Value) (vs:List V) (Q:VK) (E:XK),Da k A->Lk P w K mg base A outer s H->BindsTo s fd args (ps.zip us)->AJ vs us->sp vs H Q E ->
  codeAny (model P w) A (.call (.ref f) args) (CR CX outer P w H s Q E) s
theorem Lk.make {P:Program} {w:World} {K:PySem.W.Frag} {mg:Str->Option Value} {base:Heap} {A:Around} {outer:List Env} {s:Shared} {H:Hp} (e:Lk P w K mg base A outer s H) (C:Addr) (us:List Value) (kw:List (Str × Value)) :
 Lk P w K mg base (A.under (.builtin "type.__call__" ⟨.ref C :: us,kw⟩)) outer s H:=⟨by first | exact e.frames | (simpa [Around.under,Code.envs,Code.isFrame,pushEnvs] using e.frames),e.mod,e.bs,e.bsz,e.funs,e.frf,e.hok,e.bare⟩
section
variable {X:Cx} {pins:List (Addr × Obj)} {σ:St} {H:Hp} {s s':Shared}
theorem Inv.env0 (I:Inv X pins σ H s):Lk X.prog X.w X.K X.mg X.base X.A X.stack s H :=
 ⟨I.ok.frames,I.ok.mod,I.bs,Nat.le_trans I.ok.bsz I.sz,I.stack,I.stkFree,I.hok,I.bare⟩
theorem Inv.after {Q:VK} {u:Value} (I:Inv X pins σ H s) (h:CE X.stack X.prog X.w H s Q u s'):EP X pins σ Q u s':=by
 obtain ⟨v,H',os,bare,un,hok,r,q⟩:=h
 obtain ⟨hh,g,d,t,os'⟩:=s'
 obtain rfl:os'=s.os:=os
 exact ⟨v,H',I.call (h':=hh) (g':=g) (d':=d) (t':=t) (ch:=[]) un hok bare (fun b z=>absurd z (by simp)),r,q⟩
end
noncomputable def PR (sp:Sp) (dvs:List V) (E:XK) (t:TA):TE:=fun σ H Q=>t σ H fun vs H1=>sp (vs++dvs) H1 Q E
noncomputable def Rz (C:Addr) (m:Str) (sp:Sp) (dvs:List V) (E:XK) (ta:TE) (t:TA):TE:=fun σ H Q=>ta σ H fun x H1=>∃a dx fs,x=.ref a/\H1 a=some (.ins C dx fs)/\fs.lookup m=none /\
 t σ H1 fun vs H2=>sp (x :: (vs++dvs)) H2 Q E
noncomputable def Ry (C:Addr) (sp:Sp) (dvs:List V) (E:XK) (t:TA):TE:=fun σ H Q=>t σ H fun vs H1=>∀x dx,H1 x=none->H1 dx=none->dx≠x ->
 sp (.ref x :: (vs++dvs)) (upd (upd H1 dx (.own x)) x (.ins C dx [])) (fun v H2=>v=.non/\Q (.ref x) H2) E
noncomputable def A3 (K:PySem.W.Frag) (fd:FuncData) (ps:List Str) (ds:List Value):Prop :=
 ∀(s:Shared) (us:List Value),K.In s.heap->(us++ds).length=ps.length->BindsTo s fd ⟨us,[]⟩ (ps.zip (us++ds))
theorem A3.all {K:PySem.W.Frag} {fd:FuncData} {ps:List Str} (h:∀us:List Value,us.length=ps.length->bindArgs fd ⟨us,[]⟩=pure (ps.zip us)):A3 K fd ps []:=fun s us _ hl=>by
 rw [List.append_nil] at hl ⊢
 exact .of_eq (h us hl)
noncomputable def EW (CX:CXT) (X:Cx) (E:XK):Prop:=∀(pins:List (Addr × Obj)) (σ:St) (H:Hp) (s:Shared) (e:Value) (s':Shared),Inv X pins σ H s->CX X.stack H s E e s'->X.xe e s'
section
variable {X:Cx} {CX:CXT} {k:Nat} {f C:Addr} {fd:FuncData} {ps:List Str} {sp:Sp} {dvs:List V} {ds:List Value} {E:XK} {x m:Str} {p pos apos:Pos} {e o:Expr} {es:List Expr} {ta:TE} {t:TA}
theorem LG {pins:List (Addr × Obj)} {σ:St} {H:Hp} {s:Shared} {Q:VK} {us:List Value} {vs:List V} (F:AO X.prog X.w X.K X.mg X.base CX k f fd ps sp) (hr:Da k X.A) (hb:A3 X.K fd ps ds) (hd:AJ dvs ds) (hx:EW CX X E)
 (I:Inv X pins σ H s) (r:AJ vs us) (h:sp (vs++dvs) H Q E):wpAny (model X.prog X.w) X.A (call (.ref f) us) (EP X pins σ Q) X.xe s:=by
 have r2:AJ (vs++dvs) (us++ds):=r.append hd
 have hl:(us++ds).length=ps.length:=by rw [<- r2.length];exact F.len _ _ _ _ h
 refine wpAny_call (codeAny_mono (F.run X.A X.stack s H ⟨us,[]⟩ (us++ds) (vs++dvs) Q E hr I.env0 (hb s us I.kIn hl) r2 h) fun r s' hq=>?_)
 cases r with
 | error e=>exact hx pins σ H s e s' I hq
 | ok fl =>
   cases fl with
   | ret u=>exact I.after hq
   | next=>exact False.elim hq
   | brk=>exact False.elim hq
   | cont=>exact False.elim hq
theorem Ak (F:AO X.prog X.w X.K X.mg X.base CX k f fd ps sp) (hr:Da k X.A) (hg:Gl X x) (hm:X.mg x=some (.ref f)) (hk:PySem.W.keepIn X.K (.ref f)=true) (hb:A3 X.K fd ps ds) (hd:AJ dvs ds) (hx:EW CX X E)
 (ha:PA X (e :: es) t) (hdb:(x == ("__debug__":Str))=false:=by decide) (he:starEach (e :: es) X.env=(false,eval e X.env) :: starEach es X.env:=by rfl) (hpl:(backTo pos (starEach es X.env)).any (·.1)=false:=by rfl) :
 PE X (.Call (.Name x p) (e :: es) [] pos) (PR sp dvs E t):=by
 intro pins s σ H Q I h
 refine wpAny_Call_Name_kw (GI I hg hm ?_ hdb)
 refine PySem.W.callWith_K (h₀:=X.base) I.ok.mod.kin hk (thn (ha pos pins s σ H _ I h) fun us s1 ⟨vs,H1,I1,r,q⟩=>⟨I1.kIn,?_⟩) he hpl
 exact LG F hr hb hd hx I1 r q
theorem AE {pl:Sem Bool} (he:PE X o ta) (c:Cls X.K C) (hm:DS X.K C m f) (F:AO X.prog X.w X.K X.mg X.base CX k f fd ps sp) (hr:Da k X.A) (hb:A3 X.K fd ps ds) (hd:AJ dvs ds) (hx:EW CX X E) (ha:PA X (e :: es) t)
 (hst:starEach (e :: es) X.env=(false,eval e X.env) :: starEach es X.env:=by rfl) (hpl:(backTo pos (starEach es X.env)).any (·.1)=false:=by rfl)
 (ht:eval (.Call (.Attribute o m apos) (e :: es) [] pos) X.env=(do
  let ov <- eval o X.env
  standAt apos.atName
  let (f,first) <- holding [ov] (getMethod ov m pl)
  callWith pos f first (backTo pos (starEach (e :: es) X.env)) (backToKw pos (keywordEach [] X.env))):=by rfl) :
 PE X (.Call (.Attribute o m apos) (e :: es) [] pos) (Rz C m sp dvs E ta t):=by
 intro pins s σ H Q I h
 refine PySem.W.methodCall_KW (pl:=pl) (thn (he pins s σ H _ I h) fun u s1 ⟨x,H1,I1,rx,a,dx,fs,ex,ea,l,q⟩=>?_) ht
 subst ex
 obtain rfl:u=Value.ref a:=rx
 refine Lz I1 ea c hm l ?_
 refine PySem.W.callWith_K (first:=[.ref a]) (h₀:=X.base) I.ok.mod.kin hm.kp (thn (ha pos pins s1 σ H1 _ I1 q) fun us s2 ⟨vs,H2,I2,r,q2⟩=>⟨I2.kIn,?_⟩) hst hpl
 exact LG (us:=.ref a :: us) (vs:=.ref a :: vs) F hr hb hd hx I2 (.cons rfl r) q2
structure Mk (K:PySem.W.Frag) (C f:Addr):Prop where
 makes:PySem.W.makesIn K C=true
 init:PySem.W.findIn K (.ref C) "__init__"=some (some (.ref f))
 fn:PySem.W.isFn K (.ref f)=true
 kp:PySem.W.keepIn K (.ref C)=true
theorem O0 {pins:List (Addr × Obj)} {σ:St} {H:Hp} {s:Shared} {Q:VK} {us:List Value} {vs:List V} (M:Mk X.K C f) (F:AO X.prog X.w X.K X.mg X.base CX k f fd ps sp) (hr:Da (k+1) X.A) (hb:A3 X.K fd ps ds) (hd:AJ dvs ds)
 (hx:EW CX X E) (I:Inv X pins σ H s) (r:AJ vs us)
 (h:∀x dx,H x=none->H dx=none->dx≠x->sp (.ref x :: (vs++dvs)) (upd (upd H dx (.own x)) x (.ins C dx [])) (fun v H2=>v=.non/\Q (.ref x) H2) E) :
 wpAny (model X.prog X.w) X.A (call (.ref C) us) (EP X pins σ Q) X.xe s:=by
 have hq:=h (s.heap.objs.size+1) s.heap.objs.size (I.hok.fresh (Nat.le_succ _)) (I.hok.fresh (Nat.le_refl _)) (Nat.ne_of_lt (Nat.lt_succ_self _))
 have I2:=Inv.made (C:=C) I
 have r2:AJ (V.ref (s.heap.objs.size+1) :: (vs++dvs)) (Value.ref (s.heap.objs.size+1) :: (us++ds)):=.cons rfl (r.append hd)
 have hl:(Value.ref (s.heap.objs.size+1) :: us++ds).length=ps.length:=by
  have e:=r2.length
  rw [F.len _ _ _ _ hq] at e
  exact e.symm
 refine wpAny_call (NU (f:=f) I.kIn M.makes M.init (beq_iff_eq.mp M.fn) (codeAny_mono (F.run _ X.stack _ _ ⟨Value.ref (s.heap.objs.size+1) :: us,[]⟩ (Value.ref (s.heap.objs.size+1) :: (us++ds)) _ _ E (hr.make C us [])
  (I2.env0.make C us []) (hb _ (Value.ref (s.heap.objs.size+1) :: us) I2.kIn hl) r2 hq) fun r s' hq'=>?_))
 cases r with
 | error e=>exact hx pins σ _ _ e s' I2 hq'
 | ok fl =>
   cases fl with
   | ret u =>
     obtain ⟨v,H',I3,rv,ev,q3⟩:=I2.after hq'
     subst ev
     exact ⟨rv,⟨V.ref (s.heap.objs.size+1),H',I3,rfl,q3⟩⟩
   | next=>exact False.elim hq'
   | brk=>exact False.elim hq'
   | cont=>exact False.elim hq'
theorem JJ (M:Mk X.K C f) (F:AO X.prog X.w X.K X.mg X.base CX k f fd ps sp) (hr:Da (k+1) X.A) (hg:Gl X x) (hm:X.mg x=some (.ref C)) (hb:A3 X.K fd ps ds) (hd:AJ dvs ds) (hx:EW CX X E)
 (ha:PA X (e :: es) t) (hdb:(x == ("__debug__":Str))=false:=by decide) (he:starEach (e :: es) X.env=(false,eval e X.env) :: starEach es X.env:=by rfl) (hpl:(backTo pos (starEach es X.env)).any (·.1)=false:=by rfl) :
 PE X (.Call (.Name x p) (e :: es) [] pos) (Ry C sp dvs E t):=by
 intro pins s σ H Q I h
 refine wpAny_Call_Name_kw (GI I hg hm ?_ hdb)
 refine PySem.W.callWith_K (h₀:=X.base) I.ok.mod.kin M.kp (thn (ha pos pins s σ H _ I h) fun us s1 ⟨vs,H1,I1,r,q⟩=>⟨I1.kIn,?_⟩) he hpl
 exact O0 M F hr hb hd hx I1 r q
end
section
variable {X:Cx} {CX:CXT} {k:Nat} {f C:Addr} {fd:FuncData} {ps ks:List Str} {sp:Sp} {E:XK} {x m:Str} {p pos apos kpos:Pos} {e o:Expr} {es:List Expr} {kws:List Keyword} {te ta:TE} {t tk:TA} {nm:Option Str}
variable {g:List Value->List Value->List Value} {gV:List V->List V->List V}
end
structure As (N P:List Str) (sc:Scope):Prop where
 kind:sc.kind=.function
 co:sc.isCoroutine=false
 gen:sc.isGenerator=false
 nd:N.Nodup
 pre:N.take P.length=P
 par:∀x∈P,sc.names.lookup x=some .local\/sc.names.lookup x=some .cell
 nofree:∀y∈sc.names,y.2≠.free
theorem IN {kindOf:Str->Option NameKind} {x:Str}:∀{binds:List (Str × Value)} {m:Str->Option Value},(∀v,(x,v) ∉ binds)->bindL kindOf binds m x=m x
 | [],_,_=>rfl
 | (n,v) :: r,m,h=>by
   unfold bindL
   rw [IN fun w hw=>h w (List.mem_cons_of_mem _ hw)]
   split
   ·have:x≠n:=by rintro rfl;exact h v List.mem_cons_self
    simp [this]
   ·rfl
theorem IL {kindOf:Str->Option NameKind} {x:Str}:∀{binds:List (Str × Value)} {m:Str->Option Value},(∀v,(x,v) ∉ binds)->bindC kindOf binds m x=m x
 | [],_,_=>rfl
 | (n,v) :: r,m,h=>by
   unfold bindC
   rw [IL fun w hw=>h w (List.mem_cons_of_mem _ hw)]
   split
   ·rfl
   ·have:x≠n:=by rintro rfl;exact h v List.mem_cons_self
    simp [this]
theorem IM {kindOf:Str->Option NameKind} {x:Str} {v:Value}:∀{P:List Str} {vs:List Value} {i:Nat} {m:Str->Option Value},P.Nodup->P[i]?=some x->vs[i]?=some v->kindOf x=some .local ->
 bindL kindOf (P.zip vs) m x=some v
 | [],_,_,_,_,h,_,_=>by simp at h
 | _ :: _,[],_,_,_,_,h,_=>by simp at h
 | p :: P,w :: vs,0,m,nd,h1,h2,hk=>by
   simp at h1 h2;subst h1;subst h2
   show bindL kindOf ((p,w) :: P.zip vs) m p=_
   unfold bindL
   rw [IN fun v hv=>(List.nodup_cons.mp nd).1 (List.of_mem_zip hv).1,if_pos hk]
   simp
 | p :: P,w :: vs,i+1,m,nd,h1,h2,hk=>by
   show bindL kindOf ((p,w) :: P.zip vs) m x=_
   unfold bindL
   exact IM (i:=i) (List.nodup_cons.mp nd).2 (by simpa using h1) (by simpa using h2) hk
theorem IK {kindOf:Str->Option NameKind} {x:Str} {v:Value}:∀{P:List Str} {vs:List Value} {i:Nat} {m:Str->Option Value},P.Nodup->P[i]?=some x->vs[i]?=some v->kindOf x≠some .local ->
 bindC kindOf (P.zip vs) m x=some v
 | [],_,_,_,_,h,_,_=>by simp at h
 | _ :: _,[],_,_,_,_,h,_=>by simp at h
 | p :: P,w :: vs,0,m,nd,h1,h2,hk=>by
   simp at h1 h2;subst h1;subst h2
   show bindC kindOf ((p,w) :: P.zip vs) m p=_
   unfold bindC
   rw [IL fun v hv=>(List.nodup_cons.mp nd).1 (List.of_mem_zip hv).1,if_neg hk]
   simp
 | p :: P,w :: vs,i+1,m,nd,h1,h2,hk=>by
   show bindC kindOf ((p,w) :: P.zip vs) m x=_
   unfold bindC
   exact IK (i:=i) (List.nodup_cons.mp nd).2 (by simpa using h1) (by simpa using h2) hk
noncomputable def FL (N:List Str) (vs:List V):St:=vs.map some++List.replicate (N.length - vs.length) none
noncomputable def Lv (CX:CXT) (P:Program) (w:World) (K:PySem.W.Frag) (mg:Str->Option Value) (base:Heap) (N:List Str) (qual:Str) (scope:Scope) (f:Addr) (cd:Value) (A:Around) (outer:List Env) (s:Shared) (H:Hp) (E:XK):Cx where
 prog:=P
 w:=w
 K:=K
 mg:=mg
 base:=base
 A:=A.deeper (envOfC qual scope s.heap.objs.size f cd)
 N:=N
 s₀:=s
 H₀:=H
 env:=envOfC qual scope s.heap.objs.size f cd
 outer:=outer
 stack:=envOfC qual scope s.heap.objs.size f cd :: outer
 ex:=[]
 calm:=true
 fn:=fun _=>true
 pn:=[]
 xe:=fun e s'=>wpAny (model P w) (A.deeper (envOfC qual scope s.heap.objs.size f cd)) (leaving (envOfC qual scope s.heap.objs.size f cd) e) (fun _ s''=>CX outer H s E e s'') (fun e' s''=>CX outer H s E e' s'') s'
theorem Kc {sc:Scope} {n:Nat} {x:Str} (h:sc.names.lookup x=some .cell):∃c,(cellsFrom n sc.names []).lookup x=some c:=by
 have q:=PySem.W.cellsFrom_some sc.names n [] (.inl h)
 exact Option.isSome_iff_exists.mp q
theorem MP {CX:CXT} {P:Program} {w:World} {K:PySem.W.Frag} {mg:Str->Option Value} {base:Heap} {N ps:List Str} {qual:Str} {scope:Scope} {f:Addr} {cd:Value} {A:Around} {outer:List Env} {s s1:Shared} {H:Hp} {E:XK} {us:List Value} {vs:List V}
 (S:As N ps scope) (hd:A.handled=none) (e0:Lk P w K mg base A outer s H) (hl:vs.length=ps.length) (r:AJ vs us)
 (x:InCallC s s.heap.objs.size (bindL (envOfC qual scope s.heap.objs.size f cd).kindOf (ps.zip us) fun _=>none) (cellsFrom (s.heap.objs.size+1) scope.names []) (bindC (envOfC qual scope s.heap.objs.size f cd).kindOf (ps.zip us) fun _=>none) s1) :
 Inv (Lv CX P w K mg base N qual scope f cd A outer s H E) [] (FL N vs) H s1:=by
 have hpl:ps.length<=N.length:=by have:=congrArg List.length S.pre;rw [List.length_take] at this;omega
 obtain ⟨h1,tk,rfl,hk⟩:=x.done
 have noA:∀b:Addr,b ∉ (Lv CX P w K mg base N qual scope f cd A outer s H E).ex:=fun b z=>absurd (show b∈([]:List Addr) from z) (by simp)
 refine ⟨⟨e0.mod,S.kind,rfl,rfl,Nat.le_refl _,fun y z c h1 h2=>?_,fun y hy=>?_,fun y c _ h=>?_,fun _=>hd,Around.frames_deeper e0.frames,.inr ⟨rfl,rfl⟩,fun b z=>absurd z (noA b),e0.bs,e0.bsz,fun b _ _=>noA b,fun b z=>absurd z (noA b),e0.funs,e0.frf⟩,
  rfl,e0.bare,Un.kept hk,⟨_,x.toInCall.ns,fun i y v h1 h2 h3=>?_⟩,fun y c h=>⟨_,x.cell y c h⟩,e0.hok.fresh (Nat.le_refl _),fun y c h=>?_,fun p hp=>absurd (show p∈([]:List (Addr × Obj)) from hp) (by simp),e0.hok.kept hk,?_⟩
 ·exact name_of_addr x.apart (PySem.mem_of_lookup h1) (PySem.mem_of_lookup h2)
 ·have hy:scope.names.lookup y=some .cell\/scope.names.lookup y=some .free:=hy
  rcases hy with hy | hy
  ·exact Kc hy
  ·exact absurd rfl (S.nofree _ (PySem.mem_of_lookup hy))
 ·exact Nat.le_of_lt (x.above y c (PySem.mem_of_lookup h))
 ·have hi:i < vs.length:=by
   unfold FL at h2
   by_cases hi:i < vs.length
   ·exact hi
   ·rw [List.getElem?_append_right (by simpa using hi)] at h2
    rw [List.getElem?_replicate] at h2
    split at h2 <;> cases h2
  have ha:vs[i]?=some v:=by
   unfold FL at h2
   rw [List.getElem?_append_left (by simpa using hi),List.getElem?_map] at h2
   cases e:vs[i]? with
   | none=>rw [e] at h2;cases h2
   | some a=>rw [e] at h2;cases h2;rfl
  obtain ⟨u,hu,rv⟩:=r.get ha
  have hp:ps[i]?=some y:=by
   rw [<- S.pre,List.getElem?_take_of_lt (by omega)];exact h1
  have ndP:ps.Nodup:=by rw [<- S.pre];exact S.nd.sublist (List.take_sublist _ _)
  refine ⟨u,rv,?_⟩
  rcases S.par y (List.mem_of_getElem? hp) with k | k
  ·exact .inl ⟨k,IM ndP hp hu k⟩
  ·obtain ⟨c,e⟩:=Kc (n:=s.heap.objs.size+1) k
   refine .inr ⟨.inl k,c,e,?_⟩
   have q:=x.cell y c e
   rw [IK ndP hp hu (by show scope.names.lookup y≠_;rw [k];decide)] at q
   exact q
 ·exact e0.hok.fresh (Nat.le_of_lt (x.above y c (PySem.mem_of_lookup h)))
 ·unfold FL
  show _=N.length
  rw [List.length_append,List.length_map,List.length_replicate]
  omega
theorem PC {CX:CXT} {P:Program} {w:World} {K:PySem.W.Frag} {mg:Str->Option Value} {base:Heap} {k:Nat} {f:Addr} {name qual:Str} {params:Arguments} {body:List Stmt} {scope:Scope} {dV kV doc pm cdv ct oc:Value} {an od:Option Addr}
 {osl:Array (Option Value)} {N ps:List Str} {sp:Sp} (lk:K.lookup f=some ⟨oc,od,.func (PySem.W.fnOf name qual params body scope dV kV doc pm an cdv ct),osl⟩) (hcd:PySem.W.codeIn K cdv qual=true) (S:As N ps scope)
 (len:∀vs H Q E,sp vs H Q E->vs.length=ps.length)
 (hbody:∀(A:Around) (outer:List Env) (s:Shared) (H:Hp) (vs:List V) (Q:VK) (E:XK),Da k (A.deeper (envOfC qual scope s.heap.objs.size f cdv))->sp vs H Q E ->
  ∃t,PSs (Lv CX P w K mg base N qual scope f cdv A outer s H E) body t/\t { nx:=fun _ H'=>Q .non H',rt:=Q } (FL N vs) H) :
 AO P w K mg base CX (k+1) f (PySem.W.fnOf name qual params body scope dV kV doc pm an cdv ct) ps sp:=by
 refine ⟨len,fun A outer s H args us vs Q E hr e0 hb r hsp=>?_⟩
 have hl:=len _ _ _ _ hsp
 have KX:K.In s.heap:=e0.mod.kin.keeps fun b o e=>(e0.bs b o e).1
 have lim:s.heap.NoLimit:=e0.mod.nolimit.keeps fun b o e=>(e0.bs b o e).1
 have hkind:∀y∈ps.zip us,scope.names.lookup y.1=some .local\/(scope.names.lookup y.1=some .cell/\((cellsFrom (s.heap.objs.size+1) scope.names []).lookup y.1).isSome=true):=fun ⟨n,v⟩ hy=>by
  rcases S.par n (List.of_mem_zip hy).1 with q | q
  ·exact .inl q
  ·exact .inr ⟨q,PySem.W.cellsFrom_some _ _ _ (.inl q)⟩
 refine codeAny_call_function hr.depth (KX _ _ lk) rfl S.co S.gen rfl (PySem.W.codeRec_of KX hcd) (hb _ _ _ _ ?_)
 refine wpAny_newFunctionEnv_cells S.kind hkind fun env he s1 x=>?_
 subst he
 refine ⟨lim.keeps x.toInCall.keep,codeAny_func ?_⟩
 obtain ⟨t,ht,hq⟩:=hbody A outer s H vs Q E (hr.deeper _) hsp
 have I:Inv (Lv CX P w K mg base N qual scope f cdv A outer s H E) [] (FL N vs) H s1:=MP S hr.hd e0 hl r x
 refine wpAny_mono (ht [] s1 (FL N vs) H _ I hq) (fun fl s' hs=>?_) fun e s' hs=>hs
 have fin:∀{σ':St} {H':Hp} {v:V} {u:Value},Inv (Lv CX P w K mg base N qual scope f cdv A outer s H E) [] σ' H' s'->AS v u->Q v H'->CE outer P w H s Q u s' :=
  fun {σ' H' v u} J rv q=>⟨v,H',J.os,J.bare,J.base,J.hok,rv,q⟩
 cases fl with
 | ret u =>
   obtain ⟨v,σ',H',J,rv,q⟩:=hs
   exact fin J rv q
 | next =>
   obtain ⟨σ',H',J,q⟩:=hs
   exact fin (v:=V.non) (u:=Value.none) J rfl q
 | brk =>
   obtain ⟨_,_,_,q⟩:=hs
   exact False.elim q
 | cont =>
   obtain ⟨_,_,_,q⟩:=hs
   exact False.elim q
end L2
namespace L2
open PySem PySem.Spec PyProof.Rows
section
variable {X:Cx} {x:Str} {p pos:Pos} {e:Expr} {es:List Expr} {t:TA} {id T:String} {r:List V->Hp->VK->Prop}
noncomputable def tCB (r:List V->Hp->VK->Prop) (t:TA):TE:=fun σ H Q=>t σ H fun vs H1=>r vs H1 Q
theorem Ax (hc:CP X (.builtin id) r) (hg:Gl X x) (hm:X.mg x=none) (hv:bootBuiltins x=some (.builtin id)) (ha:PA X (e :: es) t) (hn:x≠"__name__":=by decide) (hdb:(x == ("__debug__":Str))=false:=by decide)
 (he:starEach (e :: es) X.env=(false,eval e X.env) :: starEach es X.env:=by rfl) (hpl:(backTo pos (starEach es X.env)).any (·.1)=false:=by rfl):PE X (.Call (.Name x p) (e :: es) [] pos) (tCB r t):=by
 intro pins s σ H Q I h
 refine wpAny_Call_Name_kw (Ff I hg hm hv ?_ hn hdb)
 exact PyProof.Rows.callWith_builtin1 (thn (ha pos pins s σ H _ I h) fun us s1 ⟨vs,H1,I1,r1,q1⟩=>hc pins s1 σ H1 vs us Q I1 r1 q1) he hpl
theorem AK (hc:CP X (.type T) r) (hg:Gl X x) (hm:X.mg x=none) (hv:bootBuiltins x=some (.type T)) (ha:PA X (e :: es) t) (hn:x≠"__name__":=by decide) (hdb:(x == ("__debug__":Str))=false:=by decide)
 (he:starEach (e :: es) X.env=(false,eval e X.env) :: starEach es X.env:=by rfl) (hpl:(backTo pos (starEach es X.env)).any (·.1)=false:=by rfl):PE X (.Call (.Name x p) (e :: es) [] pos) (tCB r t):=by
 intro pins s σ H Q I h
 refine wpAny_Call_Name_kw (Ff I hg hm hv ?_ hn hdb)
 exact PyProof.Rows.callWith_type1 (thn (ha pos pins s σ H _ I h) fun us s1 ⟨vs,H1,I1,r1,q1⟩=>hc pins s1 σ H1 vs us Q I1 r1 q1) he hpl
end
end L2
namespace HT
open PySem PyProof.Rows
noncomputable def lexLt:List Int->List Int->Bool
 | [],[]=>false
 | [],_ :: _=>true
 | _ :: _,[]=>false
 | x :: xs,y :: ys=>if x=y then lexLt xs ys else decide (x < y)
theorem lexLt_cons (x y:Int) (xs ys:List Int):lexLt (x :: xs) (y :: ys)=if x=y then lexLt xs ys else decide (x < y):=rfl
theorem Iz:lexLt [] []=false:=rfl
theorem Hc (y:Int) (ys:List Int):lexLt [] (y :: ys)=true:=rfl
theorem Hb (x:Int) (xs:List Int):lexLt (x :: xs) []=false:=rfl
theorem N7 (A:Around) (s:Shared) (a:Int) (t:Tok) (c:Int) (u:Tok):∃e,SeqAt.EqAt A s (.int a t) (.int c u) e/\(e=true↔a=c) :=
 ⟨(a == c),SeqAt.EqAt.int_int a t c u,by simp⟩
theorem Ow (A:Around) (s:Shared) (a:Int) (t:Tok) (c:Int) (u:Tok) (prog:Program) (w:World) (E:Value->Shared->Prop) (Q:Value->Shared->Prop) (h:Q (.bool (decide (a < c))) s) :
 wpAny (model prog w) A (richCompare .Lt (.int a t) (.int c u)) Q E s :=
 (PyProof.Rows.lt_int h:wpAny (model prog w) A (compareOp .Lt (.int a t) (.int c u)) Q E s)
section
open PySem.SeqAt
open PySem.AutoSeq1 (wpAny_loadPart')
open PySem.MeetsSeq PySem.MeetsSeq2 PySem.MeetsSeq3
theorem tuple_lt_ints (l b:Addr) (items items2:Array Value) (n n2:Nat) (dd dd2:Option Addr) (sl sl2:Array (Option Value)) (ns ms:List Int) (hi:IntsAre items.toList ns) (hj:IntsAre items2.toList ms) :
 Meets (Builtin.«tuple.__lt__» ⟨[.ref l,.ref b],[]⟩)
  (fun _ R s=>s.heap.get? l=some { cls:=.type "tuple",dict:=dd,data:=.seq items n,slots:=sl }/\s.heap.get? b=some { cls:=.type "tuple",dict:=dd2,data:=.seq items2 n2,slots:=sl2 } /\
   R (.ok (.ret (.bool (lexLt ns ms)))) s) :=
 .of_wp fun prog w A R s h=>by
  obtain ⟨hp,g,d,tk,os⟩:=s;obtain ⟨hl,hb,h⟩:=h
  have f2:=AutoSeq1.sub_tuple_tuple
  have z1:items.size=ns.length:=by rw [<- hi.length];simp
  have z2:items2.size=ms.length:=by rw [<- hj.length];simp
  wp_walk using wpAny_loadPart' hl,wpAny_loadPart' hb,wpAny_forIn_list _ (fun rest b s'=>b.1=none/\s'=⟨hp,g,d,tk,os⟩/\∃(vs ws:List Value) (ns' ms':List Int),rest=vs.zip ws /\
   IntsAre vs ns'/\IntsAre ws ms'/\ns'.length+items2.size=ms'.length+items.size/\R (.ok (.ret (.bool (lexLt ns' ms')))) ⟨hp,g,d,tk,os⟩) _
  case turn =>
   rintro ⟨y,x⟩ rest b s' ⟨hb',rfl,vs,ws,ns',ms',hz,hvi,hwi,hlen,hR⟩
   cases hvi with
   | nil=>rw [List.zip_nil_left] at hz;cases hz
   | cons a t hvi' =>
     cases hwi with
     | nil=>rw [List.zip_nil_right] at hz;cases hz
     | cons c u hwi' =>
       rw [List.zip_cons_cons] at hz
       injection hz with hyx hrest
       injection hyx with hy hx
       subst hy hx
       rw [lexLt_cons] at hR
       simp only [List.length_cons] at hlen
       obtain ⟨e,he,hiff⟩:=N7 A.in1 ⟨hp,g,d,tk,os⟩ a t c u
       refine wpAny_bind (he prog w _ _ ?_)
       cases e with
       | true =>
         rw [if_pos (hiff.mp rfl)] at hR
         wp_walk
         exact ⟨rfl,rfl,_,_,_,_,hrest,hvi',hwi',by omega,hR⟩
       | false =>
         rw [if_neg (fun q=>absurd (hiff.mpr q) Bool.false_ne_true)] at hR
         have hri:=Ow A.in1 ⟨hp,g,d,tk,os⟩ a t c u prog w
         wp_walk using hri
         exact ⟨_,rfl,by simpa using hR⟩
  case fin =>
   rintro ⟨b1,b2⟩ s' ⟨hb',rfl,vs,ws,ns',ms',hz,hvi,hwi,hlen,hR⟩
   simp only at hb'
   subst hb'
   have hv:lexLt ns' ms'=decide (items.size < items2.size):=by
    cases hvi with
    | nil =>
      cases hwi with
      | nil =>
        simp only [List.length_nil] at hlen
        rw [Iz]
        exact (decide_eq_false (by omega)).symm
      | cons c u hw =>
        simp only [List.length_nil,List.length_cons] at hlen
        rw [Hc]
        exact (decide_eq_true (by omega)).symm
    | cons a t hv =>
      cases hwi with
      | nil =>
        simp only [List.length_nil,List.length_cons] at hlen
        rw [Hb]
        exact (decide_eq_false (by omega)).symm
      | cons c u hw =>
        rw [List.zip_cons_cons] at hz
        cases hz
   rw [hv] at hR
   wp_walk
   exact ⟨_,rfl,by simpa [Builtin.Tuple.tupleCompareSizes] using hR⟩
  case h =>
   exact ⟨rfl,rfl,items.toList,items2.toList,ns,ms,rfl,hi,hj,by omega,h⟩
end
section
variable {prog:Program} {w:World} {A:Around} {E:Value->Shared->Prop} {s:Shared}
theorem lt_tupInts {l b:Addr} {items items2:Array Value} {ns ms:List Int} {Q:Value->Shared->Prop} (hl:IsTup s.heap l items) (hb:IsTup s.heap b items2) (hi:IntsAre items.toList ns) (hj:IntsAre items2.toList ms)
 (hu:A.units < cLine) (h:Q (.bool (lexLt ns ms)) s):wpAny (model prog w) A (compareOp .Lt (.ref l) (.ref b)) Q E s:=by
 obtain ⟨⟨cls,dd,data,sl⟩,ho,hc,n,hd⟩:=id hl
 obtain ⟨⟨cls2,dd2,data2,sl2⟩,ho2,hc2,n2,hd2⟩:=id hb
 simp only at hc hd hc2 hd2
 subst hc hd hc2 hd2
 exact richCompare_meets_room (op:=.Lt) ⟨_,ho,rfl⟩ ⟨_,ho2,rfl⟩ PySem.F.slot_tuple_lt PySem.F.entry_tuple_lt (PySem.F.args_tuple_lt_2 _ _) (tuple_lt_ints l b items items2 n n2 dd dd2 sl sl2 ns ms hi hj)
  ⟨ho,ho2,show Value.bool (lexLt ns ms)≠Value.notImplemented/\Q (.bool (lexLt ns ms)) s from ⟨(fun x=>nomatch x),h⟩⟩ hu
noncomputable def sIx (n d:Nat):Option Int->Nat
 | none=>d
 | some v=>if v < 0 then (v+(n:Int)).toNat else min v.toNat n
theorem sIx_none (n d:Nat):sIx n d none=d:=rfl
theorem sIx_nat (n d k:Nat):sIx n d (some (k:Int))=min k n:=by
 show (if (k:Int) < 0 then ((k:Int)+(n:Int)).toNat else min (k:Int).toNat n)=min k n
 rw [if_neg (by omega),Int.toNat_natCast]
theorem Q7 (n d:Nat) (hd:d<=n) (o:Option Int):sIx n d o<=n:=by
 cases o with
 | none=>exact hd
 | some v =>
   show (if v < 0 then (v+(n:Int)).toNat else min v.toNat n)<=n
   by_cases hv:v < 0
   ·rw [if_pos hv];omega
   ·rw [if_neg hv];exact Nat.min_le_right _ _
theorem LT (v:Int) (n d:Nat):(if v < 0 then max (v+(n:Int)) 0 else min v (n:Int))=((sIx n d (some v):Nat):Int):=by
 show (if v < 0 then max (v+(n:Int)) 0 else min v (n:Int))=(((if v < 0 then (v+(n:Int)).toNat else min v.toNat n):Nat):Int)
 by_cases hv:v < 0
 ·simp only [if_pos hv];omega
 ·simp only [if_neg hv];omega
theorem Lp (lo hi:Option Int) (n:Nat):Builtin.Slice.sliceAdjust lo hi 1 (n:Int)=(((sIx n 0 lo:Nat):Int),((sIx n n hi:Nat):Int)):=by
 have h1:¬ ((1:Int) < 0):=by omega
 unfold Builtin.Slice.sliceAdjust
 simp only [h1,if_false]
 refine Prod.ext ?_ ?_
 ·cases lo with
  | none=>rfl
  | some v=>exact LT v n 0
 ·cases hi with
  | none=>rfl
  | some v=>exact LT v n n
theorem LC (i j:Nat):Builtin.Slice.slicePlaces (i:Int) (j:Int) 1=j - i:=by
 unfold Builtin.Slice.slicePlaces
 have h1:(1:Int) > 0:=by omega
 simp only [h1,if_true,Int.ediv_one]
 split <;> omega
theorem Ib {v:Value} {o:Option Int} {Q:Option Int->Shared->Prop} (p:IsPart v o) (h:Q o s):wpAny (model prog w) A (Builtin.Slice.slicePartIndex v) Q E s:=by
 cases p with
 | none=>exact slicePart_none h
 | int i t=>exact slicePart_int h
theorem Ej {sl:Addr} {vl vu:Value} {lo hi:Option Int} {n:Nat} {Q:Int × Int × Nat->Shared->Prop} (hs:s.heap.IsSliceOf sl vl vu .none) (pl:IsPart vl lo) (pu:IsPart vu hi)
 (h:Q (((sIx n 0 lo:Nat):Int),1,sIx n n hi - sIx n 0 lo) s):wpAny (model prog w) A (Builtin.Slice.sliceApplied (.ref sl) (pure (n:Int))) Q E s:=by
 obtain ⟨os,hos,hcs,hds⟩:=id hs
 unfold Builtin.Slice.sliceApplied Builtin.Slice.sliceFields
 refine wpAny_bind (wpAny_bind (wpAny_field hos hds (x:=vl) rfl (wpAny_bind (wpAny_field hos hds (x:=vu) rfl (wpAny_bind (wpAny_field hos hds (x:=.none) rfl (wpAny_pure ?_)))))))
 refine wpAny_bind (slicePart_none ?_)
 show wpAny _ _ (if ((1:Int) == 0)=true then _ else _) _ _ s
 rw [if_neg (by decide)]
 refine wpAny_bind (Ib pl (wpAny_bind (Ib pu (wpAny_bind (wpAny_pure ?_)))))
 show wpAny _ _ (match Builtin.Slice.sliceAdjust lo hi 1 (n:Int) with | (lo,hi)=>pure (lo,(1:Int),Builtin.Slice.slicePlaces lo hi 1)) _ _ s
 rw [Lp lo hi n]
 show wpAny _ _ (pure (((sIx n 0 lo:Nat):Int),(1:Int),Builtin.Slice.slicePlaces ((sIx n 0 lo:Nat):Int) ((sIx n n hi:Nat):Int) 1)) _ _ s
 rw [LC]
 exact wpAny_pure h
theorem Ol (xs:Array Value) (i k:Nat):((List.range k).filterMap fun (m:Nat)=>xs[((i:Int)+(m:Int)*1).toNat]?).toArray=((xs.toList.drop i).take k).toArray:=by
 have e:(fun (m:Nat)=>xs[((i:Int)+(m:Int)*1).toNat]?)=fun m=>xs[i+m]?:=by
  funext m
  have:((i:Int)+(m:Int)*1).toNat=i+m:=by omega
  rw [this]
 rw [e]
 have:=pick_run xs i k
 rw [List.filterMap_map] at this
 have e2:((fun x=>xs[x]?) ∘ fun x=>i+x)=fun m=>xs[i+m]?:=rfl
 rw [e2] at this
 rw [this]
theorem getItem_tuple_cut {t sl:Addr} {items:Array Value} {vl vu:Value} {lo hi:Option Int} {Q:Value->Shared->Prop} (ht:IsTup s.heap t items) (hs:s.heap.IsSliceOf sl vl vu .none) (pl:IsPart vl lo) (pu:IsPart vu hi)
 (hw:¬ (sIx items.size 0 lo=0/\sIx items.size items.size hi=items.size))
 (h:Q (.ref s.heap.objs.size) { s with heap:=s.heap.push { cls:=.type "tuple",data:=.seq ((items.toList.drop (sIx items.size 0 lo)).take (sIx items.size items.size hi - sIx items.size 0 lo)).toArray } })
 (hsz:items.size<=sizeLine):wpAny (model prog w) A (getItem (.ref t) (.ref sl)) Q E s:=by
 have htake:sizeOk (.seq ((items.toList.drop (sIx items.size 0 lo)).take (sIx items.size items.size hi - sIx items.size 0 lo)).toArray):=by
  show ((items.toList.drop (sIx items.size 0 lo)).take (sIx items.size items.size hi - sIx items.size 0 lo)).toArray.size<=sizeLine
  rw [List.size_toArray,List.length_take,List.length_drop,Array.length_toList]
  omega
 have hj:sIx items.size items.size hi<=items.size:=Q7 _ _ (Nat.le_refl _) hi
 obtain ⟨os,hos,hcs,hds⟩:=id hs
 have hTs:s.TypeIs (.ref sl) "slice":=⟨os,hos,hcs⟩
 unfold getItem
 try with_reducible refine wpAny_holding ?_
 first | refine wpAny_bind (wpAny_pure ?_) | skip
 refine wpAny_bind (wpAny_sequenceKey ht.typeIs (by decide) ?_)
 refine wpAny_bind (wpAny_callSpecial?_slot (name:=Str.ofString "__getitem__") ht.typeIs PyProof.Rows.slot_tuple_getitem
  (wpAny_call_entry PyProof.Rows.slot_tuple_getitem ht.typeIs entry_tuple_getitem ?_ (args_tuple_getitem _ _)))
 show wpAny _ _ (Builtin.Tuple.tupleItemsOf (.ref t) >>= _) _ _ s
 refine wpAny_bind (tupleItemsOf_ ht ?_)
 refine wpAny_bind (wpAny_typeOf hTs ?_)
 rw [if_pos (by decide)]
 refine wpAny_bind (Ej hs pl pu ?_)
 have hno:¬ ((((sIx items.size 0 lo:Nat):Int) == 0 && (1:Int) == 1 && (sIx items.size items.size hi - sIx items.size 0 lo) == items.size)=true):=by
  intro q
  rw [Bool.and_eq_true,Bool.and_eq_true] at q
  have q1:((sIx items.size 0 lo:Nat):Int)=0:=eq_of_beq q.1.1
  have q2:sIx items.size items.size hi - sIx items.size 0 lo=items.size:=eq_of_beq q.2
  exact hw ⟨by omega,by omega⟩
 show wpAny _ _ (if (((sIx items.size 0 lo:Nat):Int) == 0 && (1:Int) == 1 && (sIx items.size items.size hi - sIx items.size 0 lo) == items.size)=true then _ else _) _ _ s
 rw [if_neg hno,Ol]
 first
  | exact wpAny_bind (m:=Builtin.Tuple.tupleExact _) (wpAny_newObj_type (wpAny_pure ⟨_,rfl,wpAny_pure h⟩) htake)
  | exact wpAny_bind (m:=Builtin.Tuple.tupleExact _) (wpAny_newObj_type (wpAny_bind (wpAny_pure (wpAny_pure ⟨_,rfl,wpAny_pure h⟩))) htake)
  | exact wpAny_bind (wpAny_bind (m:=Builtin.Tuple.tupleExact _) (wpAny_newObj_type (wpAny_pure (wpAny_pure ⟨_,rfl,wpAny_pure h⟩)) htake))
  | exact wpAny_bind (wpAny_bind (m:=Builtin.Tuple.tupleExact _) (wpAny_newObj_type (wpAny_pure ⟨_,rfl,wpAny_pure h⟩) htake))
end
end HT
namespace L2
open PySem PySem.Spec PyProof.Rows
abbrev TO:=St->Hp->(Option Int->Hp->Prop)->Prop
noncomputable def PO (X:Cx) (e:Option Expr) (t:TO):Prop :=
 ∀(pins:List (Addr × Obj)) (s:Shared) (σ:St) (H:Hp) (Q:Option Int->Hp->Prop),Inv X pins σ H s->t σ H Q ->
  wpAny (model X.prog X.w) X.A (evalPart e X.env) (fun u s'=>∃o H',Inv X pins σ H' s'/\IsPart u o/\Q o H') X.xe s
noncomputable def P0:TO:=fun _ H Q=>Q none H
noncomputable def R4 (t:TE):TO:=fun σ H Q=>t σ H fun x H1=>∃i,x=.int i/\Q (some i) H1
theorem BN {ns:List Int}:∀{us:List Value},AJ (ns.map V.int) us->IntsAre us ns:=by
 induction ns with
 | nil=>intro us r;rw [List.map_nil] at r;cases r;exact .nil
 | cons n ns ih =>
   intro us r
   rw [List.map_cons] at r
   cases r with
   | cons r1 r2 =>
     obtain ⟨t,e⟩:=r1
     subst e
     exact .cons n t (ih r2)
section
variable {X:Cx} {e:Expr} {te:TE} {lo hi:Option Expr} {tl th:TO} {pos p2:Pos}
theorem FG:PO X none P0:=by
 intro pins s σ H Q I h
 rw [evalPart_none]
 exact wpAny_pure ⟨none,H,I,.none,h⟩
theorem FH (h:PE X e te):PO X (some e) (R4 te):=by
 intro pins s σ H Q I hw
 rw [evalPart_some]
 refine thn (h pins s σ H _ I hw) fun u s1 ⟨x,H1,I1,r1,q1⟩=>?_
 obtain ⟨i,rfl,q⟩:=q1
 obtain ⟨t,rfl⟩:=r1
 exact ⟨some i,H1,I1,.int i t,q⟩
noncomputable def SlR (X:Cx) (r:V->Option Int->Option Int->Hp->VK->Prop):Prop :=
 ∀(pins:List (Addr × Obj)) (s:Shared) (σ:St) (H:Hp) (x:V) (v vl vu:Value) (lo hi:Option Int) (sl:Addr) (Q:VK),Inv X pins σ H s->AS x v->s.heap.IsSliceOf sl vl vu .none->IsPart vl lo->IsPart vu hi->r x lo hi H Q ->
  ∃T id,typeLookup (.type T) "__getitem__"=pure (some (.builtin id))/\s.TypeIs v T/\wpAny (model X.prog X.w) X.A (getItem v (.ref sl)) (EP X pins σ Q) X.xe s
noncomputable def tSl (r:V->Option Int->Option Int->Hp->VK->Prop) (te:TE) (tl th:TO):TE:=fun σ H Q=>te σ H fun x H1=>tl σ H1 fun l H2=>th σ H2 fun u H3=>r x l u H3 Q
theorem E7 {r:V->Option Int->Option Int->Hp->VK->Prop} (hr:SlR X r) (he:PE X e te) (hl:PO X lo tl) (hu:PO X hi th):PE X (.Subscript e (.Slice lo hi none p2) pos) (tSl r te tl th):=by
 intro pins s σ H Q I h
 refine Subscript_ (thn (he pins s σ H _ I h) fun v s1 ⟨x,H1,I1,r1,q1⟩=>?_)
 refine wpAny_Slice (thn (hl pins s1 σ H1 _ I1 q1) fun vl s2 ⟨l,H2,I2,pl,q2⟩=>thn (hu pins s2 σ H2 _ I2 q2) fun vu s3 ⟨u,H3,I3,pu,q3⟩=>?_)
 rw [evalPart_none]
 refine wpAny_pure ?_
 have I4:Inv X pins σ H3 { s3 with heap:=s3.heap.push { cls:=.type "slice",data:=.fields #[vl,vu,.none] } }:=I3.kept (t':=s3.toks) fun b ob q=>Heap.get?_push_of_some _ q
 obtain ⟨T,id,hT,ht,hg⟩:=hr pins { s3 with heap:=s3.heap.push { cls:=.type "slice",data:=.fields #[vl,vu,.none] } } σ H3 x v vl vu l u s3.heap.objs.size Q I4 r1 (Heap.IsSliceOf.new ..) pl pu q3
 show wpAny (model X.prog X.w) X.A (subscriptTail e (.Slice lo hi none p2) v (.ref s3.heap.objs.size)) (EP X pins σ Q) X.xe { s3 with heap:=s3.heap.push { cls:=.type "slice",data:=.fields #[vl,vu,.none] } }
 exact tail_any (ops:=[.ref s3.heap.objs.size,v]) ht hT hg (by with_unfolding_all rfl)
noncomputable def Fb (xs:List V) (lo hi:Option Int):List V:=(xs.drop (HT.sIx xs.length 0 lo)).take (HT.sIx xs.length xs.length hi - HT.sIx xs.length 0 lo)
theorem Gp (xs:List V) (lo hi:Option Int):(Fb xs lo hi).length<=xs.length:=by
 unfold Fb
 rw [List.length_take,List.length_drop]
 omega
noncomputable def RS (K:PySem.W.Frag):V->Option Int->Option Int->Hp->VK->Prop:=fun x lo hi H Q=>∃a xs,x=.ref a/\SqT K H a xs /\
 ¬ (HT.sIx xs.length 0 lo=0/\HT.sIx xs.length xs.length hi=xs.length)/\∀p,H p=none->Q (.ref p) (upd H p (.tup (Fb xs lo hi)))
theorem Q8:SlR X (RS X.K):=by
 intro pins s σ H x v vl vu lo hi sl Q I rx hs pl pu h
 obtain ⟨a,xs,rfl,hx,hw,q⟩:=h
 cases rx
 obtain ⟨its,r,ht,hz⟩:=I.tuple hx
 have hlen:its.toArray.size=xs.length:=by rw [List.size_toArray];exact r.length.symm
 refine ⟨"tuple",_,PyProof.Rows.slot_tuple_getitem.lookup,ht.typeIs,?_⟩
 refine HT.getItem_tuple_cut ht hs pl pu (by rw [hlen];exact hw) ?_ (by rw [hlen];exact hz)
 rw [hlen]
 refine ⟨.ref s.heap.objs.size,_,I.laid (t':=s.toks) (o:=.tup (Fb xs lo hi)) (fun b ob q=>Heap.get?_push_of_some _ q) (Nat.le_refl _) ?_,rfl,q _ (I.hok.fresh (Nat.le_refl _))⟩
 exact ⟨Nat.le_trans (Gp xs lo hi) hz,_,(r.drop (HT.sIx xs.length 0 lo)).take (HT.sIx xs.length xs.length hi - HT.sIx xs.length 0 lo),IsTup.new _ _⟩
end
end L2
namespace L2
open PySem PySem.Spec PyProof.Rows
noncomputable def ixN (n:Nat) (i:Int):Option Nat:=if 0<=i then (if i < n then some i.toNat else none) else if -(n:Int)<=i then some (i+n).toNat else none
noncomputable def atI {α:Type} (xs:List α) (i:Int):Option α:=(ixN xs.length i).bind fun j=>xs[j]?
theorem Mf {n:Nat} {i:Int} {j:Nat} (h:ixN n i=some j):seqIndex? i n=some j/\j < n/\-(n:Int)<=i/\i < n:=by
 unfold ixN at h
 by_cases h0:0<=i
 ·rw [if_pos h0] at h
  by_cases h1:i < n
  ·rw [if_pos h1] at h
   have e:i.toNat=j:=Option.some.inj h
   exact ⟨by rw [seqIndex_of h0 h1,e],by omega,by omega,h1⟩
  ·rw [if_neg h1] at h;cases h
 ·rw [if_neg h0] at h
  by_cases h1:-(n:Int)<=i
  ·rw [if_pos h1] at h
   have e:(i+n).toNat=j:=Option.some.inj h
   exact ⟨by rw [seqIndex_neg (by omega) h1,e],by omega,h1,by omega⟩
  ·rw [if_neg h1] at h;cases h
theorem LS {α:Type} {xs:List α} {i:Int} {v:α} (h:atI xs i=some v):∃j,seqIndex? i xs.length=some j/\xs[j]?=some v/\j < xs.length/\-(xs.length:Int)<=i/\i < xs.length:=by
 unfold atI at h
 cases e:ixN xs.length i with
 | none=>rw [e] at h;cases h
 | some j =>
   rw [e] at h
   obtain ⟨h1,h2,h3,h4⟩:=Mf e
   exact ⟨j,h1,h,h2,h3,h4⟩
theorem Dk {α:Type} {xs:List α} {j:Nat} {v:α} (h:xs[j]?=some v):atI xs (j:Int)=some v:=by
 have hj:j < xs.length:=(List.getElem?_eq_some_iff.mp h).1
 have e:ixN xs.length (j:Int)=some j:=by
  unfold ixN
  rw [if_pos (by omega),if_pos (by omega)];simp
 unfold atI;rw [e];exact h
noncomputable def OK (b:Expr):Prop:=∀o i,subscripted b false o i=operate [o,i] (getItem o i)
noncomputable def IxR (X:Cx) (r:R2):Prop :=
 ∀(value slice:Expr) (pins:List (Addr × Obj)) (s:Shared) (σ:St) (H:Hp) (x y:V) (v u:Value) (Q:VK),Inv X pins σ H s->AS x v->AS y u->r x y H Q ->
  subscripted slice false v u=operate [v,u] (getItem v u)->wpAny (model X.prog X.w) X.A (subscriptTail value slice v u) (EP X pins σ Q) X.xe s
noncomputable def MtR (X:Cx) (id:String) (r:V->List V->Hp->VK->Prop):Prop :=
 ∀(pins:List (Addr × Obj)) (s:Shared) (σ:St) (H:Hp) (x:V) (xs:List V) (v:Value) (us:List Value) (Q:VK),Inv X pins σ H s->AS x v->AJ xs us->r x xs H Q ->
  wpAny (model X.prog X.w) X.A (call (.builtin id) (v :: us)) (EP X pins σ Q) X.xe s
section
variable {X:Cx} {a b:Expr} {ta tb:TE} {pos:Pos}
theorem At {r:R2} (hr:IxR X r) (ha:PE X a ta) (hb:PE X b tb) (hs:OK b):PE X (.Subscript a b pos) (tOp r ta tb):=by
 intro pins s σ H Q I h
 exact Subscript_ (Qa ha hb I h fun v u s2 x y H2 I2 rx ry q=>hr a b pins s2 σ H2 x y v u Q I2 rx ry q (hs _ _))
noncomputable def Ri (K:PySem.W.Frag):R2:=fun x y H Q=>∃p xs i v,x=.ref p/\y=.int i/\SqL K H p xs/\atI xs i=some v/\Q v H
noncomputable def Rj (K:PySem.W.Frag):R2:=fun x y H Q=>∃p xs i v,x=.ref p/\y=.int i/\SqT K H p xs/\atI xs i=some v/\Q v H
theorem Ba:IxR X (Ri X.K):=by
 intro value slice pins s σ H x y v u Q I rx ry h hs
 obtain ⟨p,xs,i,z,rfl,rfl,hq,he,q⟩:=h
 cases rx
 obtain ⟨t,rfl⟩:=ry
 obtain ⟨its,r,pl,hz⟩:=I.list hq
 obtain ⟨j,h1,h2,h3,h4,h5⟩:=LS he
 obtain ⟨w,ew,rw'⟩:=r.get h2
 have hl:=r.length
 have hn:=J8
 have fin:EP X pins σ Q w s:=⟨z,H,I,rw',q⟩
 by_cases h0:0<=i
 ·have hj:i.toNat=j:=by
   rw [seqIndex_of h0 h5] at h1
   exact Option.some.inj h1
  exact item_listR pl.isList h0 (by omega) (by rw [hj];simpa using ew) fin hs
 ·have hj:(i+(its.toArray.size:Int)).toNat=j:=by
   rw [seqIndex_neg (by omega) h4] at h1
   rw [List.size_toArray,<- hl]
   exact Option.some.inj h1
  exact subscriptTail_builtinR (x:=w) pl.isList.typeIs slot_list_getitem.lookup
   (wpAny_getItem_list_neg (Q:=fun r s'=>r=w/\EP X pins σ Q r s') pl.isList (by omega) (by rw [List.size_toArray] <;> omega) (by omega) (by rw [hj];simpa using ew) ⟨rfl,fin⟩) hs
theorem Aw:IxR X (Rj X.K):=by
 intro value slice pins s σ H x y v u Q I rx ry h hs
 obtain ⟨p,xs,i,z,rfl,rfl,hq,he,q⟩:=h
 cases rx
 obtain ⟨t,rfl⟩:=ry
 obtain ⟨its,r,pl,hz⟩:=I.tuple hq
 obtain ⟨j,h1,h2,h3,h4,h5⟩:=LS he
 obtain ⟨w,ew,rw'⟩:=r.get h2
 have hl:=r.length
 have hn:=J8
 have fin:EP X pins σ Q w s:=⟨z,H,I,rw',q⟩
 exact subscriptTail_builtinR (x:=w) pl.typeIs slot_tuple_getitem.lookup
  (getItem_tuple (j:=j) (Q:=fun r s'=>r=w/\EP X pins σ Q r s') pl (by omega) (by omega) (by rw [List.size_toArray,<- hl];exact h1) (by simpa using ew) ⟨rfl,fin⟩) hs
theorem L7 (its:List Value) (n j:Nat) (u:Value):Obj.mapSeq (·.setIfInBounds j u) { cls:=.type "list",data:=.seq its.toArray n }={ cls:=.type "list",data:=.seq (its.set j u).toArray n }:=by
 simp [Obj.mapSeq]
theorem Inv.lst {pins:List (Addr × Obj)} {σ:St} {H:Hp} {s:Shared} {p:Addr} {xs:List V} (I:Inv X pins σ H s) (h:H p=some (.lst xs)) :
 ∃(its:List Value) (n:Nat),AJ xs its/\s.heap.get? p=some { cls:=.type "list",data:=.seq its.toArray n }/\xs.length<=sizeLine:=by
 obtain ⟨z,its,n,r,e⟩:=I.hok p _ h
 exact ⟨its,n,r,e,z⟩
theorem Inv.lstUpd {pins:List (Addr × Obj)} {σ:St} {H:Hp} {s:Shared} {p:Addr} {xs ys:List V} {its its':List Value} {n n':Nat} {f:Obj->Obj} (I:Inv X pins σ H s) (h:H p=some (.lst xs))
 (ho:s.heap.get? p=some { cls:=.type "list",data:=.seq its.toArray n }) (hf:f { cls:=.type "list",data:=.seq its.toArray n }={ cls:=.type "list",data:=.seq its'.toArray n' }) (r:AJ ys its') (hz:ys.length<=sizeLine) (t:Nat) :
 Inv X pins σ (upd H p (.lst ys)) { s with heap:=s.heap.update p f,toks:=t }:=by
 have e:(s.heap.update p f).get? p=some { cls:=.type "list",data:=.seq its'.toArray n' }:=by
  rw [Heap.get?_update_self f ho (by rw [hf] <;> rfl),hf]
 refine I.write (x:=p) (e:=p) (by rw [h];trivial) (.inl rfl) (fun b u hb q=>(Heap.get?_update_other _ _ (Ne.symm hb)).trans q) ⟨_,e⟩ ?_
 exact ⟨hz,its',n',r,e⟩
noncomputable def Rk:V->V->V->Hp->(Hp->Prop)->Prop:=fun o i v H Q=>∃p xs k j,o=.ref p/\i=.int k/\H p=some (.lst xs)/\ixN xs.length k=some j/\Q (upd H p (.lst (xs.set j v)))
theorem KK:QN X Rk:=by
 intro pins s σ H o i v ov iv u Q I ro ri rv h
 obtain ⟨p,xs,k,j,rfl,rfl,hp,hj,q⟩:=h
 cases ro
 obtain ⟨t,rfl⟩:=ri
 obtain ⟨its,n,r,ho,hz⟩:=I.lst hp
 obtain ⟨h1,h2,h3,h4⟩:=Mf hj
 have hl:=r.length
 have hn:=J8
 have I':Inv X pins σ (upd H p (.lst (xs.set j v))) { s with heap:=s.heap.update p (Obj.mapSeq (·.setIfInBounds j u)) } :=
  I.lstUpd hp ho (L7 its n j u) (r.set rv j) (by rw [List.length_set];exact hz) s.toks
 by_cases h0:0<=k
 ·have hk:k.toNat=j:=by
   rw [seqIndex_of h0 h4] at h1
   exact Option.some.inj h1
  exact PySem.W.ki_setAt ho h0 (by omega) (by rw [List.size_toArray,<- hl];exact h4) (by rw [hk];exact ⟨_,I',q⟩)
 ·have hk:(k+(its.toArray.size:Int)).toNat=j:=by
   rw [seqIndex_neg (by omega) h3] at h1
   rw [List.size_toArray,<- hl]
   exact Option.some.inj h1
  exact PySem.W.ki_setBack ho (by omega) (by rw [List.size_toArray,<- hl];exact h3) (by omega) (by rw [hk];exact ⟨_,I',q⟩)
theorem JU (lo hi:Option Int) (n:Nat):(sliceBounds lo hi none n).1=((HT.sIx n 0 lo:Nat):Int)/\(sliceBounds lo hi none n).2.1=((HT.sIx n n hi:Nat):Int)/\(sliceBounds lo hi none n).2.2=1:=by
 refine ⟨?_,?_,rfl⟩
 ·cases lo with
  | none=>simp [sliceBounds,HT.sIx]
  | some i =>
    simp only [sliceBounds,HT.sIx,Option.getD_none,show (1:Int) > 0 by decide,if_true]
    by_cases h:i < 0
    ·simp only [h,if_true] <;> omega
    ·simp only [h,if_false] <;> omega
 ·cases hi with
  | none=>simp [sliceBounds,HT.sIx]
  | some i =>
    simp only [sliceBounds,HT.sIx,Option.getD_none,show (1:Int) > 0 by decide,if_true]
    by_cases h:i < 0
    ·simp only [h,if_true] <;> omega
    ·simp only [h,if_false] <;> omega
theorem II (its:List Value) (lo hi:Option Int):slicePick its.toArray lo hi none=((its.drop (HT.sIx its.length 0 lo)).take (HT.sIx its.length its.length hi - HT.sIx its.length 0 lo)).toArray:=by
 obtain ⟨h1,h2,h3⟩:=JU lo hi its.toArray.size
 unfold slicePick
 rw [h1,h2,h3]
 simp only [sliceRange_one,pick_run,List.size_toArray] <;> rfl
noncomputable def RR (K:PySem.W.Frag):V->Option Int->Option Int->Hp->VK->Prop:=fun x lo hi H Q=>∃a xs,x=.ref a/\SqL K H a xs/\∀p,H p=none->Q (.ref p) (upd H p (.lst (Fb xs lo hi)))
theorem Pp:SlR X (RR X.K):=by
 intro pins s σ H x v vl vu lo hi sl Q I rx hs pl pu h
 obtain ⟨a,xs,rfl,hx,q⟩:=h
 cases rx
 obtain ⟨its,r,ht,hz⟩:=I.list hx
 have hlen:=r.length
 refine ⟨"list",_,slot_list_getitem.lookup,ht.isList.typeIs,?_⟩
 refine wpAny_getItem_list_slice ht.isList hs pl pu .none (by simp) ?_ (by rw [List.size_toArray] <;> omega)
 rw [II,<- hlen]
 refine ⟨.ref s.heap.objs.size,_,I.laid (t':=s.toks) (o:=.lst (Fb xs lo hi)) (fun b ob q=>Heap.get?_push_of_some _ q) (Nat.le_refl _) ?_,rfl,q _ (I.hok.fresh (Nat.le_refl _))⟩
 exact ⟨Nat.le_trans (Gp xs lo hi) hz,_,0,(r.drop (HT.sIx xs.length 0 lo)).take (HT.sIx xs.length xs.length hi - HT.sIx xs.length 0 lo),Heap.get?_push_size _ rfl⟩
theorem Bl:CP X (.builtin "len") (fun xs H Q=>∃p ys,xs=[.ref p]/\(SqL X.K H p ys\/SqT X.K H p ys)/\Q (.int ys.length) H):=by
 intro pins s σ H xs us Q I r h
 obtain ⟨p,ys,rfl,hq,q⟩:=h
 obtain ⟨u,rfl,rx⟩:=Dv r
 cases rx
 have hn:=J8
 rcases hq with hq | hq
 ·obtain ⟨its,r',pl,hz⟩:=I.list hq
  have hlen:=r'.length
  exact Calls.call_len_list pl.isList (by simp only [List.size_toArray] <;> omega) ⟨.int ys.length,H,I.tok _,⟨s.toks+1,by rw [List.size_toArray,hlen]⟩,q⟩
 ·obtain ⟨its,r',pl,hz⟩:=I.tuple hq
  have hlen:=r'.length
  exact len_tuple pl (by simp only [List.size_toArray] <;> omega) ⟨.int ys.length,H,I.tok _,⟨s.toks+1,by rw [List.size_toArray,hlen]⟩,q⟩
theorem AU:CP X (.type "list") (fun xs H Q=>∃p ys,xs=[.ref p]/\(SqL X.K H p ys\/SqT X.K H p ys)/\∀l,H l=none->Q (.ref l) (upd H l (.lst ys))):=by
 intro pins s σ H xs us Q I r h
 obtain ⟨p,ys,rfl,hq,q⟩:=h
 obtain ⟨u,rfl,rx⟩:=Dv r
 cases rx
 have fin:∀(its:List Value),AJ ys its->ys.length<=sizeLine->∀(h':Heap) (c':Nat),(∀b o',s.heap.get? b=some o'->h'.get? b=some o') ->
  h'.get? s.heap.objs.size=some { cls:=.type "list",dict:=none,data:=.seq its.toArray c',slots:=#[] }->EP X pins σ Q (.ref s.heap.objs.size) { s with heap:=h' }:=fun its r' hz h' c' kp e =>
  ⟨.ref s.heap.objs.size,_,I.laid (t':=s.toks) kp (Nat.le_refl _) (show Bx X.prog X.w _ h' _ (.lst ys) from ⟨hz,its,c',r',e⟩),rfl,q _ (I.hok.fresh (Nat.le_refl _))⟩
 rcases hq with hq | hq
 ·obtain ⟨its,r',pl,hz⟩:=I.list hq
  have hlen:=r'.length
  obtain ⟨o,ho,hc,n,hd⟩:=pl.isList
  exact call_list_seq p (.inl rfl) ho hc hd (fun h' c' kp e=>fin its r' hz h' c' kp e) (by simp only [List.size_toArray] <;> omega)
 ·obtain ⟨its,r',pl,hz⟩:=I.tuple hq
  have hlen:=r'.length
  obtain ⟨o,ho,hc,n,hd⟩:=pl
  exact call_list_seq p (.inr rfl) ho hc hd (fun h' c' kp e=>fin its r' hz h' c' kp e) (by simp only [List.size_toArray] <;> omega)
noncomputable def tyV (K:PySem.W.Frag) (T:String) (x:V) (H:Hp):Prop:=match x with
 | .str _=>T="str"
 | .int _=>T="int"
 | .ref p=>(T="list"/\∃xs,SqL K H p xs)\/(T="tuple"/\∃o,K.lookup p=some o/\o.cls=.type "tuple"/\o.dict=none) \/
  (T="dict"/\((∃kvs,H p=some (.dK kvs))\/∃kvs,H p=some (.dT kvs)))\/(T="set"/\∃S n,H p=some (.set S n))
 | _=>False
theorem OG {pins:List (Addr × Obj)} {σ:St} {H:Hp} {s:Shared} {T:String} {x:V} {v:Value} (I:Inv X pins σ H s) (r:AS x v) (ty:tyV X.K T x H) :
 s.TypeIs v T/\∀a,v=.ref a->∃ob,s.heap.get? a=some ob/\ob.dict=none:=by
 cases x with
 | str z =>
   obtain ⟨t,rfl⟩:=r
   cases (show T="str" from ty)
   exact ⟨typeIs_str s z t,fun _ e=>nomatch e⟩
 | int i =>
   obtain ⟨t,rfl⟩:=r
   cases (show T="int" from ty)
   exact ⟨typeIs_int s i t,fun _ e=>nomatch e⟩
 | ref p =>
   cases r
   rcases ty with ⟨rfl,xs,hq⟩ | ⟨rfl,o,hk,hc,hd⟩ | ⟨rfl,hk⟩ | ⟨rfl,S,n,hk⟩
   ·obtain ⟨its,_,pl,_⟩:=I.list hq
    refine ⟨pl.isList.typeIs,fun a e=>?_⟩
    cases e
    obtain ⟨o,n,e,c,hd,_⟩:=pl
    exact ⟨o,e,hd⟩
   ·refine ⟨⟨o,I.kIn p o hk,hc⟩,fun a e=>?_⟩
    cases e
    exact ⟨o,I.kIn _ o hk,hd⟩
   ·have z:∃o,s.heap.get? p=some o/\o.ExactDict:=by
     rcases hk with ⟨kvs,hk⟩ | ⟨kvs,hk⟩
     ·obtain ⟨_,_,_,_,o,_,_,e,ex,_⟩:=I.hok p _ hk
      exact ⟨o,e,ex⟩
     ·obtain ⟨_,_,_,_,o,_,_,e,ex,_⟩:=I.hok p _ hk
      exact ⟨o,e,ex⟩
    obtain ⟨o,e,ex⟩:=z
    refine ⟨⟨o,e,ex.1⟩,fun a e2=>?_⟩
    cases e2
    exact ⟨o,e,ex.2.1⟩
   ·obtain ⟨o,_,_,_,e,ex,_⟩:=I.hok p _ hk
    refine ⟨⟨o,e,ex.1⟩,fun a e2=>?_⟩
    cases e2
    exact ⟨o,e,ex.2.1⟩
 | _=>exact False.elim ty
noncomputable def RV (K:PySem.W.Frag) (T:String) (r:V->List V->Hp->VK->Prop) (to:TE):TE:=fun σ H Q=>to σ H fun x H1=>tyV K T x H1/\r x [] H1 Q
noncomputable def tBM (K:PySem.W.Frag) (T:String) (r:V->List V->Hp->VK->Prop) (to:TE) (t:TA):TE:=fun σ H Q=>to σ H fun x H1=>tyV K T x H1/\t σ H1 fun xs H2=>r x xs H2 Q
variable {o e:Expr} {es:List Expr} {to:TE} {t:TA} {name:Str} {apos cpos:Pos} {T id:String} {r:V->List V->Hp->VK->Prop}
theorem LB (pa:PlainAttrs T) (slot:Slot T name id) (hty:typeOf (.builtin id)=pure (.type "method_descriptor")) (hm:MtR X id r) (ho:PE X o to)
 (hbase:attributeBase o name X.env (eval o X.env)=eval o X.env:=by rfl) (hline:(apos.endLine == cpos.line)=true:=by rfl):PE X (.Call (.Attribute o name apos) [] [] cpos) (RV X.K T r to):=by
 intro pins s σ H Q I h
 refine wpAny_Call_method0_late hbase hline (thn (ho pins s σ H _ I h) fun v s1 ⟨x,H1,I1,r1,ty,q1⟩=>?_)
 obtain ⟨h1,h2⟩:=OG I1 r1 ty
 exact ⟨T,id,pa,slot,hty,h1,h2,Calls.callWith_builtin rfl (PySem.evalArgs_none (hm pins s1 σ H1 x [] v [] Q I1 r1 .nil q1))⟩
theorem Ht (pa:PlainAttrs T) (slot:Slot T name id) (hty:typeOf (.builtin id)=pure (.type "method_descriptor")) (hm:MtR X id r) (ho:PE X o to) (ha:PA X (e :: es) t)
 (hbase:attributeBase o name X.env (eval o X.env)=eval o X.env:=by rfl)
 (hfew:((backTo cpos (starEach (e :: es) X.env)).all (fun x=>!x.1) && (backToKw cpos (keywordEach [] X.env)).all (fun x=>x.1.isSome)
  && decide ((e :: es).length+([]:List Keyword).length+(if ([]:List Keyword).isEmpty then 0 else 1) < 30))=true:=by rfl)
 (hline:(apos.endLine == cpos.line)=true:=by rfl) (hs:starEach (e :: es) X.env=(false,eval e X.env) :: starEach es X.env:=by rfl) (hplain:(backTo cpos (starEach es X.env)).any (·.1)=false:=by rfl) :
 PE X (.Call (.Attribute o name apos) (e :: es) [] cpos) (tBM X.K T r to t):=by
 intro pins s σ H Q I h
 refine wpAny_Call_method_late hbase hfew hline rfl (thn (ho pins s σ H _ I h) fun v s1 ⟨x,H1,I1,r1,ty,q1⟩=>?_)
 obtain ⟨h1,h2⟩:=OG I1 r1 ty
 refine ⟨T,id,pa,slot,hty,h1,h2,?_⟩
 have hA:=ha cpos pins s1 σ H1 _ I1 q1
 rw [hs] at hA ⊢
 refine Calls.callWith_builtin (by show (false || (backTo cpos (starEach es X.env)).any (·.1))=false;rw [hplain] <;> rfl) (Calls.evalArgs_plain ?_)
 exact thn hA fun us s2 ⟨vs,H2,I2,r2,q2⟩=>hm pins s2 σ H2 x vs v us Q I2 r1 r2 q2
end
end L2
namespace L2
open PySem PySem.Spec PyProof.Rows
noncomputable def MtM (X:Cx) (id:String) (r:V->List V->Hp->VK->Prop):Prop :=
 ∀(pins:List (Addr × Obj)) (s:Shared) (σ:St) (H:Hp) (x:V) (xs:List V) (v:Value) (us:List Value) (Q:VK),Inv X pins σ H s->AS x v->AJ xs us->r x xs H Q ->
  wpAny (model X.prog X.w) X.A (call (.builtin id) (v :: us)) (EP X pins σ Q) X.xe s
theorem AJ.one:∀{x:V} {us:List Value},AJ [x] us->∃u,us=[u]/\AS x u
 | _,_,.cons r .nil=>⟨_,rfl,r⟩
theorem AJ.zero:∀{us:List Value},AJ [] us->us=[]
 | _,.nil=>rfl
section
variable {X:Cx} {pins:List (Addr × Obj)} {σ:St} {H:Hp} {s:Shared} {l b:Addr} {xs ys zs:List V}
theorem Inv.lset {its its':List Value} {n:Nat} {f:Array Value->Array Value} {t':Nat} (I:Inv X pins σ H s) (hH:H l=some (.lst xs))
 (e:s.heap.get? l=some { cls:=.type "list",data:=.seq its.toArray n }) (hf:f its.toArray=its'.toArray) (hv:AJ ys its') (hz:ys.length<=sizeLine) :
 Inv X pins σ (upd H l (.lst ys)) { s with heap:=s.heap.update l (Obj.mapSeq f),toks:=t' }:=by
 have q:=PySem.IsL.update e f
 rw [hf] at q
 refine I.write (x:=l) (e:=l) (by rw [hH];exact trivial) (.inl rfl) (fun b' u hb hu=>(Heap.get?_update_other s.heap (Obj.mapSeq f) (Ne.symm hb)).trans hu) ⟨_,q⟩ ?_
 exact ⟨hz,its',_,hv,q⟩
theorem Inv.lstM (I:Inv X pins σ H s) (hH:H l=some (.lst xs)):xs.length<=sizeLine/\∃(its:List Value) (n:Nat),AJ xs its/\xs.length=its.length/\s.heap.get? l=some { cls:=.type "list",data:=.seq its.toArray n }:=by
 obtain ⟨z,its,n,r,e⟩:=I.hok l _ hH
 exact ⟨z,its,n,r,r.length,e⟩
theorem NZ {n:Nat} (h:n<=sizeLine):Builtin.List.listTooLong n=false:=by
 unfold Builtin.List.listTooLong
 exact decide_eq_false (by omega)
end
section
variable {X:Cx}
noncomputable def Pi:V->List V->Hp->VK->Prop:=fun x vs H Q=>∃l xs y,x=.ref l/\vs=[y]/\H l=some (.lst xs)/\xs.length < sizeLine/\Q .non (upd H l (.lst (xs++[y])))
theorem EG:MtM X "list.append" Pi:=by
 intro pins s σ H x vs v us Q I rx rv h
 obtain ⟨l,xs,y,rfl,rfl,hH,hz,q⟩:=h
 cases rx
 obtain ⟨u,rfl,ru⟩:=rv.one
 obtain ⟨z,its,n,r,hl,e⟩:=I.lstM hH
 refine call_meets F.slot_list_append ⟨_,e,rfl⟩ F.entry_list_append (F.args_list_append_2 _ _) (PySem.list_append l its.toArray n u (by rw [List.size_toArray];omega)) ⟨e,?_⟩
 refine ⟨.non,_,I.lset (its':=its++[u]) hH e (by simp) (r.append (.cons ru .nil)) ?_,rfl,q⟩
 rw [List.length_append,List.length_singleton]
 omega
noncomputable def Pj:V->List V->Hp->VK->Prop:=fun x vs H Q=>∃l b xs zs,x=.ref l/\vs=[.ref b]/\H l=some (.lst xs)/\H b=some (.lst zs)/\xs.length+zs.length<=sizeLine/\Q .non (upd H l (.lst (xs++zs)))
theorem MX:MtM X "list.extend" Pj:=by
 intro pins s σ H x vs v us Q I rx rv h
 obtain ⟨l,b,xs,zs,rfl,rfl,hH,hB,hz,q⟩:=h
 cases rx
 obtain ⟨u,rfl,ru⟩:=rv.one
 cases ru
 obtain ⟨z,its,n,r,hl,e⟩:=I.lstM hH
 obtain ⟨z2,its2,n2,r2,hl2,e2⟩:=I.lstM hB
 have hsz:its.toArray.size+its2.toArray.size<=sizeLine:=by rw [List.size_toArray,List.size_toArray];omega
 have hlong:¬ (!its.toArray.isEmpty && Builtin.List.listTooLong (its.toArray.size+its2.toArray.size))=true:=by
  rw [NZ hsz,Bool.and_false]
  exact Bool.false_ne_true
 refine call_meets F.slot_list_extend ⟨_,e,rfl⟩ F.entry_list_extend (F.args_list_extend_2 _ _)
  (AutoSeq1.list_extend_list_list_0 l its.toArray n b its2.toArray n2 hlong (by rw [List.size_toArray];omega) (by omega)) ⟨e,e2,?_⟩
 refine ⟨.non,_,I.lset (its':=its++its2) hH e (by simp) (r.append r2) ?_,rfl,q⟩
 rw [List.length_append]
 omega
noncomputable def Q5:V->List V->Hp->VK->Prop:=fun x vs H Q=>∃l xs,x=.ref l/\vs=[]/\H l=some (.lst xs)/\Q .non (upd H l (.lst []))
theorem Ks:MtM X "list.clear" Q5:=by
 intro pins s σ H x vs v us Q I rx rv h
 obtain ⟨l,xs,rfl,rfl,hH,q⟩:=h
 cases rx
 have hus:=rv.zero
 subst hus
 obtain ⟨z,its,n,r,hl,e⟩:=I.lstM hH
 refine call_meets F.slot_list_clear ⟨_,e,rfl⟩ F.entry_list_clear (F.args_list_clear_1 _) (AutoSeq1.list_clear_list_0 l its.toArray n (by rw [List.size_toArray];omega)) ⟨e,?_⟩
 exact ⟨.non,_,I.lset (its':=[]) (ys:=[]) hH e rfl .nil (Nat.zero_le _),rfl,q⟩
end
section
variable {prog:Program} {w:World} {A:Around} {E:Value->Shared->Prop} {s:Shared}
set_option maxRecDepth 100000 in
end
section
variable {X:Cx}
end
end L2
namespace Att
open PySem PySem.W PySem.Calls PyProof.Rows
theorem GD {P:Params} {h:Heap}:∀(ns:List Int) (vs:List Value),WellAll P h vs (ns.map WData.int)->IntsAre vs ns:=by
 intro ns
 induction ns with
 | nil =>
   intro vs w
   rw [List.map_nil] at w
   cases w
   exact .nil
 | cons n ns ih =>
   intro vs w
   rw [List.map_cons] at w
   cases w with
   | cons a b =>
     cases a
     exact .cons _ _ (ih _ b)
theorem Nj {l:OpenLaw} {n:Nat} (hn:l.most=some n) {P:Params} {h:Heap} {args:List WData} {vals:List Value}
 (hpre:l.row.toRowW.claim.pre args=true) (hwl:WellAll P h vals args) :
 ∃a vs ns,vals=[Value.ref a]/\args=[WData.list (ns.map WData.int)]/\h.get? a=some { cls:=.type "list",data:=.seq vs.toArray }/\IntsAre vs ns/\ns.length<=n:=by
 have hsh:WShape.hasAll [] args [.list .int]=true:=(pre_splitW hpre).1
 have hc:l.pre.holds [] { args:=args }=true:=(pre_splitW hpre).2
 obtain ⟨d,r,rfl,h1,h2⟩:=hasAllW_cons hsh
 obtain rfl:=hasAllW_nil h2
 obtain ⟨xs,rfl,h3⟩:=hasW_list h1
 obtain ⟨ns,rfl⟩:=items_int h3
 have hlen:ns.length<=n:=by
  unfold OpenLaw.pre at hc
  have h4:(WTm.not (.lt (.lit (.int (n:Int))) (.len (.arg 0)))).holds [] { args:=[.list (ns.map .int)] }=true:=by
   have h4:=(holds_andW hc).1
   rw [hn] at h4
   exact h4
  have h5:=condW_of h4 (w_not (w_lt w_lit (w_len_list (w_arg rfl))))
  rw [List.length_map] at h5
  refine Nat.le_of_not_lt fun q=>?_
  have q':(n:Int) < ((ns.length:Nat):Int):=by omega
  first
   | (rw [decide_eq_true q'] at h5;exact absurd h5 (by decide))
   | (simp at h5;omega)
 cases hwl with
 | cons w1 w2 =>
   cases w2
   cases w1 with
   | list ho hall=>exact ⟨_,_,ns,rfl,rfl,ho,GD ns _ hall,hlen⟩
theorem Nf (l:OpenLaw) (args:List WData):l.row.toRowW.claim.post args (.bool true) args=true :=
 postW_of (r:=l.row.toRowW) (X:=(true == true))
  (show WShape.has [] (.bool true) .bool=true by first | rfl | decide | simp [WShape.has,WShape.arms,WShape.armsAll])
  (show (WTm.eq .res (.lit (.bool true))).value [] { args:=args,res:=some (.bool true),after:=args }=some (.bool (true == true)) from w_eq_bool (w_res rfl) w_lit) rfl
theorem attach_call {l:OpenLaw} {n:Nat} {q:Program} {loose:List Str} {XP:(Str->Option Value)->Heap->Prop} {YP:World->Heap->Prop} {d:DefRec}
 (hn:l.most=some n) (hdf:d.params.defaults=[])
 (call:∀(w:World) (s₀ s₁:Shared) (mg mb:Str->Option Value) (fa:Addr) (o:Obj) (pm cd doc:Value) (a:Addr) (vs:List Value) (ns:List Int),
  Ground q loose [] XP w s₀ mg mb s₁.heap->YP w s₁.heap ->
  s₁.heap.get? fa=some o->o.data=.func (docDef d.name d.params d.body d.scope pm cd doc)->s₁.heap.CodeRec cd d.name->mg d.name=some (.ref fa) ->
  s₁.heap.get? a=some { cls:=.type "list",data:=.seq vs.toArray }->IntsAre vs ns->ns.length<=n->s₁.gens=#[] ->
  codeAny (model l.prog w) callerA (.call (.ref fa) ⟨[.ref a],[]⟩) (fun r s'=>r=.ok (.ret (.bool true))/\OldK s₁.heap s'.heap/\s'.os=s₁.os/\AllBare s'.gens) s₁) :
 WalkO q loose XP YP l.row.toRowW d [] (fun f vs=>PySem.call f vs):=by
 intro w s₀ s₁ mg mb G Y fa o pm cd doc dV kV ho hd hcd hD hmg hg args vals as hpre hlay hrd hwl hlo
 obtain rfl:dV=.none:=Dflts.none hD hdf
 obtain rfl:kV=.none:=Dflts.noKw hD
 obtain ⟨a,vs,ns,rfl,rfl,hobj,hints,hlen⟩:=Nj hn hpre hwl
 refine enter_call (codeAny_mono (call w s₀ s₁ mg mb fa o pm cd doc a vs ns G Y ho (fd_plain hd) hcd hmg hobj hints hlen hg) fun r s' hq=>?_)
 obtain ⟨rfl,h2,h3,h4⟩:=hq
 exact ⟨.inl ⟨.bool true,.bool true,[],rfl,fun _=>rfl,.bool true,Nf l _,fun _=>⟨List.Pairwise.nil,fun _ hm=>(nomatch hm)⟩⟩,h2,h3,h4⟩
section
variable {prog:Program} {w:World} {A:Around} {E:Value->Shared->Prop} {s:Shared} {K:Frag}
end
end Att
namespace L2
open PySem PySem.Spec PyProof.Rows
theorem Gm:∀{vs:List Value} {ns:List Int},IntsAre vs ns->AJ (ns.map V.int) vs
 | _,_,.nil=>.nil
 | _,_,.cons n t h=>.cons ⟨t,rfl⟩ (Gm h)
noncomputable def PY (H:Hp):Prop:=∀b,H b=none\/∃o xs,H b=some (.frz o (.lst xs))
theorem NM {P:Program} {w:World} {K:PySem.W.Frag} {mg mb:Str->Option Value} {CX:CXT} {k:Nat} {fa a:Addr} {fd:FuncData} {x:Str} {sp:Sp} {s₁:Shared} {vs:List Value} {ns:List Int}
 (KX:K.In s₁.heap) (hns:s₁.heap.Ns mainGlobals mg) (hb:s₁.heap.Ns builtinsNs mb) (hbb:∀x:Str,x≠"__name__"->mb x=bootBuiltins x) (hlim:s₁.heap.NoLimit) (hg:s₁.gens=#[])
 (ha:s₁.heap.get? a=some { cls:=.type "list",data:=.seq vs.toArray }) (hi:IntsAre vs ns) (hl:ns.length<=sizeLine) (hr:Da k callerA)
 (F:∀base:Heap,K.In base->base.Ns mainGlobals mg->AO P w K mg base CX k fa fd [x] sp) (hbind:∀(s:Shared) (u:Value),BindsTo s fd ⟨[u],[]⟩ [(x,u)])
 (hsp:∀H:Hp,PY H->SqL K H a (ns.map V.int)->sp [.ref a] H (fun v _=>v=.bl true) fun _ _ _=>False)
 (hCX:∀H e s',CX [] H s₁ (fun _ _ _=>False) e s'->False) :
 codeAny (model P w) callerA (.call (.ref fa) ⟨[.ref a],[]⟩) (fun r s'=>r=.ok (.ret (.bool true))/\OldK s₁.heap s'.heap/\s'.os=s₁.os/\AllBare s'.gens) s₁:=by
 have rv:=Gm hi
 have lenV:=hi.length
 have core:∀H:Hp,PY H->SqL K H a (ns.map V.int)->HOk P w H s₁.heap->(∀b,H b≠none->b=a)->(H a≠none->K.lookup a=none) ->
  codeAny (model P w) callerA (.call (.ref fa) ⟨[.ref a],[]⟩) (fun r s'=>r=.ok (.ret (.bool true))/\OldK s₁.heap s'.heap/\s'.os=s₁.os/\AllBare s'.gens) s₁:=by
  intro H hO hS hok hA hK
  have base_of:∀{b:Addr} {o:Obj},s₁.heap.get? b=some o->H b=none->(Jy s₁.heap H).get? b=some o:=fun e n=>NI e n
  have noA:∀{b:Addr} {o:Obj} {es:Array DictEntry} {ep:Nat},s₁.heap.get? b=some o->o.data=.dict es ep->H b=none:=fun {b o es ep} e d=>by
   cases q:H b with
   | none=>rfl
   | some u =>
     have e':b=a:=hA b (by rw [q];simp)
     subst e'
     rw [ha] at e;cases e
     have d':Data.seq vs.toArray _=Data.dict es ep:=d
     cases d'
  have nsK:∀{b:Addr} {m:Str->Option Value},s₁.heap.Ns b m->(Jy s₁.heap H).Ns b m:=fun {b m} ⟨o,es,ep,e,d,r⟩=>⟨o,es,ep,base_of e (noA e d),d,r⟩
  have hKb:K.In (Jy s₁.heap H):=fun b o e=>base_of (KX b o e) (by
   cases q:H b with
   | none=>rfl
   | some u =>
     have e':b=a:=hA b (by rw [q];simp)
     subst e'
     rw [hK (by rw [q];simp)] at e;cases e)
  have hM:Mod K mg (Jy s₁.heap H):=⟨hKb,nsK hns,⟨mb,nsK hb,hbb⟩,let ⟨mc,h1,h2⟩:=hlim;⟨mc,nsK h1,h2⟩⟩
  have e0:Lk P w K mg (Jy s₁.heap H) callerA [] s₁ H:=⟨rfl,hM,fun b o e=>OX e,Nat.le_of_eq (MN _ _),trivial,fun b hb=>absurd (show b∈([]:List Addr) from hb) (by simp),hok,.of_eq hg⟩
  refine codeAny_mono ((F _ hKb (nsK hns)).run callerA [] s₁ H ⟨[.ref a],[]⟩ [.ref a] [.ref a] _ _ hr e0 (hbind s₁ (.ref a)) (.cons rfl .nil) (hsp H hO hS)) fun r s' h=>?_
  cases r with
  | error e=>exact (hCX H e s' h).elim
  | ok fl =>
    cases fl with
    | next=>exact False.elim h
    | brk=>exact False.elim h
    | cont=>exact False.elim h
    | ret u =>
      obtain ⟨v,H',os,bare,un,hok',r',q⟩:=h
      have q':v=.bl true:=q
      subst q'
      obtain rfl:u=Value.bool true:=r'
      refine ⟨rfl,OldK.of_keep fun b o e=>?_,os,bare⟩
      cases q:H b with
      | none=>exact un.keep b o e q (by intro z;exact absurd (show b∈([]:List Addr) from z) (by simp)) (by simp)
      | some u =>
        rcases hO b with z | ⟨ob,xs,z⟩
        ·rw [q] at z;cases z
        ·have z2:=un.frzs b ob _ z
         obtain ⟨e1,_⟩:=hok b _ z
         obtain ⟨e2,_⟩:=hok' b _ z2
         rw [e] at e1;cases e1
         exact e2
 cases hk:K.lookup a with
 | some o =>
   have e:=KX a o hk
   rw [ha] at e
   cases e
   refine core (fun _=>none) (fun _=>.inl rfl) (.inr ⟨_,vs.toArray,_,hk,rfl,rfl,rfl,by rw [List.size_toArray,lenV];exact hl,by simpa using rv⟩) (fun b u z=>by have z':(none:Option HO)=some u:=z;cases z') (fun b z=>absurd rfl z) fun z=>absurd rfl z
 | none =>
   refine core (fun b=>if b=a then some (.frz { cls:=.type "list",data:=.seq vs.toArray } (.lst (ns.map V.int))) else none) (fun b=>?_) (.inl (.inr ⟨{ cls:=.type "list",data:=.seq vs.toArray },if_pos rfl⟩)) (fun b u z=>?_) (fun b z=>?_) fun _=>hk
   ·by_cases hb:b=a
    ·exact .inr ⟨_,_,if_pos hb⟩
    ·exact .inl (if_neg hb)
   ·by_cases hb:b=a
    ·have z':=(if_pos hb).symm.trans z
     cases z'
     subst hb
     exact ⟨ha,by rw [List.length_map];exact hl,vs,_,rv,ha⟩
    ·have z':=(if_neg hb).symm.trans z
     cases z'
   ·by_cases hb:b=a
    ·exact hb
    ·exact absurd (if_neg hb) z
end L2
namespace L2
open PySem PySem.Spec PyProof.Rows
theorem walk_of {l:PySem.W.OpenLaw} {n k:Nat} {q:Program} {loose:List Str} {XP:(Str->Option Value)->Heap->Prop} {YP:World->Heap->Prop} {d:DefRec} {K:Params->PySem.W.Frag} {CX:World->CXT} {sp:World->Sp} {x:Str}
 (hn:l.most=some n) (hn2:n<=sizeLine) (hdf:d.params.defaults=[]) (hr:Da k callerA)
 (hY:∀(w:World) (h:Heap),YP w h->(K w.params).In h)
 (F:∀(w:World) (mg:Str->Option Value) (fa:Addr) (h:Heap),(K w.params).In h->h.Ns mainGlobals mg->mg d.name=some (.ref fa) ->
  ∃fd:FuncData,(∀(s:Shared) (u:Value),BindsTo s fd ⟨[u],[]⟩ [(x,u)]) /\
   ∀base:Heap,(K w.params).In base->base.Ns mainGlobals mg->AO l.prog w (K w.params) mg base (CX w) k fa fd [x] (sp w))
 (hsp:∀(w:World) (H:Hp) (a:Addr) (ns:List Int),ns.length<=n->PY H->SqL (K w.params) H a (ns.map V.int)->sp w [.ref a] H (fun v _=>v=.bl true) fun _ _ _=>False)
 (hCX:∀(w:World) (H:Hp) (s:Shared) (e:Value) (s':Shared),CX w [] H s (fun _ _ _=>False) e s'->False) :
 PySem.W.WalkO q loose XP YP l.row.toRowW d [] (fun f vs=>PySem.call f vs):=by
 refine Att.attach_call hn hdf fun w s₀ s₁ mg mb fa o pm cd doc a vs ns G Y ho hd hcd hmg hobj hints hlen hg=>?_
 have KX:=hY w _ Y
 obtain ⟨fd,hb,hF⟩:=F w mg fa _ KX G.T.g hmg
 exact NM KX G.T.g G.T.b G.T.builtins G.T.nolimit hg hobj hints (Nat.le_trans hlen hn2) hr hF hb (fun H hO hS=>hsp w H a ns hlen hO hS) fun H e s'=>hCX w H s₁ e s'
end L2
namespace L2
open PySem PySem.Spec PyProof.Rows
def Bm (s:Stmt) (j:Nat):Stmt:=match s with
 | .ClassDef _ _ _ body _ _ _ _ _ _ _=>body.getD j (.Pass ⟨0,0,0,0⟩)
 | _=>.Pass ⟨0,0,0,0⟩
noncomputable def Ao (s:Stmt):Arguments:=match s with
 | .FunctionDef _ a _ _ _ _ _ _ _ _=>a
 | _=>{ posonlyargs:=[],args:=[],vararg:=none,kwonlyargs:=[],kw_defaults:=[],kwarg:=none,defaults:=[] }
noncomputable def Am (s:Stmt):List Stmt:=match s with
 | .FunctionDef _ _ b _ _ _ _ _ _ _=>b
 | _=>[]
noncomputable def Af (s:Stmt):Scope:=match s with
 | .FunctionDef _ _ _ _ _ _ sc _ _ _=>sc
 | _=>{ kind:=.function,names:=[],isGenerator:=false,isCoroutine:=false }
abbrev CX0:CXT:=fun _ _ _ _ _ _=>False
abbrev E0:XK:=fun _ _ _=>False
theorem Ap {X:Cx}:EW CX0 X E0:=fun _ _ _ _ _ _ _ h=>h.elim
structure Fun (K:PySem.W.Frag) (x qual:Str) (st:Stmt) (f:Addr) (fd:FuncData):Prop where
 ex:∃(oc:Value) (od:Option Addr) (kV doc pm:Value) (an:Option Addr) (cdv ct:Value) (osl:Array (Option Value)),
  fd=PySem.W.fnOf x qual (Ao st) (Am st) (Af st) .none kV doc pm an cdv ct/\K.lookup f=some ⟨oc,od,.func fd,osl⟩/\PySem.W.codeIn K cdv qual=true
 kp:PySem.W.keepIn K (.ref f)=true
section
variable {P:Program} {w:World} {K:PySem.W.Frag} {mg:Str->Option Value} {base:Heap}
theorem Fun.ok {x qual:Str} {st:Stmt} {f:Addr} {fd:FuncData} {N ps:List Str} {k:Nat} {sp:Sp} (F:Fun K x qual st f fd) (S:As N ps (Af st)) (len:∀vs H Q E,sp vs H Q E->vs.length=ps.length)
 (hbody:∀(cdv:Value) (A:Around) (outer:List Env) (s:Shared) (H:Hp) (vs:List V) (Q:VK) (E:XK),Da k (A.deeper (envOfC qual (Af st) s.heap.objs.size f cdv))->sp vs H Q E ->
  ∃t,PSs (Lv CX0 P w K mg base N qual (Af st) f cdv A outer s H E).nox (Am st) t/\t { nx:=fun _ H'=>Q .non H',rt:=Q } (FL N vs) H):AO P w K mg base CX0 (k+1) f fd ps sp:=by
 obtain ⟨oc,od,kV,doc,pm,an,cdv,ct,osl,rfl,lk,hcd⟩:=F.ex
 refine PC lk hcd S len fun A outer s H vs Q E hr hsp=>?_
 obtain ⟨t,h,q⟩:=hbody cdv A outer s H vs Q E hr hsp
 exact ⟨t,h.nox,q⟩
theorem Fun.binds {x qual:Str} {st:Stmt} {f:Addr} {fd:FuncData} {ps:List Str} (F:Fun K x qual st f fd)
 (h:∀(kV doc pm:Value) (an:Option Addr) (cdv ct:Value) (us:List Value),us.length=ps.length->bindArgs (PySem.W.fnOf x qual (Ao st) (Am st) (Af st) .none kV doc pm an cdv ct) ⟨us,[]⟩=pure (ps.zip us)):A3 K fd ps []:=by
 obtain ⟨oc,od,kV,doc,pm,an,cdv,ct,osl,rfl,lk,hcd⟩:=F.ex
 exact .all (h kV doc pm an cdv ct)
theorem A1 {x qual:Str} {st:Stmt} {f:Addr} {oc:Value} {od an:Option Addr} {osl:Array (Option Value)} {kV doc pm cdv ct:Value} (l:K.lookup f=some ⟨oc,od,.func (PySem.W.fnOf x qual (Ao st) (Am st) (Af st) .none kV doc pm an cdv ct),osl⟩)
 (c:PySem.W.codeIn K cdv qual=true) (k:PySem.W.keepIn K (.ref f)=true):Fun K x qual st f (PySem.W.fnOf x qual (Ao st) (Am st) (Af st) .none kV doc pm an cdv ct):=⟨⟨oc,od,kV,doc,pm,an,cdv,ct,osl,rfl,l,c⟩,k⟩
end
theorem Be {n:Nat} (h:n<=1000):n < sizeLine:=Nat.lt_of_le_of_lt h (by decide)
section
variable {X:Cx}
theorem pv (i:Nat) {x:Str} {pos:Pos} (hN:X.N[i]?=some x:=by rfl) (hv:Vis X.env.scope x:=by first | exact Or.inl rfl | exact Or.inr (Or.inl rfl) | exact Or.inr (Or.inr rfl)) (hd:(x == ("__debug__":Str))=false:=by decide)
 (hcd:(x == ("__classdict__":Str))=false:=by decide):PE X (.Name x pos) (P1 i):=Q0 hN hv hd hcd
end
theorem Qm {A B:Prop} (h:B):if false=true then A else B:=by
 rw [if_neg Bool.false_ne_true]
 exact h
theorem Qn {A B:Prop} (h:A):if true=true then A else B:=by
 rw [if_pos rfl]
 exact h
theorem Fe {c A B:Prop} [Decidable c] (h1:c->A) (h2:¬ c->B):if c then A else B:=by
 by_cases h:c
 ·rw [if_pos h]
  exact h1 h
 ·rw [if_neg h]
  exact h2 h
noncomputable def A0 (H H':Hp):Prop:=∀b o,H b=some o->H' b=some o
theorem A0.refl (H:Hp):A0 H H:=fun _ _ h=>h
theorem A0.trans {H H1 H2:Hp} (a:A0 H H1) (b:A0 H1 H2):A0 H H2:=fun c o h=>b c o (a c o h)
theorem A0.seq {K:PySem.W.Frag} {H H':Hp} {a:Addr} {xs:List V} (e:A0 H H') (h:SqL K H a xs):SqL K H' a xs:=by
 rcases h with (h | ⟨o,h⟩) | h
 ·exact .inl (.inl (e _ _ h))
 ·exact .inl (.inr ⟨o,e _ _ h⟩)
 ·exact .inr h
end L2
namespace L2
open PySem PySem.Spec PyProof.Rows
section
variable {κ:Type} [DecidableEq κ]
noncomputable def Bn (kvs:List (κ × V)) (k:κ):Option V:=(kvs.find? fun kv=>decide (kv.1=k)).map (·.2)
noncomputable def Bj (kvs:List (κ × V)) (k:κ) (v:V):List (κ × V) :=
 if (kvs.any fun kv=>decide (kv.1=k))=true then kvs.map (fun kv=>if kv.1=k then (kv.1,v) else kv) else kvs++[(k,v)]
theorem Cm {p:κ × V} {r:List (κ × V)} {k:κ} (e:p.1=k):Bn (p :: r) k=some p.2:=by simp [Bn,List.find?_cons,e]
theorem Cl {p:κ × V} {r:List (κ × V)} {k:κ} (e:¬ p.1=k):Bn (p :: r) k=Bn r k:=by simp [Bn,List.find?_cons,e]
theorem C1 (k:κ):∀kvs:List (κ × V),(kvs.any fun kv=>decide (kv.1=k))=(Bn kvs k).isSome
 | []=>rfl
 | p :: r=>by
   rw [List.any_cons]
   by_cases e:p.1=k
   ·simp only [Cm e,decide_eq_true e,Bool.true_or,Option.isSome_some]
   ·rw [Cl e,decide_eq_false e,Bool.false_or];exact C1 k r
theorem Lh (k j:κ) (y:V):∀kvs:List (κ × V),Bn (kvs.map fun kv=>if kv.1=k then (kv.1,y) else kv) j=(Bn kvs j).map fun x=>if j=k then y else x
 | []=>rfl
 | p :: r=>by
   have ih:=Lh k j y r
   rw [List.map_cons]
   by_cases h:p.1=k
   ·rw [if_pos h]
    by_cases e:p.1=j
    ·rw [Cm (p:=(p.1,y)) e,Cm e,Option.map_some,if_pos (e.symm.trans h)]
    ·rw [Cl (p:=(p.1,y)) e,Cl e,ih]
   ·rw [if_neg h]
    by_cases e:p.1=j
    ·rw [Cm (p:=p) e,Cm e,Option.map_some,if_neg (fun z=>h (e.trans z))]
    ·rw [Cl (p:=p) e,Cl e,ih]
theorem Jo (k j:κ) (y:V):∀kvs:List (κ × V),Bn kvs k=none->Bn (kvs++[(k,y)]) j=if j=k then some y else Bn kvs j
 | [],_=>by
   by_cases e:k=j
   ·rw [if_pos e.symm];exact Cm (p:=(k,y)) e
   ·rw [if_neg (fun z=>e z.symm)];exact Cl (p:=(k,y)) e
 | p :: r,hn=>by
   rw [List.cons_append]
   have hk:¬ p.1=k:=fun z=>by rw [Cm z] at hn;cases hn
   rw [Cl hk] at hn
   have ih:=Jo k j y r hn
   by_cases e:p.1=j
   ·rw [Cm e,Cm e,if_neg (fun z=>hk (e.trans z))]
   ·rw [Cl e,Cl e,ih]
theorem Iu (kvs:List (κ × V)) (k j:κ) (y:V):Bn (Bj kvs k y) j=if j=k then some y else Bn kvs j:=by
 unfold Bj
 by_cases a:(kvs.any fun kv=>decide (kv.1=k))=true
 ·rw [if_pos a,Lh]
  rw [C1] at a
  by_cases e:j=k
  ·obtain ⟨x,hx⟩:=Option.isSome_iff_exists.mp a
   rw [if_pos e,e,hx,Option.map_some,if_pos rfl]
  ·rw [if_neg e]
   cases Bn kvs j with
   | none=>rfl
   | some x=>rw [Option.map_some,if_neg e]
 ·rw [if_neg a]
  refine Jo k j y kvs ?_
  rw [C1] at a
  cases q:Bn kvs k with
  | none=>rfl
  | some x=>rw [q] at a;exact (a rfl).elim
theorem DJ (kvs:List (κ × V)) (k:κ) (v:V):(Bj kvs k v).length<=kvs.length+1:=by
 unfold Bj
 split
 ·rw [List.length_map];omega
 ·rw [List.length_append,List.length_cons,List.length_nil];omega
theorem Os {kvs:List (κ × V)} {k:κ} (v:V) (h:Bn kvs k=none):Bj kvs k v=kvs++[(k,v)]:=by
 unfold Bj
 rw [C1,h]
 exact if_neg (by decide)
theorem Ew.isSome_eq {o:Option V} {u:Option Value} (r:Ew o u):o.isSome=u.isSome:=by
 cases o with
 | none=>cases u with
   | none=>rfl
   | some _=>exact (show False from r).elim
 | some _=>cases u with
   | none=>exact (show False from r).elim
   | some _=>rfl
theorem Ew.getD {o:Option V} {u:Option Value} {d:V} {d':Value} (r:Ew o u) (rd:AS d d'):AS (o.getD d) (u.getD d'):=by
 cases o with
 | none=>cases u with
   | none=>exact rd
   | some _=>exact (show False from r).elim
 | some _=>cases u with
   | none=>exact (show False from r).elim
   | some _=>exact r
theorem KV.val {kvs:List (κ × V)} {vs:List (κ × Value)} (r:KV kvs vs) (k:κ):Ew (Bn kvs k) (valueAt vs k):=by
 unfold KV at r
 induction r with
 | nil=>exact True.intro
 | @cons p q ps qs h t ih =>
   obtain ⟨h1,h2⟩:=h
   by_cases e:p.1=k
   ·have e':q.1=k:=h1.symm.trans e
    have b:valueAt (q :: qs) k=some q.2:=by simp [valueAt,List.find?_cons,e']
    rw [Cm e,b];exact h2
   ·have e':¬ q.1=k:=fun z=>e (h1.trans z)
    have b:valueAt (q :: qs) k=valueAt qs k:=by simp [valueAt,List.find?_cons,e']
    rw [Cl e,b];exact ih
theorem KV.any {kvs:List (κ × V)} {vs:List (κ × Value)} (r:KV kvs vs) (k:κ):(kvs.any fun kv=>decide (kv.1=k))=vs.any fun kv=>decide (kv.1=k):=by
 unfold KV at r
 induction r with
 | nil=>rfl
 | cons h t ih=>rw [List.any_cons,List.any_cons,ih,h.1]
theorem KV.repl {kvs:List (κ × V)} {vs:List (κ × Value)} (r:KV kvs vs) (k:κ) {y:V} {u:Value} (ry:AS y u) :
 KV (kvs.map fun kv=>if kv.1=k then (kv.1,y) else kv) (vs.map fun kv=>if kv.1=k then (kv.1,u) else kv):=by
 unfold KV at r ⊢
 induction r with
 | nil=>exact .nil
 | @cons p q ps qs h t ih =>
   rw [List.map_cons,List.map_cons]
   refine .cons ?_ ih
   obtain ⟨h1,h2⟩:=h
   by_cases e:p.1=k
   ·rw [if_pos e,if_pos (h1.symm.trans e)];exact ⟨h1,ry⟩
   ·rw [if_neg e,if_neg (fun z=>e (h1.trans z))];exact ⟨h1,h2⟩
theorem KV.put {kvs:List (κ × V)} {vs:List (κ × Value)} (r:KV kvs vs) (k:κ) {y:V} {u:Value} (ry:AS y u):KV (Bj kvs k y) (stored vs k u):=by
 unfold Bj stored
 rw [r.any k]
 by_cases e:(vs.any fun kv=>decide (kv.1=k))=true
 ·rw [if_pos e,if_pos e];exact r.repl k ry
 ·rw [if_neg e,if_neg e];exact Paired.snoc r ⟨rfl,ry⟩
theorem KV.length {kvs:List (κ × V)} {vs:List (κ × Value)} (r:KV kvs vs):kvs.length=vs.length:=Paired.length r
end
theorem Mg {P:Program} {w:World} {k:Key} {u:Value} (r:AS (kV k) u):(BC P w).is k u=true:=by
 cases k with
 | inl i=>obtain ⟨t,e⟩:=(show ∃t,u=Value.int i t from r);subst e;exact Kp P w i t
 | inr x=>obtain ⟨t,e⟩:=(show ∃t,u=Value.str x t from r);subst e;exact Kq P w x t
theorem IT {P:Program} {w:World}:∀{ks:List Key} {us:List Value},AJ (ks.map kV) us->ItemsAre (BC P w) ks us
 | [],_,r=>by rw [List.map_nil] at r;cases r;exact .nil
 | k :: ks,_,r=>by
   rw [List.map_cons] at r
   cases r with
   | cons h t=>exact .cons (Mg h) (IT t)
abbrev KT (H:Hp):List (List Key × V)->List (List Key × Addr × Value)->Prop:=Paired fun p q=>p.1=q.1/\H q.2.1=some (.tup (p.1.map kV))/\AS p.2 q.2.2
theorem KT.val {H:Hp} {kvs:List (List Key × V)} {xs:List (List Key × Addr × Value)} (r:KT H kvs xs) (k:List Key):Ew (Bn kvs k) ((atKey xs k).map (·.2)):=by
 induction r with
 | nil=>exact True.intro
 | @cons p q ps qs h t ih =>
   obtain ⟨h1,_,h2⟩:=h
   by_cases e:p.1=k
   ·have e':q.1=k:=h1.symm.trans e
    have b:atKey (q :: qs) k=some q.2:=by simp [atKey,List.find?_cons,e']
    rw [Cm e,b];exact h2
   ·have e':¬ q.1=k:=fun z=>e (h1.trans z)
    have b:atKey (q :: qs) k=atKey qs k:=by simp [atKey,List.find?_cons,e']
    rw [Cl e,b];exact ih
theorem KT.repl {H:Hp} {kvs:List (List Key × V)} {xs:List (List Key × Addr × Value)} (r:KT H kvs xs) (k:List Key) {y:V} {u:Value} (ry:AS y u) :
 KT H (kvs.map fun kv=>if kv.1=k then (kv.1,y) else kv) (xs.map (putAt k u)):=by
 induction r with
 | nil=>exact .nil
 | @cons p q ps qs h t ih =>
   rw [List.map_cons,List.map_cons]
   refine .cons ?_ ih
   obtain ⟨h1,h2,h3⟩:=h
   unfold putAt
   by_cases e:p.1=k
   ·rw [if_pos e,if_pos (h1.symm.trans e)];exact ⟨h1,h2,ry⟩
   ·rw [if_neg e,if_neg (fun z=>e (h1.trans z))];exact ⟨h1,h2,h3⟩
theorem KT.put {H:Hp} {kvs:List (List Key × V)} {xs:List (List Key × Addr × Value)} (r:KT H kvs xs) (k:List Key) {b:Addr} {y:V} {u:Value} (hb:H b=some (.tup (k.map kV))) (ry:AS y u) :
 KT H (Bj kvs k y) (storedH xs k b u):=by
 have e:(kvs.any fun kv=>decide (kv.1=k))=(atKey xs k).isSome:=by
  rw [C1,(r.val k).isSome_eq,Option.isSome_map]
 unfold Bj storedH
 rw [e]
 by_cases q:(atKey xs k).isSome=true
 ·rw [if_pos q,if_pos q];exact r.repl k ry
 ·rw [if_neg q,if_neg q];exact Paired.snoc r ⟨rfl,hb,ry⟩
theorem KT.keeps {H H':Hp} {kvs:List (List Key × V)} {xs:List (List Key × Addr × Value)} (r:KT H kvs xs) (ht:∀b ys,H b=some (.tup ys)->H' b=some (.tup ys)):KT H' kvs xs :=
 Paired.mapP r fun _ _ z=>⟨z.1,ht _ _ z.2.1,z.2.2⟩
section
variable {P:Program} {w:World} {H:Hp} {h:Heap} {a:Addr}
theorem PL {u:HO} (ok:HOk P w H h) (e:Rd H a u):Bx P w H h a u:=e.ok ok
theorem Kg {kvs:List (Key × V)} (ok:HOk P w H h) (e:Rd H a (.dK kvs)):kvs.length<=sizeLine/\(a == sysModules)=false/\∃vs,KV kvs vs/\h.DictOf (BC P w) a vs :=
 show Bx P w H h a (.dK kvs) from PL ok e
theorem QS {kvs:List (Key × V)} (ok:HOk P w H h) (e:H a=some (.dK kvs)):kvs.length<=sizeLine/\(a == sysModules)=false/\∃vs,KV kvs vs/\h.DictOf (BC P w) a vs:=Kg ok (.inl e)
theorem GY {ks:List Key} (ok:HOk P w H h) (e:H a=some (.tup (ks.map kV))):(tupleKind (BC P w)).is h ks a:=by
 obtain ⟨_,its,r,o,h1,h2,n,h3⟩:=(show Bx P w H h a (.tup (ks.map kV)) from ok a _ e)
 exact ⟨o,its.toArray,n,h1,h2,h3,by simpa using IT r⟩
theorem GT {kvs:List (List Key × V)} (ok:HOk P w H h) (e:Rd H a (.dT kvs)):kvs.length<=sizeLine/\(a == sysModules)=false /\
 ∃xs,KT H kvs xs/\h.DictOfH (tupleKind (BC P w)) a xs:=by
 obtain ⟨z,y,xs,r,o,es,ep,h1,h2,h3,h4,h5⟩:=(show Bx P w H h a (.dT kvs) from PL ok e)
 refine ⟨z,y,xs,r,o,es,ep,h1,h2,h3,h4,fun x hx=>?_,h5⟩
 have all:∀{l:List (List Key × V)} {m:List (List Key × Addr × Value)},KT H l m->∀x∈m,(tupleKind (BC P w)).is h x.1 x.2.1:=by
  intro l m q
  induction q with
  | nil=>intro x hx;exact nomatch hx
  | @cons p q ps qs hq t ih =>
    intro x hx
    rcases List.mem_cons.mp hx with e | hx
    ·subst e
     exact GY ok (by rw [<- hq.1];exact hq.2.1)
    ·exact ih x hx
 exact all r x hx
theorem P8 {kvs:List (List Key × V)} (ok:HOk P w H h) (e:H a=some (.dT kvs)):kvs.length<=sizeLine/\(a == sysModules)=false /\
 ∃xs,KT H kvs xs/\h.DictOfH (tupleKind (BC P w)) a xs:=GT ok (.inl e)
end
noncomputable def Ev (H:Hp) (a:Addr) (y:V) (r:Option V):Prop :=
 (∃kvs k,Rd H a (.dK kvs)/\y=kV k/\r=Bn kvs k)\/∃kvs k b,Rd H a (.dT kvs)/\y=.ref b/\H b=some (.tup (k.map kV))/\r=Bn kvs k
noncomputable def FO (H:Hp) (a:Addr) (y v:V) (H':Hp):Prop :=
 (∃kvs k,H a=some (.dK kvs)/\y=kV k/\kvs.length < sizeLine/\H'=upd H a (.dK (Bj kvs k v))) \/
 ∃kvs k b,H a=some (.dT kvs)/\y=.ref b/\H b=some (.tup (k.map kV))/\kvs.length < sizeLine/\H'=upd H a (.dT (Bj kvs k v))
theorem Ev.t {H:Hp} {a b:Addr} {kvs:List (List Key × V)} {k:List Key} (e:H a=some (.dT kvs)) (eb:H b=some (.tup (k.map kV))):Ev H a (.ref b) (Bn kvs k):=.inr ⟨kvs,k,b,.inl e,rfl,eb,rfl⟩
theorem FO.t {H:Hp} {a b:Addr} {kvs:List (List Key × V)} {k:List Key} {v:V} (e:H a=some (.dT kvs)) (eb:H b=some (.tup (k.map kV))) (hl:kvs.length < sizeLine) :
 FO H a (.ref b) v (upd H a (.dT (Bj kvs k v))):=.inr ⟨kvs,k,b,e,rfl,eb,hl,rfl⟩
section
variable {X:Cx} {pins:List (Addr × Obj)} {σ:St} {H:Hp} {s:Shared} {a:Addr} {y v:V} {u r:Value} {o:Option V} {A:Around} {E:Value->Shared->Prop}
theorem Inv.big (I:Inv X pins σ H s):sysModules < s.heap.objs.size:=by
 have h:mainGlobals < s.heap.objs.size:=(I.mod.glob.keeps I.bk).lt
 exact Nat.lt_trans (by decide) h
theorem MF {Q:Value->Shared->Prop} (hu:A.units+1 < cLine) (I:Inv X pins σ H s) (g:Ev H a y (some v)) (ry:AS y u) (h:∀w' s',Inv X pins σ H s'->AS v w'->Q w' s') :
 wpAny (model X.prog X.w) A (getItem (.ref a) u) Q E s:=by
 rcases g with ⟨kvs,k,e,ey,l⟩ | ⟨kvs,k,b,e,ey,eb,l⟩
 ·subst ey
  obtain ⟨z,hd,vs,rel,dd⟩:=Kg I.hok e
  obtain ⟨w',hw,rw'⟩:=Ew.some_of (v:=v) (o:=valueAt vs k) (by rw [l];exact rel.val k)
  exact wpAny_getItem_of (Mg ry) dd.mapOf hw (h w' _ (I.tok _) rw')
 ·subst ey
  cases (show u=Value.ref b from ry)
  obtain ⟨z,hd,xs,rel,dd⟩:=GT I.hok e
  obtain ⟨w',hw,rw'⟩:=Ew.some_of (v:=v) (o:=(atKey xs k).map (·.2)) (by rw [l];exact rel.val k)
  obtain ⟨p,hp,hp2⟩:=Option.map_eq_some_iff.mp hw
  refine wpAny_getItem_heap (tupleKind_room_in1 hu) (GY I.hok eb) dd hp ?_
  rw [hp2]
  exact h w' _ (I.tok _) rw'
theorem Ju {h':Heap} {t':Nat} {ob:HO} (I:Inv X pins σ H s) (mu:Mut (H a)) (hs:Heap.SameBut a s.heap h') (he:∃q,h'.get? a=some q) (new:Bx X.prog X.w (upd H a ob) h' a ob) :
 Inv X pins σ (upd H a ob) { s with heap:=h',toks:=t' } :=
 I.write (x:=a) (e:=a) mu (.inl rfl) (fun b q hb z=>(hs.2 b hb).trans z) he new
theorem Qe {P:Program} {w:World} {H':Hp} {h':Heap} {kvs:List (Key × V)} {vs:List (Key × Value)} (z:kvs.length<=sizeLine) (hd:(a == sysModules)=false) (rel:KV kvs vs) (dd:h'.DictOf (BC P w) a vs) :
 Bx P w H' h' a (.dK kvs):=⟨z,hd,vs,rel,dd⟩
theorem MG {H':Hp} {Q:Unit->Shared->Prop} (hu:A.units+1 < cLine) (I:Inv X pins σ H s) (g:FO H a y v H') (ry:AS y u) (rv:AS v r) (h:∀s',Inv X pins σ H' s'->Q () s') :
 wpAny (model X.prog X.w) A (setItem (.ref a) u r) Q E s:=by
 rcases g with ⟨kvs,k,e,ey,l,eH⟩ | ⟨kvs,k,b,e,ey,eb,l,eH⟩
 ·subst ey eH
  obtain ⟨z,hd,vs,rel,dd⟩:=QS I.hok e
  have hz:vs.length<=sizeLine:=by rw [<- rel.length];exact z
  have hl:(Bj kvs k v).length<=sizeLine:=by have:=DJ kvs k v;omega
  refine wpAny_setItem_pairs (hsz:=hz) (Mg ry) dd fun h' dd' hs=>h _ ?_
  have he:∃q,h'.get? a=some q:=let ⟨q,_,_,hq,_⟩:=dd';⟨q,hq⟩
  exact Ju I (by rw [e];exact True.intro) hs he (Qe hl hd (rel.put k rv) dd')
 ·subst ey eH
  cases (show u=Value.ref b from ry)
  obtain ⟨z,hd,xs,rel,dd⟩:=P8 I.hok e
  have hz:xs.length<=sizeLine:=by rw [<- Paired.length rel];exact z
  have hl:(Bj kvs k v).length<=sizeLine:=by have:=DJ kvs k v;omega
  refine wpAny_setItem_heap (hsz:=hz) (tupleKind_room_in1 hu) (GY I.hok eb) dd fun h' dd' hs=>h _ ?_
  obtain ⟨q,es,ep,hq,h2,h3,h4,_,h5⟩:=dd'
  refine Ju I (by rw [e];exact True.intro) hs ⟨q,hq⟩ ⟨hl,hd,_,(rel.put k eb rv).keeps fun c ys ec=>?_,q,es,ep,hq,h2,h3,h4,h5⟩
  rw [Ay (Ds ec e (fun z=>nomatch z))]
  exact ec
end
section
variable {X:Cx} {pins:List (Addr × Obj)} {σ:St} {H:Hp} {s:Shared} {a:Addr} {kvs:List (Key × V)} {k:Key} {u:Value} {A:Around} {E:Value->Shared->Prop}
end
noncomputable def QM (i:Expr):Prop:=∀ov iv,subscripted i false ov iv=operate [ov,iv] (getItem ov iv)
theorem Pw {prog:Program} {w:World} {A:Around} {E:Value->Shared->Prop} {s:Shared} {env:Env} {value slice:Expr} {pos:Pos} {T id:String} {Q:Value->Shared->Prop}
 (hl:typeLookup (.type T) "__getitem__"=pure (some (.builtin id))) (hs:QM slice)
 (h:wpAny (model prog w) A (eval value env) (fun o s₁=>wpAny (model prog w) A (eval slice env) (fun i s₂=>s₂.TypeIs o T/\wpAny (model prog w) A (getItem o i) Q E s₂) E s₁) E s) :
 wpAny (model prog w) A (eval (.Subscript value slice pos) env) Q E s:=by
 refine Subscript_ (wpAny_mono h (fun o s₁ h₁=>wpAny_mono h₁ (fun i s₂ h₂=>?_) fun _ _ x=>x) fun _ _ x=>x)
 obtain ⟨hT,h₂⟩:=h₂
 unfold subscriptTail
 refine wpAny_bind ?_
 rw [getitemInPython_of_ne hT.not_modules]
 refine wpAny_bind (wpAny_specialOf hT hl ?_)
 have fin:wpAny (model prog w) A (subscripted slice false o i) (fun r s₃=>wpAny (model prog w) A (letTemporaryGo value o r >>= fun _=>pure r) Q E s₃) E s₂:=by
  rw [hs o i]
  exact wpAny_operating (wpAny_mono h₂ (fun r s₃ h₃=>wpAny_bind (wpAny_letTemporaryGo (wpAny_pure h₃))) fun _ _ x=>x)
 first
  | exact wpAny_pure (wpAny_bind fin)
  | exact wpAny_bind (wpAny_pure (wpAny_bind fin))
  | exact wpAny_bind fin
theorem Kf {X:Cx} {pins:List (Addr × Obj)} {σ:St} {H:Hp} {s:Shared} {a:Addr} {y:V} {o:Option V} (I:Inv X pins σ H s) (g:Ev H a y o):s.TypeIs (.ref a) "dict":=by
 rcases g with ⟨kvs,k,e,_,_⟩ | ⟨kvs,k,b,e,_,_,_⟩
 ·obtain ⟨_,_,vs,_,dd⟩:=Kg I.hok e
  exact dd.typeIs
 ·obtain ⟨_,_,xs,_,dd⟩:=GT I.hok e
  exact dd.typeIs
noncomputable def Rv (td ty:TE):TE:=fun σ H Q=>td σ H fun x H1=>ty σ H1 fun y H2=>∃a v,x=.ref a/\Ev H2 a y (some v)/\Q v H2
noncomputable def Rm (td ty tv:TE):TS:=fun D σ H=>tv σ H fun v H1=>td σ H1 fun x H2=>ty σ H2 fun y H3=>∃a H4,x=.ref a/\FO H3 a y v H4/\D.nx σ H4
section
variable {X:Cx} {o i e value:Expr} {pos pos' tpos:Pos} {td ty tv:TE}
theorem Dx (hu:X.A.units+1 < cLine) (ho:PE X o td) (hi:PE X i ty) (hs:QM i):PE X (.Subscript o i pos) (Rv td ty):=by
 intro pins s σ H Q I h
 refine Pw PySem.F.slot_dict_getitem.lookup hs (thn (ho pins s σ H _ I h) fun u s1 ⟨x,H1,I1,rx,q1⟩=>thn (hi pins s1 σ H1 _ I1 q1) fun iv s2 ⟨y,H2,I2,ry,a,v,ex,g,q2⟩=>?_)
 subst ex
 obtain rfl:u=Value.ref a:=rx
 exact ⟨Kf I2 g,MF hu I2 g ry fun w' s3 I3 rw'=>⟨v,H2,I3,rw',q2⟩⟩
theorem EJ (hu:X.A.units+1 < cLine) (ho:PE X o td) (hi:PE X i ty) (hv:PE X value tv) (hs:swapsWith value (some (.Subscript o i pos')) pos.line X.env=pure false) :
 PS X (.Assign [.Subscript o i pos'] value pos) (Rm td ty tv):=by
 intro pins s σ H D I h
 refine wpAny_Assign_Subscript (thn (hv pins s σ H _ I h) fun r s1 ⟨v,H1,I1,rv,q1⟩=>thn (ho pins s1 σ H1 _ I1 q1) fun u s2 ⟨x,H2,I2,rx,q2⟩=>thn (hi pins s2 σ H2 _ I2 q2) fun iv s3 ⟨y,H3,I3,ry,a,H4,ex,g,q3⟩=>?_) hs
 subst ex
 obtain rfl:u=Value.ref a:=rx
 exact MG hu I3 g ry rv fun s4 I4=>⟨σ,H4,I4,q3⟩
end
theorem Kh {P:Program} {w:World} {H:Hp} (h:Heap) (hb:sysModules < h.objs.size):Bx P w H (h.push { cls:=.type "dict",data:=.dict #[] }) h.objs.size (.dT []) :=
 ⟨Nat.zero_le _,beq_eq_false_iff_ne.mpr (Ne.symm (Nat.ne_of_lt hb)),[],.nil,_,#[],0,Heap.get?_push_size _ rfl,⟨rfl,rfl,rfl⟩,rfl,rfl,List.nodup_nil⟩
noncomputable def QF:TE:=fun _ H Q=>∀p,H p=none->Q (.ref p) (upd H p (.dT []))
section
variable {X:Cx} {pos:Pos}
theorem Oh:PE X (.Dict [] [] pos) QF:=fun pins s σ H Q I h =>
 wpAny_Dict_empty ⟨.ref s.heap.objs.size,_,I.laid (a:=s.heap.objs.size) (o:=.dT []) (t':=s.toks) (fun _ _ q=>Heap.get?_push_of_some _ q) (Nat.le_refl _) (Kh s.heap I.big),rfl,h _ (I.hok.fresh (Nat.le_refl _))⟩
end
structure M2 (X:Cx) (o:Expr) (m:Str) (apos:Pos) (e f:Expr) (cpos:Pos):Prop where
 base:attributeBase o m X.env (eval o X.env)=eval o X.env
 few:((backTo cpos (starEach [e,f] X.env)).all (fun x=>!x.1) && (backToKw cpos (keywordEach [] X.env)).all (fun x=>x.1.isSome)
  && decide (([e,f]:List Expr).length+([]:List Keyword).length+(if ([]:List Keyword).isEmpty then 0 else 1) < 30))=true
 line:(apos.endLine == cpos.line)=true
 trees:backTo cpos (starEach [e,f] X.env)=[(false,eval e X.env),(false,eval f X.env)]
noncomputable def IsD (H:Hp) (a:Addr):Prop:=(∃kvs,Rd H a (.dK kvs))\/∃kvs,Rd H a (.dT kvs)
theorem Ql {X:Cx} {pins:List (Addr × Obj)} {σ:St} {H:Hp} {s:Shared} {a:Addr} (I:Inv X pins σ H s) (d:IsD H a) :
 s.TypeIs (.ref a) "dict"/\(∀b,Value.ref a=.ref b->∃ob,s.heap.get? b=some ob/\ob.dict=none)/\(a == sysModules)=false:=by
 rcases d with ⟨kvs,e⟩ | ⟨kvs,e⟩
 ·obtain ⟨_,hd,vs,_,dd⟩:=Kg I.hok e
  refine ⟨dd.typeIs,fun b q=>?_,hd⟩
  cases q
  obtain ⟨ob,_,_,h1,h2,_⟩:=dd
  exact ⟨ob,h1,h2.2.1⟩
 ·obtain ⟨_,hd,xs,_,dd⟩:=GT I.hok e
  refine ⟨dd.typeIs,fun b q=>?_,hd⟩
  cases q
  obtain ⟨ob,_,_,h1,h2,_⟩:=dd
  exact ⟨ob,h1,h2.2.1⟩
section
variable {X:Cx} {pins:List (Addr × Obj)} {σ:St} {H:Hp} {s:Shared} {a:Addr} {y d:V} {u r:Value} {o:Option V} {A:Around} {E:Value->Shared->Prop}
theorem Qd {Q:Value->Shared->Prop} (hu:A.units+1 < cLine) (I:Inv X pins σ H s) (g:Ev H a y o) (ry:AS y u) (rd:AS d r) (h:∀w' s',Inv X pins σ H s'->AS (o.getD d) w'->Q w' s') :
 wpAny (model X.prog X.w) A (call (.builtin "dict.get") [.ref a,u,r]) Q E s:=by
 rcases g with ⟨kvs,k,e,ey,l⟩ | ⟨kvs,k,b,e,ey,eb,l⟩
 ·subst ey
  obtain ⟨z,hd,vs,rel,dd⟩:=Kg I.hok e
  refine call_meetsIn PySem.F.slot_dict_get dd.typeIs PySem.F.entry_dict_get (PySem.F.args_dict_get_3 _ _ _) (meets_dict_get_default (BC X.prog X.w) a (Mg ry) hd r) ⟨_,dd.mapOf,h _ _ (I.tok _) ?_⟩
  rw [l]
  exact (rel.val k).getD rd
 ·subst ey
  cases (show u=Value.ref b from ry)
  obtain ⟨z,hd,xs,rel,dd⟩:=GT I.hok e
  refine call_meetsIn PySem.F.slot_dict_get dd.typeIs PySem.F.entry_dict_get (PySem.F.args_dict_get_3 _ _ _) (meetsH_dict_get_default (tupleKind (BC X.prog X.w)) a b hd r) ⟨tupleKind_room_in1 hu,k,xs,GY I.hok eb,dd,h _ _ (I.tok _) ?_⟩
  rw [l]
  exact (rel.val k).getD rd
end
noncomputable def QE (td ty tx:TE):TE:=fun σ H Q=>td σ H fun x H1=>∃a,x=.ref a/\IsD H1 a/\ty σ H1 fun y H2=>tx σ H2 fun z H3=>∃o,Ev H3 a y o/\Q (o.getD z) H3
section
variable {X:Cx} {o e f:Expr} {apos cpos:Pos} {td ty tx:TE}
theorem FD (hu:X.A.units+1 < cLine) (ho:PE X o td) (he:PE X e ty) (hf:PE X f tx) (m:M2 X o "get" apos e f cpos):PE X (.Call (.Attribute o "get" apos) [e,f] [] cpos) (QE td ty tx):=by
 intro pins s σ H Q I h
 refine wpAny_Call_method m.base m.few m.line PySem.F.plainAttrs_dict PySem.F.slot_dict_get PySem.F.type_dict_get (thn (ho pins s σ H _ I h) fun u s1 ⟨x,H1,I1,rx,a,ex,d,q1⟩=>?_)
 subst ex
 obtain rfl:u=Value.ref a:=rx
 obtain ⟨t1,t2,_⟩:=Ql I1 d
 refine ⟨t1,t2,?_⟩
 rw [m.trees]
 refine Calls.callWith_builtin rfl (Calls.evalArgs_plain (Calls.spliced_cons (thn (he pins s1 σ H1 _ I1 q1) fun iv s2 ⟨y,H2,I2,ry,q2⟩ =>
  Calls.spliced_cons (thn (hf pins s2 σ H2 _ I2 q2) fun fv s3 ⟨z,H3,I3,rz,ov,g,q3⟩=>Calls.spliced_nil ?_))))
 exact Qd hu I3 g ry rz fun w' s4 I4 rw'=>⟨_,H3,I4,rw',q3⟩
end
section
variable {X:Cx} {pins:List (Addr × Obj)} {σ:St} {H:Hp} {s:Shared} {a:Addr} {kvs:List (Key × V)} {A:Around} {E:Value->Shared->Prop}
end
section
variable {X:Cx} {pins:List (Addr × Obj)} {σ:St} {H:Hp} {s:Shared} {a:Addr} {y:V} {u:Value} {A:Around} {E:Value->Shared->Prop}
end
end L2
namespace L2
open PySem PySem.Spec PyProof.Rows
section
variable {κ:Type} [DecidableEq κ]
theorem OI {kvs:List (κ × V)} {k:κ} (h:Bn kvs k=none):¬ k∈kvs.map (·.1):=by
 intro m
 obtain ⟨p,hp,e⟩:=List.mem_map.mp m
 have q:(kvs.any fun kv=>decide (kv.1=k))=true:=List.any_eq_true.mpr ⟨p,hp,decide_eq_true e⟩
 rw [C1,h] at q
 exact absurd q (by simp)
theorem P4 {kvs:List (κ × V)} {k:κ} {v:V} (h:Bn kvs k=some v):k∈kvs.map (·.1):=by
 have q:(kvs.any fun kv=>decide (kv.1=k))=true:=by
  rw [C1,h]
  all_goals rfl
 obtain ⟨p,hp,e⟩:=List.any_eq_true.mp q
 exact List.mem_map.mpr ⟨p,hp,of_decide_eq_true e⟩
end
end L2
namespace L2
open PySem PySem.Spec PyProof.Rows
noncomputable def Sz (n:Nat) (x:Int):Prop:=x.natAbs < 2 ^ n
section
variable {m n:Nat} {x y:Int}
theorem Sz.bits (h:Sz n x):Builtin.Int.intBits x<=n:=intBits_le_iff.mpr h
theorem Sz.of_bits (h:Builtin.Int.intBits x<=n):Sz n x:=intBits_le_iff.mp h
theorem Sz.mono (h:Sz m x) (l:m<=n):Sz n x:=.of_bits (Nat.le_trans h.bits l)
theorem Sz.mul (h:Sz m x) (k:Sz n y):Sz (m+n) (x*y):=.of_bits (intBits_mul_le h.bits k.bits)
theorem Sz.add (h:Sz m x) (k:Sz n y):Sz (max m n+1) (x+y):=.of_bits (intBits_add_le h.bits k.bits)
theorem Sz.sub (h:Sz m x) (k:Sz n y):Sz (max m n+1) (x - y):=.of_bits (intBits_sub_le h.bits k.bits)
theorem Sz.neg (h:Sz m x):Sz m (-x):=.of_bits (intBits_neg_le h.bits)
theorem Sz.fdiv (h:Sz m x):Sz m (x.fdiv y):=.of_bits (intBits_fdiv_le h.bits)
theorem szd (n:Nat) {x:Int} (h:decide (x.natAbs < 2 ^ n)=true:=by decide +kernel):Sz n x:=(show x.natAbs < 2 ^ n from of_decide_eq_true h)
theorem Bp (h:-(2 ^ n:Nat) < x) (k:x < (2 ^ n:Nat)):Sz n x:=by
 unfold Sz
 generalize 2 ^ n=p at h k ⊢
 omega
end
noncomputable def LQ (i j:Int):Prop:=∃m n,Sz m i/\Sz n j/\m+n<=134217728
theorem QZ {i j:Int} {m n:Nat} (h:Sz m i) (k:Sz n j) (l:decide (m+n<=134217728)=true:=by decide +kernel):LQ i j:=⟨m,n,h,k,of_decide_eq_true l⟩
noncomputable def QJ (_ j:Int):Prop:=j≠0/\Sz 9000 j
section
variable {X:Cx}
theorem Cc:OpR X (binaryOp .Mult) (rI LQ fun i j=>.int (i*j)):=opI fun _ _ _ _ _ _ _ hc q =>
 mul_int q (let ⟨_,_,a,b,c⟩:=hc;IntMulOk.of_le a.bits b.bits c)
theorem AY:OpR X (binaryOp .FloorDiv) (rI QJ fun i j=>.int (i.fdiv j)):=opI fun _ j _ _ _ _ _ hc q =>
 floordiv_int hc.1 q (.inl (PyProof.noPylong_of_log2 ((Nat.log2_lt (by have:=hc.1;omega)).mpr hc.2)))
theorem I0 {x y:Int} (h:Sz 13500 x):Builtin.divisionGoesByPylong x y=false:=by
 have key:(if x == 0 then 0 else x.natAbs.log2 / 30+1)<=450:=by
  by_cases hy:(x == 0)=true
  ·rw [if_pos hy];exact Nat.zero_le _
  ·rw [if_neg hy]
   have nz:x.natAbs≠0:=by
    have:¬ x=0:=fun e=>hy (by rw [e];rfl)
    omega
   have:=(Nat.log2_lt nz).mpr h
   omega
 show (decide ((if y == 0 then 0 else y.natAbs.log2 / 30+1) > 300) && decide ((if x == 0 then 0 else x.natAbs.log2 / 30+1) > (if y == 0 then 0 else y.natAbs.log2 / 30+1)+150))=false
 generalize (if y == 0 then 0 else y.natAbs.log2 / 30+1)=dy
 generalize (if x == 0 then 0 else x.natAbs.log2 / 30+1)=dx at key
 by_cases c:dy > 300
 ·rw [decide_eq_false (show ¬ dx > dy+150 by omega),Bool.and_false]
 ·rw [decide_eq_false c,Bool.false_and]
theorem FA:OpR X (binaryOp .FloorDiv) (rI (fun i j=>j≠0/\Sz 13500 i) fun i j=>.int (i.fdiv j)):=opI fun _ _ _ _ _ _ _ hc q=>floordiv_int hc.1 q (.inl (I0 hc.2))
theorem Ka (ns ms:List Int):((List.range (min ns.length ms.length)).all (fun j=>ns.getD j 0 == ms.getD j 0) && ns.length == ms.length)=decide (ns=ms):=by
 rw [Bool.eq_iff_iff]
 simp only [Bool.and_eq_true,List.all_eq_true,List.mem_range,beq_iff_eq,decide_eq_true_eq]
 constructor
 ·rintro ⟨h,l⟩
  refine List.ext_getElem l fun i h1 h2=>?_
  have:=h i (by omega)
  simpa [List.getD_eq_getElem?_getD,h1,h2] using this
 ·rintro rfl
  exact ⟨fun _ _=>rfl,rfl⟩
theorem Qv (hu:X.A.units < cLine):OpR X (compareOp .Eq) (fun x y H Q=>∃(a b:Addr) (ns ms:List Int),x=.ref a/\y=.ref b/\SqT X.K H a (ns.map V.int)/\SqT X.K H b (ms.map V.int)/\Q (.bl (decide (ns=ms))) H):=by
 intro pins s σ H x y v u Q I rx ry h
 obtain ⟨a,b,ns,ms,rfl,rfl,ha,hb,q⟩:=h
 cases rx
 cases ry
 obtain ⟨its,rv,ht,_⟩:=I.tuple ha
 obtain ⟨its2,rv2,ht2,_⟩:=I.tuple hb
 have l1:ns.length=its.length:=by rw [<- rv.length,List.length_map]
 have l2:ms.length=its2.length:=by rw [<- rv2.length,List.length_map]
 refine SeqAt.eq_tupleAt (e:=fun j=>ns.getD j 0 == ms.getD j 0) (show s.heap.IsTuple a its.toArray from ht) (show s.heap.IsTuple b its2.toArray from ht2) hu (fun j h1 h2=>?_) ?_
 ·have h1':j < ns.length:=by rw [l1];simpa using h1
  have h2':j < ms.length:=by rw [l2];simpa using h2
  obtain ⟨u1,e1,r1⟩:=rv.get (i:=j) (x:=.int ns[j]) (by rw [List.getElem?_map,List.getElem?_eq_getElem h1'] <;> rfl)
  obtain ⟨u2,e2,r2⟩:=rv2.get (i:=j) (x:=.int ms[j]) (by rw [List.getElem?_map,List.getElem?_eq_getElem h2'] <;> rfl)
  obtain ⟨t1,rfl⟩:=r1
  obtain ⟨t2,rfl⟩:=r2
  have f1:its.toArray[j]=.int ns[j] t1:=by
   have:=(List.getElem?_eq_some_iff.mp e1).2
   simpa using this
  have f2:its2.toArray[j]=.int ms[j] t2:=by
   have:=(List.getElem?_eq_some_iff.mp e2).2
   simpa using this
  rw [f1,f2]
  have g1:ns.getD j 0=ns[j]:=by simp [List.getD_eq_getElem?_getD,h1']
  have g2:ms.getD j 0=ms[j]:=by simp [List.getD_eq_getElem?_getD,h2']
  show SeqAt.EqAt X.A.in1 s (.int ns[j] t1) (.int ms[j] t2) (ns.getD j 0 == ms.getD j 0)
  rw [g1,g2]
  exact SeqAt.EqAt.int_int _ _ _ _
 ·have e:((List.range (min its.toArray.size its2.toArray.size)).all (fun j=>ns.getD j 0 == ms.getD j 0) && its.toArray.size == its2.toArray.size)=decide (ns=ms):=by
   rw [List.size_toArray,List.size_toArray,<- l1,<- l2]
   exact Ka ns ms
  rw [e]
  exact ⟨.bl _,H,I,rfl,q⟩
theorem BR:CP X (.builtin "isinstance") (fun xs H Q=>∃x t c b,xs=[x,.ty c]/\Dp X.K H x t/\PySem.W.kitOne X.K t (.type c)=some b/\Q (.bl b) H):=by
 intro pins s σ H xs us Q I rv h
 obtain ⟨x,t,c,b,rfl,ty,e,q⟩:=h
 obtain ⟨u,u',rfl,r1,r2⟩:=M8 rv
 cases (show u'=Value.type c from r2)
 exact MQ I r1 ty e fun tk=>⟨.bl b,H,I.tok tk,rfl,q⟩
end
section
variable {K:PySem.W.Frag}
theorem Gr:PySem.W.kitOne K (.type "int") (.type "int")=some true:=by
 show (if ((Value.type "int") == (Value.type "int"))=true then some true else (if PySem.W.kitMeta "int"=true then (PySem.fastBuiltinMro "int").map (·.contains (Value.type "int")) else none))=some true
 decide +kernel
theorem Fy:PySem.W.kitOne K (.type "int") (.type "bool")=some false:=by
 show (if ((Value.type "int") == (Value.type "bool"))=true then some true else (if PySem.W.kitMeta "bool"=true then (PySem.fastBuiltinMro "int").map (·.contains (Value.type "bool")) else none))=some false
 decide +kernel
theorem B0:PySem.W.kitOne K (.type "tuple") (.type "tuple")=some true:=by
 show (if ((Value.type "tuple") == (Value.type "tuple"))=true then some true else (if PySem.W.kitMeta "tuple"=true then (PySem.fastBuiltinMro "tuple").map (·.contains (Value.type "tuple")) else none))=some true
 decide +kernel
theorem ET:PySem.W.kitOne K (.type "list") (.type "list")=some true:=by
 show (if ((Value.type "list") == (Value.type "list"))=true then some true else (if PySem.W.kitMeta "list"=true then (PySem.fastBuiltinMro "list").map (·.contains (Value.type "list")) else none))=some true
 decide +kernel
end
noncomputable def RY (c:TT) (t u:TS):TS:=fun D σ H=>∃M:St->Hp->Prop,(c σ H fun b H1=>if b=true then t { D with nx:=M } σ H1 else u { D with nx:=M } σ H1)/\∀σ' H',M σ' H'->D.nx σ' H'
theorem Hy {X:Cx} {c:Expr} {a b:List Stmt} {tc:TT} {t u:TS} {pos:Pos} (hc:PT X c tc) (ha:PSs X a t) (hb:PSs X b u):PS X (.If c a b pos) (RY tc t u):=by
 intro pins s σ H D I h
 obtain ⟨M,h,hM⟩:=h
 have up:∀(f:Flow) (s':Shared),SP X pins { D with nx:=M } f s'->SP X pins D f s':=fun f s' q=>by
  cases f with
  | next =>
    obtain ⟨σ',H',I',q⟩:=q
    exact ⟨σ',H',I',hM σ' H' q⟩
  | ret v=>exact q
  | brk=>exact q
  | cont=>exact q
 refine wpAny_If (thn (hc pins s σ H _ I h) fun d s1 ⟨H1,I1,q1⟩=>?_)
 cases d with
 | true=>exact thn (ha pins s1 σ H1 _ I1 q1) up
 | false=>exact thn (hb pins s1 σ H1 _ I1 q1) up
theorem Qc:JX 10 40:=⟨by decide,by decide,by decide⟩
theorem Bu {n:Nat} (h:n<=1000):n<=sizeLine:=Nat.le_of_lt (Be h)
theorem OS {ns:List Int} {k:Int} (h0:0<=k) (h:k < (ns.length:Int)):∃v:Int,atI (ns.map V.int) k=some (.int v):=by
 have hk:k.toNat < ns.length:=by omega
 have ek:k=((k.toNat:Nat):Int):=by omega
 have q:atI (ns.map V.int) ((k.toNat:Nat):Int)=some (.int ns[k.toNat]):=Dk (by rw [List.getElem?_map,List.getElem?_eq_getElem hk] <;> rfl)
 rw [<- ek] at q
 exact ⟨_,q⟩
end L2
namespace L2
open PySem PySem.Spec PyProof.Rows
noncomputable def Cx.inComp (X:Cx) (Nc:List Str) (sc:Scope) (cl:List (Str × Addr)) (s:Shared) (H:Hp) (ex:List Addr):Cx :=
 { X with N:=Nc,s₀:=s,H₀:=H,env:=compEnvC sc cl s.heap.objs.size X.env,outer:=X.stack,stack:=X.stack,ex:=ex,fn:=fun _=>false,pn:=[],xe:=fun _ _=>False }
theorem Lu {env:Env} {f:Str × NameKind->List (Str × Addr)->Sem (ForInStep (List (Str × Addr)))}
 (hf:∀n k r,f (n,k) r=if (k == NameKind.free)=true then (cellOf env n >>= fun c=>pure (ForInStep.yield ((n,c) :: r))) else pure (ForInStep.yield r)) :
 ∀(l:List (Str × NameKind)) (cs:List (Str × Addr)),(∀x∈l,x.2=.free->∃c,env.cells.lookup x.1=some c) ->
  ∃cl,(forIn l cs f:Sem (List (Str × Addr)))=pure cl/\(∀p∈cl,p∈cs\/env.cells.lookup p.1=some p.2)/\(∀p∈cs,p∈cl)/\∀x∈l,x.2=.free->∃c,(x.1,c)∈cl:=by
 intro l
 induction l with
 | nil =>
   intro cs _
   exact ⟨cs,by rw [List.forIn_nil],fun p hp=>.inl hp,fun p hp=>hp,fun x hx=>absurd hx (by simp)⟩
 | cons y r ih =>
   intro cs h
   obtain ⟨n,k⟩:=y
   by_cases hk:k=.free
   ·subst hk
    obtain ⟨c,hc⟩:=h (n,.free) (by simp) rfl
    have e:cellOf env n=pure c:=by
     unfold cellOf
     rw [show env.cells.lookup n=some c from hc]
    obtain ⟨cl,h1,h2,h3,h4⟩:=ih ((n,c) :: cs) fun x hx=>h x (List.mem_cons_of_mem _ hx)
    refine ⟨cl,?_,fun p hp=>?_,fun p hp=>h3 p (List.mem_cons_of_mem _ hp),fun x hx hf'=>?_⟩
    ·rw [List.forIn_cons,hf,if_pos (by decide),e]
     simp only [pure_bind]
     exact h1
    ·rcases h2 p hp with z | z
     ·rcases List.mem_cons.mp z with z | z
      ·subst z;exact .inr hc
      ·exact .inl z
     ·exact .inr z
    ·rcases List.mem_cons.mp hx with z | z
     ·subst z;exact ⟨c,h3 _ (by simp)⟩
     ·exact h4 x z hf'
   ·have hb:(k == NameKind.free)=false:=by simpa using hk
    obtain ⟨cl,h1,h2,h3,h4⟩:=ih cs fun x hx=>h x (List.mem_cons_of_mem _ hx)
    refine ⟨cl,?_,h2,h3,fun x hx hf'=>?_⟩
    ·rw [List.forIn_cons,hf,hb,if_neg (by decide)]
     simp only [pure_bind]
     exact h1
    ·rcases List.mem_cons.mp hx with z | z
     ·subst z;exact absurd hf' hk
     ·exact h4 x z hf'
theorem Hd {α:Type}:∀{l:List (Str × α)} {n:Str} {c:α},(n,c)∈l->∃d,l.lookup n=some d
 | (k,v) :: r,n,c,h=>by
   rw [List.lookup_cons]
   cases hx:(n == k) with
   | true=>exact ⟨v,rfl⟩
   | false =>
     rcases List.mem_cons.mp h with z | z
     ·cases z
      simp at hx
     ·exact Hd z
theorem EZ {env:Env} {sc:Scope} (h:∀x∈sc.names,x.2=.free->∃c,env.cells.lookup x.1=some c) :
 ∃cl,closureFor sc env=pure cl/\(∀y c,cl.lookup y=some c->env.cells.lookup y=some c)/\∀x∈sc.names,x.2=.free->∃c,cl.lookup x.1=some c:=by
 obtain ⟨cl,h1,h2,_,h4⟩:=Lu (env:=env) (f:=fun x r=>if (x.2 == NameKind.free)=true then (cellOf env x.1 >>= fun c=>pure (ForInStep.yield ((x.1,c) :: r))) else pure (ForInStep.yield r)) (fun _ _ _=>rfl) sc.names [] h
 refine ⟨cl,?_,fun y c e=>?_,fun x hx hf=>?_⟩
 ·unfold closureFor
  have:(forIn sc.names ([]:List (Str × Addr)) fun x r=>(match x with | (name,kind)=>if (kind == NameKind.free)=true then (do let __do_lift <- cellOf env name;pure (ForInStep.yield ((name,__do_lift) :: r))) else pure (ForInStep.yield r)):Sem (List (Str × Addr)))=pure cl:=h1
  first
   | (simp only [this,pure_bind];done)
   | (simp only [h1,pure_bind];done)
   | (rw [show (forIn sc.names ([]:List (Str × Addr)) _:Sem (List (Str × Addr)))=pure cl from h1];rfl)
 ·rcases h2 (y,c) (PySem.mem_of_lookup e) with z | z
  ·exact absurd z (by simp)
  ·exact z
 ·obtain ⟨c,hc⟩:=h4 x hx hf
  exact Hd hc
theorem D5 (env:Env):∀(names:List (Str × NameKind)) (y:Str),
 (names.map fun (n,k)=>if (k == NameKind.free && env.scope.kind == .function && env.kindOf n == some .cell) then (n,NameKind.cell) else (n,k)).lookup y
  = (names.lookup y).map fun k=>if (k == NameKind.free && env.scope.kind == .function && env.kindOf y == some .cell) then NameKind.cell else k
 | [],y=>rfl
 | (n,k) :: r,y=>by
   have ih:=D5 env r y
   rw [List.map_cons]
   dsimp only
   cases hx:(y == n) with
   | true =>
     have e:y=n:=by simpa using hx
     subst e
     by_cases c:(k == NameKind.free && env.scope.kind == .function && env.kindOf y == some .cell)=true
     ·rw [if_pos c];simp only [List.lookup_cons,hx,Option.map_some];rw [if_pos c]
     ·rw [if_neg c];simp only [List.lookup_cons,hx,Option.map_some];rw [if_neg c]
   | false =>
     by_cases c:(k == NameKind.free && env.scope.kind == .function && env.kindOf n == some .cell)=true
     ·rw [if_pos c];simp only [List.lookup_cons,hx];exact ih
     ·rw [if_neg c];simp only [List.lookup_cons,hx];exact ih
noncomputable def Lo (X:Cx) (ifs:List Expr) (t:TT):Prop :=
 ∀(pins:List (Addr × Obj)) (s:Shared) (σ:St) (H:Hp) (Q:Bool->Hp->Prop),Inv X pins σ H s->t σ H Q ->
  wpAny (model X.prog X.w) X.A (forIn ifs true fun c r=>if r=true then do let ok <- isTrue c X.env (eval c X.env);pure (ForInStep.yield ok) else pure (ForInStep.yield r)) (TP X pins σ Q) X.xe s
noncomputable def R6:TT:=fun _ H Q=>Q true H
theorem yes {σ:St} {H:Hp} {Q:Bool->Hp->Prop} (h:Q true H):R6 σ H Q:=h
theorem C4 {X:Cx}:Lo X [] R6:=by
 intro pins s σ H Q I h
 rw [List.forIn_nil]
 exact wpAny_pure ⟨H,I,h⟩
theorem Ep {X:Cx} {c:Expr} {t:TT} (hc:PT X c t):Lo X [c] t:=by
 intro pins s σ H Q I h
 rw [List.forIn_cons,if_pos rfl]
 refine wpAny_bind (wpAny_bind (thn (hc pins s σ H Q I h) fun b s1 q=>wpAny_pure ?_))
 dsimp only
 rw [List.forIn_nil]
 exact wpAny_pure q
theorem Ip {α:Type} {t:Sem α} {Q Q':α->Shared->Prop} {M:Model} {A:Around} {E:Value->Shared->Prop} {s:Shared} (h:wpAny M A t Q (fun _ _=>False) s) (hQ:∀a s,Q a s->Q' a s):wpAny M A t Q' E s:=wpAny_mono h hQ fun _ _ z=>z.elim
noncomputable def PU (wi:TI) (tt:TT) (te:TE):TE:=fun σ H Q=>wi σ H fun J H1=>∀D,H1 D=none->∃W:Nat->Nat->List V->Hp->Prop,(∃m,W 0 m [] (upd H1 D (.lst [])))/\∀i m ys H2,W i m ys H2 ->
 H2 D=some (.lst ys)/\((J.stop i H2/\Q (.ref D) H2)\/(J.go i H2/\ys.length < sizeLine/\∀x H3,J.yld i H2 x H3->tt (σ++[some x]) H3 fun b H4=>if b=true then te (σ++[some x]) H4 fun y H5=>H5 D=some (.lst ys)/\∃m',m' < m/\W (i+1) m' (ys++[y]) (upd H5 D (.lst (ys++[y])))
  else ∃m',m' < m/\W (i+1) m' ys H4))
structure IJ (N Nc:List Str) (x:Str) (sc fsc:Scope):Prop where
 kind:sc.kind=.function
 cell:∀y∈sc.names,y.2≠.cell
 nm:∀y∈sc.names,y.2=.local->sc.names.lookup y.1=some .local
 own:sc.names.lookup x=some .local
 fr:∀y∈sc.names,y.2=.free->fsc.names.lookup y.1=some .cell\/fsc.names.lookup y.1=some .free
 len:Nc.length=N.length+1
 nd:Nc.Nodup
 last:Nc[N.length]?=some x
 slot:((List.range N.length).all fun i=>match Nc[i]? with
  | some y=>(match sc.names.lookup y with | some .free=>N[i]? == some y | some .local=>false | some .cell=>false | _=>true)
  | none=>true)=true
theorem IJ.at {N Nc:List Str} {x:Str} {sc fsc:Scope} (C:IJ N Nc x sc fsc) {i:Nat} {y:Str} (hi:i < N.length) (h:Nc[i]?=some y):sc.names.lookup y≠some .local/\sc.names.lookup y≠some .cell/\(sc.names.lookup y=some .free->N[i]?=some y):=by
 have q:=List.all_eq_true.mp C.slot i (List.mem_range.mpr hi)
 rw [h] at q
 dsimp only at q
 cases e:sc.names.lookup y with
 | none=>exact ⟨fun z=>(nomatch z),fun z=>(nomatch z),fun z=>(nomatch z)⟩
 | some k =>
   rw [e] at q
   cases k with
   | «local»=>exact absurd (show false=true from q) Bool.false_ne_true
   | cell=>exact absurd (show false=true from q) Bool.false_ne_true
   | free=>exact ⟨fun z=>(nomatch z),fun z=>(nomatch z),fun _=>by simpa using q⟩
   | _=>exact ⟨fun z=>(nomatch z),fun z=>(nomatch z),fun z=>(nomatch z)⟩
section
variable {X:Cx} {elt iter:Expr} {x:Str} {px pos:Pos} {ifs:List Expr} {sc fsc:Scope} {N Nc:List Str} {wi:TI} {tt:TT} {te:TE}
structure PV (X:Cx) (pins:List (Addr × Obj)) (H:Hp) (C:Addr):Prop where
 free:H C=none
 ne:C≠X.env.locals
 new:X.s₀.heap.objs.size<=C
 cells:∀x c,X.env.cells.lookup x=some c->c≠C
 pins:∀p∈X.pn++pins,p.1≠C
theorem Inv.sameBut {pins:List (Addr × Obj)} {σ:St} {H:Hp} {s:Shared} {C:Addr} {h':Heap} (I:Inv X pins σ H s) (c:PV X pins H C) (k:Heap.SameBut C s.heap h'):Inv X pins σ H { s with heap:=h' } :=
 I.turned (t':=s.toks) (it:=C) (fun b o hb e=>(k.2 b hb).trans e) c.free c.ne (.inr c.new) c.cells c.pins
theorem O3 {σ:St} {o v:Option V}:(σ++[o]).set σ.length v=σ++[v]:=by
 rw [List.set_append_right _ _ (Nat.le_refl _),Nat.sub_self]
 rfl
end
theorem C6 {lo:Int} {n:Nat} {tt:TT} {te:TE} {σ:St} {H1:Hp} {Q:Addr->Hp->Prop} (hn:n<=sizeLine) (Pv:Addr->Nat->List V->Hp->Prop)
 (h0:∀D,H1 D=none->Pv D 0 [] (upd H1 D (.lst []))) (hD:∀D i ys H,Pv D i ys H->H D=some (.lst ys)/\ys.length<=i)
 (hs:∀D i ys H (K1:VK) (K2:Hp->Prop),H1 D=none->i < n->Pv D i ys H->(∀y H5,H5 D=some (.lst ys)->Pv D (i+1) (ys++[y]) (upd H5 D (.lst (ys++[y])))->K1 y H5)->(∀H4,Pv D (i+1) ys H4->K2 H4) ->
  tt (σ++[some (.int (lo+i))]) H fun b H4=>if b=true then te (σ++[some (.int (lo+i))]) H4 K1 else K2 H4)
 (hd:∀D ys H,H1 D=none->Pv D n ys H->Q D H) :
 ∀D,H1 D=none->∃W:Nat->Nat->List V->Hp->Prop,(∃m,W 0 m [] (upd H1 D (.lst [])))/\∀i m ys H2,W i m ys H2 ->
  H2 D=some (.lst ys)/\(((Itr lo n).stop i H2/\Q D H2)\/((Itr lo n).go i H2/\ys.length < sizeLine/\∀x H3,(Itr lo n).yld i H2 x H3->tt (σ++[some x]) H3 fun b H4=>if b=true then te (σ++[some x]) H4 fun y H5=>H5 D=some (.lst ys)/\∃m',m' < m/\W (i+1) m' (ys++[y]) (upd H5 D (.lst (ys++[y])))
   else ∃m',m' < m/\W (i+1) m' ys H4)):=by
 intro D hDn
 refine ⟨fun i m ys H=>m=n - i/\i<=n/\Pv D i ys H,⟨n,rfl,Nat.zero_le _,h0 D hDn⟩,?_⟩
 rintro i m ys H2 ⟨rfl,hi,p⟩
 obtain ⟨e,l⟩:=hD D i ys H2 p
 refine ⟨e,?_⟩
 by_cases hlt:i < n
 ·refine .inr ⟨hlt,Nat.lt_of_le_of_lt l (Nat.lt_of_lt_of_le hlt hn),fun x H3 y=>?_⟩
  obtain ⟨e1,e2⟩:=y
  subst e1 e2
  exact hs D i ys _ _ _ hDn hlt p (fun y H5 h5 p5=>⟨h5,n - (i+1),by omega,rfl,hlt,p5⟩) fun H4 p4=>⟨n - (i+1),by omega,rfl,hlt,p4⟩
 ·have ei:i=n:=by omega
  subst ei
  exact .inl ⟨Nat.le_refl _,hd D ys H2 hDn p⟩
theorem BF {K:PySem.W.Frag} {a:Addr} {xs:List V} {tt:TT} {te:TE} {σ:St} {H1:Hp} {Q:Addr->Hp->Prop} (hn:xs.length<=sizeLine) (Pv:Addr->Nat->List V->Hp->Prop)
 (h0:∀D,H1 D=none->Pv D 0 [] (upd H1 D (.lst []))) (hD:∀D i ys H,Pv D i ys H->H D=some (.lst ys)/\ys.length<=i) (hl:∀D i ys H,H1 D=none->Pv D i ys H->SqL K H a xs)
 (hs:∀D i x ys H (K1:VK) (K2:Hp->Prop),H1 D=none->xs[i]?=some x->Pv D i ys H->(∀y H5,H5 D=some (.lst ys)->Pv D (i+1) (ys++[y]) (upd H5 D (.lst (ys++[y])))->K1 y H5)->(∀H4,Pv D (i+1) ys H4->K2 H4) ->
  tt (σ++[some x]) H fun b H4=>if b=true then te (σ++[some x]) H4 K1 else K2 H4)
 (hd:∀D ys H,H1 D=none->Pv D xs.length ys H->Q D H) :
 ∀D,H1 D=none->∃W:Nat->Nat->List V->Hp->Prop,(∃m,W 0 m [] (upd H1 D (.lst [])))/\∀i m ys H2,W i m ys H2 ->
  H2 D=some (.lst ys)/\(((Itl K a).stop i H2/\Q D H2)\/((Itl K a).go i H2/\ys.length < sizeLine/\∀x H3,(Itl K a).yld i H2 x H3->tt (σ++[some x]) H3 fun b H4=>if b=true then te (σ++[some x]) H4 fun y H5=>H5 D=some (.lst ys)/\∃m',m' < m/\W (i+1) m' (ys++[y]) (upd H5 D (.lst (ys++[y])))
   else ∃m',m' < m/\W (i+1) m' ys H4)):=by
 intro D hDn
 refine ⟨fun i m ys H=>m=xs.length - i/\i<=xs.length/\Pv D i ys H,⟨xs.length,rfl,Nat.zero_le _,h0 D hDn⟩,?_⟩
 rintro i m ys H2 ⟨rfl,hi,p⟩
 obtain ⟨e,l⟩:=hD D i ys H2 p
 have q:=hl D i ys H2 hDn p
 refine ⟨e,?_⟩
 by_cases hlt:i < xs.length
 ·refine .inr ⟨⟨xs,xs[i],q,by simp [hlt]⟩,Nat.lt_of_le_of_lt l (Nat.lt_of_lt_of_le hlt hn),fun x H3 y=>?_⟩
  obtain ⟨e1,y⟩:=y
  subst e1
  exact hs D i x ys _ _ _ hDn (y xs q) p (fun y H5 h5 p5=>⟨h5,xs.length - (i+1),by omega,rfl,hlt,p5⟩) fun H4 p4=>⟨xs.length - (i+1),by omega,rfl,hlt,p4⟩
 ·have ei:i=xs.length:=by omega
  subst ei
  exact .inl ⟨⟨xs,q,Nat.le_refl _⟩,hd D ys H2 hDn p⟩
section
variable {X:Cx}
theorem Fx (K:PySem.W.Frag) (h:X.K=K:=by rfl):IxR X (Ri K):=by subst h;exact Ba
theorem EF (K:PySem.W.Frag) (h:X.K=K:=by rfl):IxR X (Rj K):=by subst h;exact Aw
end
end L2
namespace L2
open PySem PySem.Spec PyProof.Rows
section
variable {X:Cx}
theorem N0 (hc:X.calm=true):CP X (.builtin "sum") (fun xs H Q=>∃(p:Addr) (ns:List Int),xs=[.ref p]/\SqL X.K H p (ns.map V.int)/\Q (.int ns.sum) H):=by
 intro pins s σ H xs us Q I rv h
 obtain ⟨p,ns,rfl,hS,q⟩:=h
 obtain ⟨u,rfl,r⟩:=Dv rv
 cases r
 obtain ⟨its,rv,pl,hz⟩:=I.list hS
 have hi:=BN rv
 obtain ⟨xs,e⟩:=hi.allInts.items
 have en:xs.toList.map (·.1)=ns:=by
  have:=nums_intItems xs
  rw [<- e,show its.toArray.toList=its from rfl,hi.numsOf] at this
  exact this.symm
 refine sum_intListG (I.ok.hd hc) (by rw [<- e];exact pl.isList) fun h' tk t' hk=>?_
 rw [preSum_eq,List.take_of_length_le (by simp),en]
 exact ⟨.int ns.sum,H,I.kept hk,⟨_,rfl⟩,q⟩
theorem OW:MtR X "int.bit_length" (fun x xs H Q=>∃i:Int,x=.int i/\xs=[]/\Q (.int (Builtin.Int.intBits i:Nat)) H):=by
 intro pins s σ H x xs v us Q I rx rv h
 obtain ⟨i,rfl,rfl,q⟩:=h
 obtain ⟨t,rfl⟩:=rx
 cases rv
 exact call_int_bit_length ⟨.int _,H,I.tok _,⟨_,rfl⟩,q⟩
end
theorem N5 {xs:List V} {j:Nat}:Fb xs none (some (j:Int))=xs.take j:=by
 unfold Fb
 rw [HT.sIx_none,HT.sIx_nat,List.drop_zero,Nat.sub_zero]
 by_cases h:j<=xs.length
 ·rw [Nat.min_eq_left h]
 ·rw [Nat.min_eq_right (by omega),List.take_of_length_le (Nat.le_refl _),List.take_of_length_le (by omega)]
end L2
namespace L2
open PySem PySem.Spec PyProof.Rows
section
variable {M:Model} {A:Around} {E:Value->Shared->Prop} {s:Shared} {env:Env} {outer:List Env} {L e:Addr} {base:Heap}
end
end L2
namespace L2
open PySem PySem.Spec PyProof.Rows
section
variable {X:Cx} {pins:List (Addr × Obj)} {σ:St} {H:Hp} {s:Shared} {e:Addr} {cls:Value} {od:Option Addr}
end
section
variable {X:Cx} {pins:List (Addr × Obj)} {σ:St} {H:Hp} {s s':Shared} {E:XK} {ev:Value}
end
section
variable {X:Cx} {W:St->XK} {k:Nat} {f:Addr} {fd:FuncData} {ps:List Str} {sp:Sp} {dvs:List V} {ds:List Value} {x:Str} {p pos:Pos} {e:Expr} {es:List Expr} {t:TA}
end
end L2
namespace L2
open PySem PySem.Spec PyProof.Rows
section
variable {X:Cx} {W:St->XK} {C:Addr} {x:Str} {p cpos pos:Pos} {e:Expr} {es:List Expr} {t:TA}
end
section
variable {X:Cx} {pins:List (Addr × Obj)} {σ:St} {H:Hp} {s:Shared} {e:Addr} {cls:Value} {od:Option Addr}
end
section
variable {X:Cx} {pins:List (Addr × Obj)} {σ:St} {H:Hp} {s:Shared} {e C:Addr} {cls:Value} {od:Option Addr} {x n:Str} {i:Nat} {np pos:Pos} {b₀:Stmt} {suite:List Stmt} {rest:List ExceptHandler} {ts:TS} {tr:TH}
end
end L2
namespace L2
open PySem PySem.Spec PyProof.Rows
section
variable {prog:Program} {w:World} {A:Around} {E:Value->Shared->Prop} {s:Shared} {K:PySem.W.Frag} {a C:Addr} {o:Obj} {od:Option Obj} {name:Str} {tk:Tok}
end
section
variable {X:Cx}
end
end L2
namespace L2
open PySem PySem.Spec PyProof.Rows
section
variable {X:Cx}
end
section
variable {K:PySem.W.Frag} {H H':Hp} {x:V} {b:Bool}
end
section
variable {K:PySem.W.Frag} {A B:Addr}
end
end L2
namespace L2
open PySem PySem.Spec PyProof.Rows
end L2
namespace L2
open PySem PySem.Spec PyProof.Rows
section
variable {prog:Program} {w:World} {A:Around} {E:Value->Shared->Prop} {s:Shared} {K:PySem.W.Frag} {C P f x:Addr} {ox:Obj} {od:Option Obj} {name:Str} {v:Value}
end
end L2
namespace L2
open PySem PySem.Spec PyProof.Rows
section
variable {prog:Program} {w:World} {A:Around} {E:Value->Shared->Prop} {h:Heap} {g:Array GenState} {d:Drawn} {t:Nat} {os:OsState}
variable {nm q:Str} {C N:Addr} {bs bm:List Value} {hd:Bool} {sn:List Str} {sub:List Value} {ab:Bool} {col:Option Bool} {dd:Option Addr} {k0 k1 k2 k3 k5:Option Value}
end
section
variable {X:Cx} {W:St->XK} {C P fi:Addr} {k:Nat} {fd:FuncData} {ps ns:List Str} {x:Str} {p cpos pos:Pos} {e:Expr} {es:List Expr} {t:TA}
end
end L2
namespace L2
open PySem PySem.Spec PyProof.Rows
mutual
inductive Rep (K:PySem.W.Frag) (H:Hp):V->PyData->Prop
 | non:Rep K H .non .none
 | bl (b:Bool):Rep K H (.bl b) (.bool b)
 | int (i:Int):Rep K H (.int i) (.int i)
 | str (x:Str):Rep K H (.str x) (.str x)
 | lst {a:Addr} {xs:List V} {ds:List PyData}:SqL K H a xs->Reps K H xs ds->Rep K H (.ref a) (.list ds)
 | tup {a:Addr} {xs:List V} {ds:List PyData}:SqT K H a xs->Reps K H xs ds->Rep K H (.ref a) (.tuple ds)
inductive Reps (K:PySem.W.Frag) (H:Hp):List V->List PyData->Prop
 | nil:Reps K H [] []
 | cons {x:V} {xs:List V} {d:PyData} {ds:List PyData}:Rep K H x d->Reps K H xs ds->Reps K H (x :: xs) (d :: ds)
end
section
variable {K:PySem.W.Frag} {H H':Hp}
mutual
theorem Rep.same (e:A0 H H'):∀{x:V} {d:PyData},Rep K H x d->Rep K H' x d
 | _,_,.non=>.non
 | _,_,.bl b=>.bl b
 | _,_,.int i=>.int i
 | _,_,.str x=>.str x
 | _,_,.lst h r=>.lst (e.seq h) (Reps.same e r)
 | _,_,.tup h r=>.tup (by
  rcases h with (h | ⟨o,h⟩) | h
  ·exact .inl (.inl (e _ _ h))
  ·exact .inl (.inr ⟨o,e _ _ h⟩)
  ·exact .inr h) (Reps.same e r)
theorem Reps.same (e:A0 H H'):∀{xs:List V} {ds:List PyData},Reps K H xs ds->Reps K H' xs ds
 | _,_,.nil=>.nil
 | _,_,.cons r t=>.cons (Rep.same e r) (Reps.same e t)
end
theorem Reps.ints:∀(ns:List Int),Reps K H (ns.map V.int) (ns.map PyData.int)
 | []=>.nil
 | n :: ns=>.cons (.int n) (Reps.ints ns)
end
section
variable {X:Cx} {pins:List (Addr × Obj)} {σ:St} {H:Hp} {s:Shared}
mutual
theorem Inv.reads (I:Inv X pins σ H s):∀{x:V} {d:PyData},Rep X.K H x d->∀{v:Value},AS x v->∃as,Reads s.heap v d as
 | _,_,.non,v,r=>by cases (show v=Value.none from r);exact ⟨_,.none⟩
 | _,_,.bl b,v,r=>by cases (show v=Value.bool b from r);exact ⟨_,.bool b⟩
 | _,_,.int i,v,r=>by obtain ⟨t,e⟩:=(show ∃t,v=Value.int i t from r);cases e;exact ⟨_,.int i t⟩
 | _,_,.str x,v,r=>by obtain ⟨t,e⟩:=(show ∃t,v=Value.str x t from r);cases e;exact ⟨_,.str x t⟩
 | _,_,.lst (a:=a) h rs,v,r=>by
   cases (show v=Value.ref a from r)
   obtain ⟨its,rv,⟨o,n,e1,e2,_,e4⟩,_⟩:=I.list h
   obtain ⟨as,q⟩:=Inv.readsAll I rs rv
   exact ⟨_,.list e1 e2 e4 q⟩
 | _,_,.tup (a:=a) h rs,v,r=>by
   cases (show v=Value.ref a from r)
   obtain ⟨its,rv,⟨o,e1,e2,n,e4⟩,_⟩:=I.tuple h
   obtain ⟨as,q⟩:=Inv.readsAll I rs rv
   exact ⟨_,.tuple e1 e2 e4 q⟩
theorem Inv.readsAll (I:Inv X pins σ H s):∀{xs:List V} {ds:List PyData},Reps X.K H xs ds->∀{vs:List Value},AJ xs vs->∃as,ReadsAll s.heap vs ds as
 | _,_,.nil,_,.nil=>⟨_,.nil⟩
 | _,_,.cons r t,_,.cons q u=>by
   obtain ⟨a1,h1⟩:=Inv.reads I r q
   obtain ⟨a2,h2⟩:=Inv.readsAll I t u
   exact ⟨_,.cons h1 h2⟩
end
noncomputable def RP (K:PySem.W.Frag):R2:=fun x y H Q=>∃d e,Rep K H x d/\Rep K H y e/\PySem.SeqAt.shaped d=true/\PySem.SeqAt.shaped e=true/\Q (.bl (PyData.eqv d e)) H
noncomputable def RQ (K:PySem.W.Frag):R2:=fun x y H Q=>∃d e,Rep K H x d/\Rep K H y e/\PySem.SeqAt.shaped d=true/\PySem.SeqAt.shaped e=true/\Q (.bl (!PyData.eqv d e)) H
theorem JG {K:PySem.W.Frag} (hu:X.A.units+64 < cLine) (hK:X.K=K:=by rfl):OpR X (compareOp .Eq) (RP K):=by
 subst hK
 intro pins s σ H x y v u Q I rx ry h
 obtain ⟨d,e,hx,hy,s1,s2,q⟩:=h
 obtain ⟨as,r1⟩:=I.reads hx rx
 obtain ⟨bs,r2⟩:=I.reads hy ry
 exact eq_dataH r1 r2 s1 s2 hu ⟨.bl _,H,I,rfl,q⟩
theorem Fk {K:PySem.W.Frag} (hu:X.A.units+64 < cLine) (hK:X.K=K:=by rfl):OpR X (compareOp .NotEq) (RQ K):=by
 subst hK
 intro pins s σ H x y v u Q I rx ry h
 obtain ⟨d,e,hx,hy,s1,s2,q⟩:=h
 obtain ⟨as,r1⟩:=I.reads hx rx
 obtain ⟨bs,r2⟩:=I.reads hy ry
 exact ne_dataH r1 r2 s1 s2 hu ⟨.bl _,H,I,rfl,q⟩
end
end L2
namespace L2
open PySem PySem.W PySem.Spec PyProof.Rows
section
variable {O:KeyOrd} {ky:Nat->O.α} {n:Nat} {cmp:Nat->Nat->(Bool->Shared->Prop)->Shared->Prop} {J:Shared->Prop}
noncomputable def kk (ky:Nat->O.α) (p:Array Nat) (i:Nat):O.α:=ky (p.getD i 0)
noncomputable def Srt (ky:Nat->O.α) (p:Array Nat) (m:Nat):Prop:=∀i j,i<=j->j < m->O.kle (kk ky p i) (kk ky p j)
noncomputable def Fal (ky:Nat->O.α) (p:Array Nat) (m:Nat):Prop:=∀i j,i<=j->j < m->O.kle (kk ky p j) (kk ky p i)
noncomputable def Prm (n:Nat) (p:Array Nat):Prop:=p.toList.Perm (List.range n)
noncomputable def Jp (O:KeyOrd) (ky:Nat->O.α) (n:Nat) (cmp:Nat->Nat->(Bool->Shared->Prop)->Shared->Prop) (J:Shared->Prop):Prop :=
 ∀i j (C:Bool->Shared->Prop) s,i < n->j < n->J s->(∀s',J s'->C (O.blt (ky i) (ky j)) s')->cmp i j C s
theorem Prm.size {p:Array Nat} (h:Prm n p):p.size=n:=by
 have:=h.length_eq
 rw [List.length_range] at this
 exact this
theorem Prm.lt {p:Array Nat} (h:Prm n p) {k:Nat} (hk:k < n):p.getD k 0 < n:=by
 have hz:=h.size
 have e:p.getD k 0=p[k]'(by omega):=by simp [Array.getD,hz,hk]
 rw [e]
 exact List.mem_range.mp (h.mem_iff.mp (by simp))
theorem Prm.rev {p:Array Nat} (h:Prm n p) (i j:Nat):Prm n (kas_rev p i j):=(mirror_perm p i j _).toList.trans h
theorem Prm.bub {p:Array Nat} (h:Prm n p) (k d:Nat):Prm n (bubble p k d):=(bubble_perm p k d).toList.trans h
theorem Fu {p q:Array Nat} {i j:Nat} (e:p[i]?=q[j]?):p.getD i 0=q.getD j 0:=by
 rw [Array.getD_eq_getD_getElem?,Array.getD_eq_getD_getElem?,e]
theorem FW {p:Array Nat} {i j:Nat} (hj:j<=p.size) (k:Nat):kk ky (kas_rev p i j) k=if i<=k/\k < j then kk ky p (i+j - 1 - k) else kk ky p k:=by
 have e:=getElem?_mirror_all (xs:=p) (i:=i) hj k
 unfold kk kas_rev
 by_cases c:i<=k/\k < j
 ·rw [if_pos c] at e ⊢
  rw [Fu e]
 ·rw [if_neg c] at e ⊢
  rw [Fu e]
theorem NK {p:Array Nat} {src d:Nat} (hs:src < p.size) (hd:d<=src) (k:Nat) :
 kk ky (bubble p src d) k=if k=src - d then kk ky p src else if src - d < k/\k<=src then kk ky p (k - 1) else kk ky p k:=by
 have e:=getElem?_bubble hs d hd k
 unfold kk
 by_cases c:k=src - d
 ·rw [if_pos c] at e ⊢
  rw [Fu e]
 ·rw [if_neg c] at e ⊢
  by_cases c2:src - d < k/\k<=src
  ·rw [if_pos c2] at e ⊢
   rw [Fu e]
  ·rw [if_neg c2] at e ⊢
   rw [Fu e]
theorem Srt.succ {p:Array Nat} {m:Nat} (h:Srt ky p m) (h1:1<=m) (c:O.kle (kk ky p (m - 1)) (kk ky p m)):Srt ky p (m+1):=fun i j hij hj=>by
 by_cases e:j=m
 ·subst e
  by_cases e2:i=j
  ·subst e2
   exact KeyOrd.kle_refl _
  ·exact KeyOrd.kle_trans (h i (j - 1) (by omega) (by omega)) c
 ·exact h i j hij (by omega)
theorem Fal.succ {p:Array Nat} {m:Nat} (h:Fal ky p m) (h1:1<=m) (c:O.kle (kk ky p m) (kk ky p (m - 1))):Fal ky p (m+1):=fun i j hij hj=>by
 by_cases e:j=m
 ·subst e
  by_cases e2:i=j
  ·subst e2
   exact KeyOrd.kle_refl _
  ·exact KeyOrd.kle_trans c (h i (j - 1) (by omega) (by omega))
 ·exact h i j hij (by omega)
theorem Srt.one {p:Array Nat}:Srt ky p 1:=fun i j hij hj=>by
 have:i=j:=by omega
 subst this
 exact KeyOrd.kle_refl _
theorem Fal.rev {p:Array Nat} {m:Nat} (hz:m<=p.size) (h:Fal ky p m):Srt ky (kas_rev p 0 m) m:=fun i j hij hj=>by
 rw [FW hz,FW hz,if_pos ⟨Nat.zero_le _,by omega⟩,if_pos ⟨Nat.zero_le _,hj⟩]
 exact h _ _ (by omega) (by omega)
theorem Fal.revEq {p:Array Nat} {i j m:Nat} (hz:j<=p.size) (hm:j<=m) (h:Fal ky p m) (eq:∀a b,i<=a->a < j->i<=b->b < j->O.kle (kk ky p a) (kk ky p b)):Fal ky (kas_rev p i j) m:=fun a b hab hb=>by
 rw [FW hz,FW hz]
 by_cases c1:i<=a/\a < j
 ·rw [if_pos c1]
  by_cases c2:i<=b/\b < j
  ·rw [if_pos c2]
   exact eq _ _ (by omega) (by omega) (by omega) (by omega)
  ·rw [if_neg c2]
   exact h _ _ (by omega) hb
 ·rw [if_neg c1]
  by_cases c2:i<=b/\b < j
  ·rw [if_pos c2]
   exact h _ _ (by omega) (by omega)
  ·rw [if_neg c2]
   exact h _ _ hab hb
theorem Lq (ac:Jp O ky n cmp J) {p:Array Nat} (hp:Prm n p) {R:Nat->Shared->Prop}:∀(f a:Nat) (s:Shared),1<=a->a+f<=n->Srt ky p a->J s ->
 (∀m s',a<=m->m<=a+f->Srt ky p m->(m < a+f->O.klt (kk ky p m) (kk ky p (m - 1)))->J s'->R m s')->(kas_asc p f a).kasWp cmp R s
 | 0,a,s,h1,hz,hs,hJ,k=>k a s (Nat.le_refl _) (Nat.le_refl _) hs (fun h=>absurd h (Nat.lt_irrefl _)) hJ
 | f+1,a,s,h1,hz,hs,hJ,k=>by
   refine ac _ _ _ s (hp.lt (by omega)) (hp.lt (by omega)) hJ fun s' hJ'=>?_
   cases e:O.blt (ky (p.getD a 0)) (ky (p.getD (a - 1) 0)) with
   | true =>
     dsimp only
     rw [if_pos rfl]
     exact k a s' (Nat.le_refl _) (by omega) hs (fun _=>e) hJ'
   | false =>
     dsimp only
     rw [if_neg Bool.false_ne_true]
     refine Lq ac hp f (a+1) s' (by omega) (by omega) (hs.succ h1 e) hJ' fun m s2 l1 l2 q1 q2 q3=>?_
     exact k m s2 (by omega) (by omega) q1 (fun h=>q2 (by omega)) q3
theorem GF (ac:Jp O ky n cmp J) {R:Array Nat × Nat × Nat->Shared->Prop}:∀(f:Nat) (p:Array Nat) (m q:Nat) (s:Shared),Prm n p->q+1<=m->m+f<=n->Fal ky p m ->
 (∀a b,m - (q+1)<=a->a < m->m - (q+1)<=b->b < m->O.kle (kk ky p a) (kk ky p b))->J s ->
 (∀p' m' q' s',Prm n p'->q'+1<=m'->m<=m'->m'<=m+f->Fal ky p' m'->(∀a b,m' - (q'+1)<=a->a < m'->m' - (q'+1)<=b->b < m'->O.kle (kk ky p' a) (kk ky p' b))->J s'->R (p',m',q') s') ->
 (kas_desc f p m q).kasWp cmp R s
 | 0,p,m,q,s,hp,hq,hz,hf,he,hJ,k=>k p m q s hp hq (Nat.le_refl _) (Nat.le_refl _) hf he hJ
 | f+1,p,m,q,s,hp,hq,hz,hf,he,hJ,k=>by
   have hsz:=hp.size
   refine ac _ _ _ s (hp.lt (by omega)) (hp.lt (by omega)) hJ fun s' hJ'=>?_
   cases e:O.blt (ky (p.getD m 0)) (ky (p.getD (m - 1) 0)) with
   | true =>
     dsimp only
     rw [if_pos rfl]
     have hf':Fal ky p (m+1):=hf.succ (by omega) (KeyOrd.kle_of_klt e)
     have one:∀p':Array Nat,∀a b,m+1 - (0+1)<=a->a < m+1->m+1 - (0+1)<=b->b < m+1->O.kle (kk ky p' a) (kk ky p' b):=fun p' a b _ _ _ _=>by
      have:a=b:=by omega
      subst this
      exact KeyOrd.kle_refl _
     by_cases c:q > 0
     ·rw [if_pos c]
      refine GF ac f (kas_rev p (m - (q+1)) m) (m+1) 0 s' (hp.rev _ _) (by omega) (by omega) (hf'.revEq (by omega) (by omega) he) (one _) hJ' fun p' m' q' s2 a1 a2 a3 a4 a5 a6 a7=>?_
      exact k p' m' q' s2 a1 a2 (by omega) (by omega) a5 a6 a7
     ·rw [if_neg c]
      refine GF ac f p (m+1) 0 s' hp (by omega) (by omega) hf' (one _) hJ' fun p' m' q' s2 a1 a2 a3 a4 a5 a6 a7=>?_
      exact k p' m' q' s2 a1 a2 (by omega) (by omega) a5 a6 a7
   | false =>
     dsimp only
     rw [if_neg Bool.false_ne_true]
     refine ac _ _ _ s' (hp.lt (by omega)) (hp.lt (by omega)) hJ' fun s2 hJ2=>?_
     cases e2:O.blt (ky (p.getD (m - 1) 0)) (ky (p.getD m 0)) with
     | true =>
       dsimp only
       rw [if_pos rfl]
       exact k p m q s2 hp hq (Nat.le_refl _) (by omega) hf he hJ2
     | false =>
       dsimp only
       rw [if_neg Bool.false_ne_true]
       have g1:O.kle (kk ky p (m - 1)) (kk ky p m):=e
       have g2:O.kle (kk ky p m) (kk ky p (m - 1)):=e2
       refine GF ac f p (m+1) (q+1) s2 hp (by omega) (by omega) (hf.succ (by omega) g2) (fun a b a1 a2 b1 b2=>?_) hJ2 fun p' m' q' s3 c1 c2 c3 c4 c5 c6 c7=>?_
       ·by_cases ea:a=m
        ·by_cases eb:b=m
         ·rw [ea,eb]
          exact KeyOrd.kle_refl _
         ·rw [ea]
          exact KeyOrd.kle_trans g2 (he (m - 1) b (by omega) (by omega) (by omega) (by omega))
        ·by_cases eb:b=m
         ·rw [eb]
          exact KeyOrd.kle_trans (he a (m - 1) (by omega) (by omega) (by omega) (by omega)) g1
         ·exact he a b (by omega) (by omega) (by omega) (by omega)
       ·exact k p' m' q' s3 c1 c2 (by omega) (by omega) c5 c6 c7
theorem Ld (ac:Jp O ky n cmp J) {p:Array Nat} (hp:Prm n p) {m nrem:Nat} {R:Nat × Array Nat->Shared->Prop} {s:Shared} (h1:1<=m) (h2:m<=nrem) (h3:nrem<=n) (hf:Fal ky p m) (hJ:J s)
 (k:∀m' p' s',1<=m'->m'<=nrem->Prm n p'->Srt ky p' m'->J s'->R (m',p') s'):(kas_tail3 m nrem p).kasWp cmp R s:=by
 have hsz:=hp.size
 unfold kas_tail3
 rw [KasT.kasWp_bind]
 refine Lq ac (hp.rev 0 m) (nrem - m) m s h1 (by omega) (hf.rev (by omega)) hJ fun m' s' a1 a2 a3 _ a5=>?_
 exact k m' _ s' (by omega) (by omega) (hp.rev _ _) a3 a5
theorem Gq (ac:Jp O ky n cmp J) {p:Array Nat} (hp:Prm n p) {m nrem:Nat} {R:Nat × Array Nat->Shared->Prop} {s:Shared} (h2:m+1<=nrem) (h3:nrem<=n) (hf:Fal ky p (m+1)) (hJ:J s)
 (k:∀m' p' s',1<=m'->m'<=nrem->Prm n p'->Srt ky p' m'->J s'->R (m',p') s'):(kas_descPart m nrem p).kasWp cmp R s:=by
 unfold kas_descPart
 rw [KasT.kasWp_bind]
 refine GF ac (nrem - (m+1)) p (m+1) 0 s hp (by omega) (by omega) hf (fun a b _ _ _ _=>?_) hJ fun p' m' q' s' a1 a2 a3 a4 a5 a6 a7=>?_
 ·have:a=b:=by omega
  subst this
  exact KeyOrd.kle_refl _
 ·have hsz:=a1.size
  dsimp only
  by_cases c:q' > 0
  ·rw [if_pos c]
   exact Ld ac (a1.rev _ _) (by omega) (by omega) h3 (a5.revEq (by omega) (Nat.le_refl _) a6) a7 k
  ·rw [if_neg c]
   exact Ld ac a1 (by omega) (by omega) h3 a5 a7 k
theorem N2 (ac:Jp O ky n cmp J) {p:Array Nat} (hp:Prm n p) {R:Nat × Array Nat->Shared->Prop} {s:Shared} (h1:1<=n) (hJ:J s)
 (k:∀m' p' s',1<=m'->m'<=n->Prm n p'->Srt ky p' m'->J s'->R (m',p') s'):(kas_count n p).kasWp cmp R s:=by
 have hsz:=hp.size
 unfold kas_count
 rw [KasT.kasWp_bind]
 refine Lq ac hp (n - 1) 1 s (Nat.le_refl _) (by omega) Srt.one hJ fun m s' a1 a2 a3 a4 a5=>?_
 by_cases c:m=n
 ·rw [if_pos (by simpa using c)]
  exact k m p s' a1 (by omega) hp a3 a5
 ·rw [if_neg (by simpa using c)]
  have lt:=a4 (by omega)
  by_cases c1:m > 1
  ·rw [if_pos c1]
   refine ac _ _ _ s' (hp.lt (by omega)) (hp.lt (by omega)) a5 fun s2 hJ2=>?_
   cases e:O.blt (ky (p.getD 0 0)) (ky (p.getD (m - 1) 0)) with
   | true =>
     dsimp only
     rw [if_pos rfl]
     exact k m p s2 a1 (by omega) hp a3 hJ2
   | false =>
     dsimp only
     rw [if_neg Bool.false_ne_true]
     have g:O.kle (kk ky p (m - 1)) (kk ky p 0):=e
     have eq:∀a b,a < m->b < m->O.kle (kk ky p a) (kk ky p b):=fun a b ha hb =>
      KeyOrd.kle_trans (a3 a (m - 1) (by omega) (by omega)) (KeyOrd.kle_trans g (a3 0 b (by omega) hb))
     refine Gq ac (hp.rev 0 m) (by omega) (Nat.le_refl _) ?_ hJ2 k
     intro i j hij hj
     rw [FW (by omega),FW (by omega)]
     by_cases cj:j < m
     ·rw [if_pos ⟨Nat.zero_le _,cj⟩,if_pos ⟨Nat.zero_le _,by omega⟩]
      exact eq _ _ (by omega) (by omega)
     ·have ej:j=m:=by omega
      subst ej
      rw [if_neg (by omega)]
      by_cases ci:i < j
      ·rw [if_pos ⟨Nat.zero_le _,ci⟩]
       exact KeyOrd.kle_trans (KeyOrd.kle_of_klt lt) (eq _ _ (by omega) (by omega))
      ·rw [if_neg (by omega)]
       have:i=j:=by omega
       subst this
       exact KeyOrd.kle_refl _
  ·rw [if_neg c1]
   have em:m=1:=by omega
   subst em
   refine Gq ac hp (by omega) (Nat.le_refl _) ?_ a5 k
   have f1:Fal ky p 1:=fun i j hij hj=>by
    have:i=j:=by omega
    subst this
    exact KeyOrd.kle_refl _
   exact f1.succ (Nat.le_refl _) (KeyOrd.kle_of_klt lt)
theorem Hx (ac:Jp O ky n cmp J) {p:Array Nat} (hp:Prm n p) {t:Nat} (ht:t < n) {R:Nat->Shared->Prop}:∀(f l r:Nat) (s:Shared),l<=r->r<=t->r - l<=f->(∀i,i < l->O.kle (kk ky p i) (kk ky p t))->(∀i,r<=i->i < t->O.klt (kk ky p t) (kk ky p i)) ->
 Srt ky p t->J s->(∀l' s',l'<=t->(∀i,i < l'->O.kle (kk ky p i) (kk ky p t))->(∀i,l'<=i->i < t->O.klt (kk ky p t) (kk ky p i))->J s'->R l' s')->(kas_place p t f l r).kasWp cmp R s
 | 0,l,r,s,h1,h2,h3,h4,h5,_,hJ,k=>k l s (by omega) h4 (fun i a b=>h5 i (by omega) b) hJ
 | f+1,l,r,s,h1,h2,h3,h4,h5,hs,hJ,k=>by
   unfold kas_place
   by_cases c:l>=r
   ·rw [if_pos c]
    exact k l s (by omega) h4 (fun i a b=>h5 i (by omega) b) hJ
   ·rw [if_neg c]
    refine ac _ _ _ s (hp.lt ht) (hp.lt (by omega)) hJ fun s' hJ'=>?_
    cases e:O.blt (ky (p.getD t 0)) (ky (p.getD ((l+r) / 2) 0)) with
    | true =>
      dsimp only
      rw [if_pos rfl]
      have g:O.klt (kk ky p t) (kk ky p ((l+r) / 2)):=e
      exact Hx ac hp ht f l ((l+r) / 2) s' (by omega) (by omega) (by omega) h4 (fun i a b=>KeyOrd.klt_of_klt_of_kle g (hs _ _ a b)) hs hJ' k
    | false =>
      dsimp only
      rw [if_neg Bool.false_ne_true]
      have g:O.kle (kk ky p ((l+r) / 2)) (kk ky p t):=e
      exact Hx ac hp ht f ((l+r) / 2+1) r s' (by omega) h2 (by omega) (fun i a=>KeyOrd.kle_trans (hs i ((l+r) / 2) (by omega) (by omega)) g) h5 hs hJ' k
theorem Nr (ac:Jp O ky n cmp J) {R:Array Nat->Shared->Prop}:∀(f:Nat) (p:Array Nat) (t:Nat) (s:Shared),Prm n p->t+f=n->Srt ky p t->J s->(∀p' s',Prm n p'->Srt ky p' n->J s'->R p' s')->(kas_bin f p t).kasWp cmp R s
 | 0,p,t,s,hp,hz,hs,hJ,k=>k p s hp (by have:t=n:=by omega
                                       subst this;exact hs) hJ
 | f+1,p,t,s,hp,hz,hs,hJ,k=>by
   have hsz:=hp.size
   unfold kas_bin
   rw [KasT.kasWp_bind]
   refine Hx ac hp (by omega) t 0 t s (Nat.zero_le _) (Nat.le_refl _) (by omega) (fun i h=>absurd h (Nat.not_lt_zero _)) (fun i a b=>absurd b (by omega)) hs hJ fun l s' a1 a2 a3 hJ'=>?_
   refine Nr ac f (bubble p t (t - l)) (t+1) s' (hp.bub _ _) (by omega) ?_ hJ' k
   intro i j hij hj
   have el:t - (t - l)=l:=by omega
   rw [NK (by omega) (by omega),NK (by omega) (by omega),el]
   by_cases ci:i=l
   ·rw [if_pos ci]
    by_cases cj:j=l
    ·rw [if_pos cj]
     exact KeyOrd.kle_refl _
    ·rw [if_neg cj,if_pos ⟨by omega,by omega⟩]
     exact KeyOrd.kle_of_klt (a3 _ (by omega) (by omega))
   ·rw [if_neg ci]
    by_cases ci2:l < i/\i<=t
    ·rw [if_pos ci2,if_neg (by omega),if_pos ⟨by omega,by omega⟩]
     exact hs _ _ (by omega) (by omega)
    ·rw [if_neg ci2]
     by_cases cj:j=l
     ·rw [if_pos cj]
      exact a2 _ (by omega)
     ·rw [if_neg cj]
      by_cases cj2:l < j/\j<=t
      ·rw [if_pos cj2]
       exact hs _ _ (by omega) (by omega)
      ·rw [if_neg cj2]
       exact hs _ _ hij (by omega)
theorem Ps (ac:Jp O ky n cmp J) {R:Array Nat->Shared->Prop} {s:Shared} (h1:1<=n) (hJ:J s) (k:∀p s',Prm n p->Srt ky p n->J s'->R p s'):(kas_sort n).kasWp cmp R s:=by
 unfold kas_sort
 rw [KasT.kasWp_bind]
 refine N2 ac (List.Perm.refl _) h1 hJ fun m p s' a1 a2 a3 a4 a5=>?_
 dsimp only
 by_cases c:m < n
 ·rw [if_pos c]
  have e:max m 1=m:=by omega
  rw [e]
  exact Nr ac (n - m) p m s' a3 (by omega) a4 a5 k
 ·rw [if_neg c]
  have e:m=n:=by omega
  subst e
  exact k p s' a3 a4 a5
end
end L2
namespace L2
open PySem PySem.W PySem.Spec PyProof.Rows
theorem Em:∀a b:List Int,HT.lexLt a b=decide (a < b)
 | [],[]=>by simp [HT.lexLt]
 | [],_ :: _=>by simp [HT.lexLt]
 | _ :: _,[]=>by simp [HT.lexLt]
 | x :: xs,y :: ys=>by
   rw [HT.lexLt_cons,Em xs ys]
   by_cases e:x=y
   ·subst e
    rw [if_pos rfl]
    simp [List.cons_lt_cons_iff]
   ·rw [if_neg e]
    simp [List.cons_lt_cons_iff,e]
noncomputable def NQ:KeyOrd where
 α:=List Int
 blt a b:=HT.lexLt a b
 irrefl a:=by rw [Em];simpa using List.lt_irrefl a
 trans a b c h1 h2:=by
  rw [Em] at *
  simp only [decide_eq_true_eq] at *
  exact List.lt_trans h1 h2
 negTrans a b c h:=by
  rw [Em] at h
  rw [Em,Em]
  simp only [decide_eq_true_eq] at *
  by_cases hab:a < b
  ·exact .inl hab
  ·exact .inr (List.lt_of_le_of_lt (List.not_lt.mp hab) h)
 total a b h1 h2:=by
  rw [Em] at *
  simp only [decide_eq_false_iff_not] at *
  exact List.le_antisymm (List.not_lt.mp h2) (List.not_lt.mp h1)
noncomputable def Cw (h:Heap) (v:Value) (ns:List Int):Prop:=∃a its,v=.ref a/\IsTup h a its/\IntsAre its.toList ns
section
variable {prog:Program} {w:World} {A:Around} {E:Value->Shared->Prop} {s:Shared} {Q:Bool->Shared->Prop}
theorem Mt {fin bb:Bool}:∀{vs us:List Value} {ns ms:List Int} (i:Nat),IntsAre vs ns->IntsAre us ms->Q (HT.lexLt ns ms) s->fin=decide (vs.length < us.length)->KatLex prog w A bb fin Q (vs.zip us) i s
 | _,_,_,_,i,.nil,.nil,h,e=>by
   refine kat_nil ?_
   rw [e]
   exact h
 | _,_,_,_,i,.nil,.cons _ _ _,h,e=>by
   refine kat_nil ?_
   rw [e]
   simpa [HT.lexLt] using h
 | _,_,_,_,i,.cons _ _ _,.nil,h,e=>by
   refine kat_nil ?_
   rw [e]
   simpa [HT.lexLt] using h
 | _,_,_,_,i,.cons (vs:=vs) (ns:=ns) x t hv,.cons (vs:=us) (ns:=ms) y u hu,h,e=>by
   refine kat_cons (wpAny_eqBool_int (kat_go (fun c=>?_) (fun c=>?_)))
   ·have xy:x=y:=by simpa using c
    subst xy
    refine kat_yes (Mt (i+1) hv hu ?_ ?_)
    ·simpa [HT.lexLt] using h
    ·rw [e]
     simp
   ·have xy:¬ x=y:=by simpa using c
    refine kat_no ?_
    have h':Q (decide (x < y)) s:=by simpa [HT.lexLt,xy] using h
    cases (bb && i == 0) with
    | true=>exact oneLt_int h'
    | false=>exact kat_one _ _ (lt_int h')
noncomputable def LR (κ:SortKind):Prop:=(∃b,κ=tuples' b)\/κ=general'\/κ=oneType'
theorem Oz {κ:SortKind} {x y:Value} {ns ms:List Int} (hk:LR κ) (hx:Cw s.heap x ns) (hy:Cw s.heap y ms) (hu:A.units < cLine) (h:Q (HT.lexLt ns ms) s):wpAny (model prog w) A (keyLt' κ x y) Q E s:=by
 obtain ⟨a,its,rfl,ta,ia⟩:=hx
 obtain ⟨b,jts,rfl,tb,ib⟩:=hy
 rcases hk with ⟨bb,rfl⟩ | rfl | rfl
 ·obtain ⟨o,ho,hc,n,hd⟩:=ta
  obtain ⟨o2,ho2,hc2,n2,hd2⟩:=tb
  exact kat_lt ho hd ho2 hd2 (Mt 0 ia ib h (by simp))
 ·exact kat_one _ _ (HT.lt_tupInts ta tb ia ib hu h)
 ·rw [keyLt'_oneType,oneLt'_eq]
  simp only [if_true]
  refine wpAny_bind (wpAny_cRoomFor hu ?_)
  obtain ⟨⟨cls,dd,data,sl⟩,ho,hc,n,hd⟩:=id ta
  obtain ⟨⟨cls2,dd2,data2,sl2⟩,ho2,hc2,n2,hd2⟩:=id tb
  simp only at hc hd hc2 hd2
  subst hc hd hc2 hd2
  refine wpAny_bind (wpAny_callSpecialIfBound?_slot (T:="tuple") ⟨_,ho,rfl⟩ PySem.F.slot_tuple_lt (call_meets PySem.F.slot_tuple_lt ⟨_,ho,rfl⟩ PySem.F.entry_tuple_lt (PySem.F.args_tuple_lt_2 _ _) (HT.tuple_lt_ints a b its jts n n2 dd dd2 sl sl2 ns ms ia ib) ⟨ho,ho2,?_⟩))
  exact wpAny_truthy_bool h
theorem L3:∀{l:List Value} {ns:List Int},IntsAre l ns->∀{v:Value},l[0]?=some v->∃n t,v=Value.int n t
 | _,_,.nil,v,e=>by simp at e
 | _,_,.cons n t _,v,e=>⟨n,t,by simpa using e.symm⟩
theorem Ko {α β:Type} {f:α->Sem β}:∀(l:List α) {R:List β->Shared->Prop},(∀v∈l,∀(Q':β->Shared->Prop),(∀r,Q' r s)->wpAny (model prog w) A (f v) Q' E s)->(∀rs,R rs s)->wpAny (model prog w) A (l.mapM f) R E s
 | [],_,_,h=>by
   rw [List.mapM_nil]
   exact wpAny_pure (h [])
 | x :: l,R,hf,h=>by
   rw [List.mapM_cons]
   exact wpAny_bind (hf x (.head _) _ fun r=>wpAny_bind (Ko l (R:=fun bs s'=>wpAny (model prog w) A (pure (r :: bs)) R E s') (fun v hv=>hf v (.tail _ hv)) fun rs=>wpAny_pure (h _)))
theorem K0 {l:List Value} {R:Option Value->Shared->Prop} (hf:∀v∈l,∀(Q':Value->Shared->Prop),(∀r,Q' r s)->wpAny (model prog w) A (typeOf v) Q' E s) (h:∀r,R r s):wpAny (model prog w) A (oneTypeOnly' l.toArray) R E s:=by
 rw [oneTypeOnly'_eq,List.mapM_toArray,map_eq_pure_bind]
 refine wpAny_bind (wpAny_bind (Ko l hf fun rs=>wpAny_pure ?_))
 cases rs.toArray[0]? with
 | none=>exact wpAny_pure (h _)
 | some t=>exact wpAny_pure (h _)
theorem LF {rows:List (List Int)}:∀{vs:List Value},Paired (Cw s.heap) vs rows->∀{R:List (Option Value)->Shared->Prop},(∀fs,fs.length=vs.length->(∀f∈fs,∀v,f=some v->∃n t,v=Value.int n t)->R fs s) ->
 wpAny (model prog w) A (vs.mapM firstOfTuple') R E s:=by
 intro vs hp
 induction hp with
 | nil =>
   intro R h
   rw [List.mapM_nil]
   exact wpAny_pure (h [] rfl (fun f m=>nomatch m))
 | cons hx hr ih =>
   intro R h
   obtain ⟨a,its,rfl,⟨o,ho,hc,n,hd⟩,ia⟩:=hx
   rw [List.mapM_cons]
   refine wpAny_bind ?_
   rw [kas_first_eq]
   refine wpAny_bind (Looks.here (show Looks (model prog w) s.heap (typeOf (.ref a)) o.cls from (Looks.ld ho).andThen .now) ?_)
   rw [hc,if_neg (by first | decide | simp)]
   refine wpAny_bind (listItems_at ho hd (wpAny_pure ?_))
   refine wpAny_bind (ih fun fs l1 l2=>wpAny_pure (h _ (by rw [List.length_cons,List.length_cons,l1]) fun f m v e=>?_))
   rcases List.mem_cons.mp m with m | m
   ·subst m
    have e':its.toList[0]?=some v:=by simpa using e
    exact L3 ia e'
   ·exact l2 f m v e
theorem KC {vs:List Value} {rows:List (List Int)} (hp:Paired (Cw s.heap) vs rows) {R:SortKind->Shared->Prop} (h:∀κ,LR κ->R κ s):wpAny (model prog w) A (keyKind' vs.toArray) R E s:=by
 rw [kat_kind_eq,List.mapM_toArray,map_eq_pure_bind]
 refine wpAny_bind (wpAny_bind (LF hp fun fs l1 l2=>wpAny_pure ?_))
 by_cases c:(fs.toArray.all fun x=>x.isSome)=true
 ·rw [if_pos c]
  refine wpAny_bind (wpAny_rule ?_)
  have e:fs.toArray.filterMap id=(fs.filterMap id).toArray:=by simp
  rw [e]
  refine wpAny_bind (K0 (fun v hv Q' hq=>?_) fun r=>wpAny_pure (h _ (.inl ⟨_,rfl⟩)))
  obtain ⟨f,fm,fe⟩:=List.mem_filterMap.mp hv
  obtain ⟨n,t,rfl⟩:=l2 f fm v fe
  exact wpAny_of_eq (a:=Value.type "int") rfl (hq _)
 ·rw [if_neg c]
  by_cases c2:(fs.toArray[0]?.bind id).isSome=true
  ·rw [if_pos c2]
   exact wpAny_pure (h _ (.inr (.inl rfl)))
  ·rw [if_neg c2]
   refine wpAny_bind (K0 (fun v hv Q' hq=>?_) fun r=>?_)
   ·obtain ⟨ns,hr⟩:∃ns,Cw s.heap v ns:=by
     clear l1 l2 c c2
     induction hp with
     | nil=>cases hv
     | cons hx _ ih =>
       rcases List.mem_cons.mp hv with m | m
       ·exact ⟨_,m ▸ hx⟩
       ·exact ih m
    obtain ⟨a,its,rfl,⟨o,ho,hc,n,hd⟩,ia⟩:=hr
    exact Looks.here (show Looks (model prog w) s.heap (typeOf (.ref a)) o.cls from (Looks.ld ho).andThen .now) (hq _)
   ·cases r with
    | none=>exact wpAny_pure (h _ (.inr (.inl rfl)))
    | some t=>exact wpAny_pure (h _ (.inr (.inr rfl)))
theorem Gf {α β:Type} {R:α->β->Prop} (d:α) (e:β):∀{xs:List α} {ys:List β},Paired R xs ys->∀i,i < xs.length->R (xs.getD i d) (ys.getD i e)
 | _,_,.nil,i,h=>absurd h (Nat.not_lt_zero _)
 | _,_,.cons r _,0,_=>r
 | _,_,.cons _ t,i+1,h=>Gf d e t i (by simpa using h)
theorem Hf (vs:List Value):(List.range vs.length).map (fun i=>vs.getD i Value.none)=vs:=by
 apply List.ext_getElem
 ·simp
 ·intro i h1 h2
  simp [h2]
theorem Cw.keep {h h':Heap} {v:Value} {ns:List Int} (x:Cw h v ns) (k:∀b o,o.cls=.type "tuple"->h.get? b=some o->h'.get? b=some o):Cw h' v ns:=by
 obtain ⟨a,its,rfl,⟨o,ho,hc,n,hd⟩,ia⟩:=x
 exact ⟨a,its,rfl,⟨o,k a o hc ho,hc,n,hd⟩,ia⟩
theorem KD {a:Addr} {vs:List Value} {rows:List (List Int)} {n:Nat} {P:PySem.Fin->Shared->Prop} (ho:s.heap.get? a=some (seqObj "list" vs.toArray n)) (hp:Paired (Cw s.heap) vs rows) (h64:vs.length < 64) (hu:A.units < cLine)
 (h:∀p:Array Nat,Prm vs.length p->Srt (O:=NQ) (fun i=>rows.getD i []) p vs.length->P (.done (.ret .none)) { s with heap:=sortedHeap s.heap a vs (List.toArray (p.toList.map fun i=>vs.getD i Value.none)) }) :
 wpAny (model prog w) A (Builtin.«list.sort» ⟨[.ref a],[]⟩) P E s:=by
 rw [list_sort_plain]
 have ha:a < s.heap.objs.size:=Heap.lt_size ho
 refine wpAny_bind (listItems_at ho rfl ?_)
 refine wpAny_bind (listUpdate_at ho rfl ?_)
 obtain ⟨e1,ho1⟩:∃e1,(s.heap.update a (Obj.mapSeq fun _=>#[])).get? a=some (seqObj "list" #[] e1):=⟨_,get?_update_seq ho (fun _=>#[])⟩
 refine wpAny_bind (seqEpoch_at ho1 rfl ?_)
 refine wpAny_bind (wpAny_newTuple ?_)
 refine wpAny_bind (wpAny_newList ?_)
 refine wpAny_holding ?_
 have ho6:(((s.heap.update a (Obj.mapSeq fun _=>#[])).push (seqObj "tuple" vs.toArray 0)).push (seqObj "list" #[] 0)).get? a=some (seqObj "list" #[] e1):=by
  rw [Heap.get?_push_ne _ _ _ (by rw [size_push',Heap.size_update];exact Nat.ne_of_lt (Nat.lt_succ_of_lt ha)),Heap.get?_push_ne _ _ _ (by rw [Heap.size_update];exact Nat.ne_of_lt ha)]
  exact ho1
 have hp6:Paired (Cw (((s.heap.update a (Obj.mapSeq fun _=>#[])).push (seqObj "tuple" vs.toArray 0)).push (seqObj "list" #[] 0))) vs rows:=Paired.mapP hp fun v ns x=>x.keep fun b o hc e=>by
  have hb:b≠a:=fun z=>by
   rw [z,ho] at e
   cases e
   exact absurd (show Value.type "list"=Value.type "tuple" from hc) (by decide)
  exact Heap.get?_push_of_some _ (Heap.get?_push_of_some _ ((Heap.get?_update_other _ _ (Ne.symm hb)).trans e))
 show wpAny (model prog w) A _ P E { s with heap:=((s.heap.update a (Obj.mapSeq fun _=>#[])).push (seqObj "tuple" vs.toArray 0)).push (seqObj "list" #[] 0) }
 dsimp only
 have hsz:vs.toArray.size=vs.length:=by simp
 by_cases h2:vs.toArray.size < 2
 ·rw [if_pos h2,if_pos h2]
  refine wpAny_bind (wpAny_pure ?_)
  rw [StateT.run_pure]
  refine wpAny_bind (wpAny_pure ?_)
  dsimp only
  refine wpAny_bind (seqEpoch_at ho6 rfl ?_)
  refine wpAny_bind (listUpdate_at ho6 rfl ?_ (hsz2:=by rw [Array.size_map];show (pairsOf vs).size<=_;rw [pairsOf_size,sizeLine_eq];omega))
  simp only [bne_self_eq_false,Bool.false_eq_true,if_false]
  have hh:=h (List.range vs.length).toArray (List.Perm.refl _) (fun i j hij hj=>by
   have:i=j:=by omega
   subst this
   exact KeyOrd.kle_refl _)
  rw [show (List.range vs.length).toArray.toList.map (fun i=>vs.getD i Value.none)=vs from Hf vs] at hh
  have e:(arrOf (SortSt.mk' general' (vs.toArray.zip vs.toArray) #[] 7 none)).map (·.2)=vs.toArray:=by
   show (vs.toArray.zip vs.toArray).map (·.2)=vs.toArray
   apply Array.ext
   ·simp
   ·intro i h1 h2
    simp
  refine wpAny_pure ?_
  have hh':=hh
  rw [<- e] at hh'
  exact hh'
 ·rw [if_neg h2,if_neg h2]
  refine wpAny_bind (KC hp6 fun κ hκ=>?_)
  have ac:Jp NQ (fun i=>rows.getD i []) vs.length (kas_ask prog w A κ vs) (fun s'=>s'={ s with heap:=((s.heap.update a (Obj.mapSeq fun _=>#[])).push (seqObj "tuple" vs.toArray 0)).push (seqObj "list" #[] 0) }):=by
   intro i j C s' hi hj e k
   subst e
   exact Oz hκ (Gf Value.none [] hp6 i hi) (Gf Value.none [] hp6 j hj) hu (k _ rfl)
  refine wpAny_bind (wpAny_mono (kat_run (ks:=vs) (vs:=vs) (Q:=fun st' s'=>∃p:Array Nat,arrOf st'=p.map (kas_item (vs.toArray.zip vs.toArray))/\failedOf st'=none/\s'={ s with heap:=((s.heap.update a (Obj.mapSeq fun _=>#[])).push (seqObj "tuple" vs.toArray 0)).push (seqObj "list" #[] 0) }/\Prm vs.length p/\Srt (O:=NQ) (fun i=>rows.getD i []) p vs.length)
   (G:=fun p s'=>s'={ s with heap:=((s.heap.update a (Obj.mapSeq fun _=>#[])).push (seqObj "tuple" vs.toArray 0)).push (seqObj "list" #[] 0) }/\Prm vs.length p/\Srt (O:=NQ) (fun i=>rows.getD i []) p vs.length)
   rfl (by omega) h64 (fun p st' s' _ a2 a3 g=>⟨p,a2,a3,g⟩) (Ps ac (by omega) rfl fun p s' q1 q2 e=>⟨e,q1,q2⟩)) ?_ fun _ _ e=>e)
  rintro ⟨⟨⟩,st'⟩ s' ⟨p,har,hf,rfl,q1,q2⟩
  dsimp only
  have hout:=kat_snds rfl har
  refine wpAny_bind (seqEpoch_at ho6 rfl ?_)
  rw [hout]
  refine wpAny_bind (listUpdate_at ho6 rfl ?_ (hsz2:=by rw [List.size_toArray,List.length_map,Array.length_toList,q1.size,sizeLine_eq];omega))
  rw [hf]
  simp only [bne_self_eq_false,Bool.false_eq_true,if_false]
  exact wpAny_pure (h p q1 q2)
theorem KM {l:Addr} {vs:List Value} {rows:List (List Int)} {R:Value->Shared->Prop} (hl:s.heap.IsList l vs.toArray) (hp:Paired (Cw s.heap) vs rows) (h64:vs.length < 64) (hu:A.in1.in1.units < cLine)
 (h:∀p:Array Nat,Prm vs.length p->Srt (O:=NQ) (fun i=>rows.getD i []) p vs.length->R (.ref (s.heap.objs.size+1)) { s with heap:=sortedAll s.heap vs (List.toArray (p.toList.map fun i=>vs.getD i Value.none)) }) :
 wpAny (model prog w) A (call (.builtin "sorted") [.ref l]) R E s:=by
 refine Calls.call_function_entry kind_sorted plain_sorted entry_sorted (args_sorted1 _) ?_
 unfold Builtin.«sorted»
 refine wpAny_bind (m:=checkCount "sorted" 1 1 _) (wpAny_pure ?_)
 refine wpAny_bind (collect_list hl ?_)
 refine wpAny_bind (wpAny_newList ?_)
 have hsz:((s.heap.push (seqObj "list" #[] 0)).update s.heap.objs.size (Obj.mapSeq (·++vs.toArray))).objs.size=s.heap.objs.size+1:=by
  rw [Heap.size_update,size_push']
 have hoL:(((s.heap.push (seqObj "list" #[] 0)).update s.heap.objs.size (Obj.mapSeq (·++vs.toArray))).push (seqObj "list" vs.toArray 0)).get? (s.heap.objs.size+1)=some (seqObj "list" vs.toArray 0):=by
  rw [<- hsz];exact Heap.get?_push_size _ rfl
 have hp6:Paired (Cw (((s.heap.push (seqObj "list" #[] 0)).update s.heap.objs.size (Obj.mapSeq (·++vs.toArray))).push (seqObj "list" vs.toArray 0))) vs rows:=Paired.mapP hp fun v ns x=>x.keep fun b o hc e =>
  Heap.get?_push_of_some _ ((Heap.get?_update_other _ _ (Ne.symm (Nat.ne_of_lt (Heap.lt_size e)))).trans (Heap.get?_push_of_some _ e))
 show wpAny _ _ _ _ _ { s with heap:=((s.heap.push (seqObj "list" #[] 0)).update s.heap.objs.size (Obj.mapSeq (·++vs.toArray))).push (seqObj "list" vs.toArray 0) }
 rw [hsz]
 refine wpAny_bind (wpAny_holding (wpAny_call_entry slot_list_sort ⟨_,hoL,rfl⟩ entry_list_sort (KD hoL hp6 h64 hu fun p a1 a2=>⟨_,rfl,?_⟩) (args_list_sort _)))
 exact wpAny_pure ⟨_,rfl,h p a1 a2⟩
end
section
variable {X:Cx}
theorem Jr:CP X (.builtin "sorted") (fun xs H Q=>∃(a:Addr) (ns:List Int),xs=[.ref a]/\SqL X.K H a (ns.map V.int)/\ns.length < 64 /\
 ∀(l:Addr) (ms:List Int),ms.Perm ns->ms.Pairwise (·<=·)->H l=none->Q (.ref l) (upd H l (.lst (ms.map V.int)))):=by
 intro pins s σ H xs us Q I r h
 obtain ⟨a,ns,rfl,hq,h64,q⟩:=h
 obtain ⟨u,rfl,rx⟩:=Dv r
 cases rx
 obtain ⟨its,rv,pl,hz⟩:=I.list hq
 have hlen:=rv.length
 rw [List.length_map] at hlen
 refine sorted_ints pl.isList (BN rv) (by omega) fun out ms i1 i2 i3=>?_
 obtain ⟨e,he⟩:=sortedAll_at s.heap its out
 have hfr:H (s.heap.objs.size+1)=none:=I.hok.fresh (Nat.le_succ _)
 refine ⟨.ref _,_,I.laid (t':=s.toks) (fun b o hb=>sortedAll_old hb) (Nat.le_succ _) (show Bx X.prog X.w _ _ _ (.lst (ms.map V.int)) from ⟨?_,out.toList,e,Gm i1,he⟩),rfl,q _ ms i2 i3 hfr⟩
 rw [List.length_map,i2.length_eq,sizeLine_eq]
 omega
theorem Jb:∀{as:List Addr} {us:List Value},AJ (as.map V.ref) us->us=as.map Value.ref
 | [],_,.nil=>rfl
 | a :: as,_,.cons r t=>by
   cases (show _=Value.ref a from r)
   rw [Jb t]
   rfl
theorem EO:∀as:List Addr,AJ (as.map V.ref) (as.map Value.ref)
 | []=>.nil
 | a :: as=>.cons rfl (EO as)
theorem Js (hu:X.A.units+64 < cLine):CP X (.builtin "sorted") (fun xs H Q=>∃(a:Addr) (qs:List (Addr × List Int)),xs=[.ref a]/\SqL X.K H a (qs.map fun q=>V.ref q.1)/\(∀q∈qs,SqT X.K H q.1 (q.2.map V.int))/\qs.length < 64 /\
 ∀(l:Addr) (rs:List (Addr × List Int)),rs.Perm qs->rs.Pairwise (fun x y=>HT.lexLt y.2 x.2=false)->H l=none->Q (.ref l) (upd H l (.lst (rs.map fun q=>V.ref q.1)))):=by
 intro pins s σ H xs us Q I r h
 obtain ⟨a,qs,rfl,hq,hr,h64,q⟩:=h
 obtain ⟨u,rfl,rx⟩:=Dv r
 cases rx
 obtain ⟨its,rv,pl,hz⟩:=I.list hq
 have rv':AJ ((qs.map (·.1)).map V.ref) its:=by rw [List.map_map];exact rv
 have ei:=Jb rv'
 have hlen:its.length=qs.length:=by rw [ei,List.length_map,List.length_map]
 have hp:Paired (Cw s.heap) its (qs.map (·.2)):=by
  rw [ei]
  clear ei rv rv' pl hlen hq hz h64 q
  induction qs with
  | nil=>exact .nil
  | cons q0 qr ih =>
    refine .cons ?_ (ih fun q m=>hr q (List.mem_cons_of_mem _ m))
    obtain ⟨jts,rj,tj,_⟩:=I.tuple (hr q0 (List.mem_cons_self ..))
    exact ⟨q0.1,jts.toArray,rfl,tj,by simpa using BN rj⟩
 refine KM pl.isList hp (by omega) (by show X.A.units+1+1 < cLine;omega) fun p a1 a2=>?_
 obtain ⟨e,he⟩:=sortedAll_at s.heap its (List.toArray (p.toList.map fun i=>its.getD i Value.none))
 have hfr:H (s.heap.objs.size+1)=none:=I.hok.fresh (Nat.le_succ _)
 have hps:=a1.size
 have lt:∀i∈p.toList,i < qs.length:=fun i m=>by
  have:=List.mem_range.mp (a1.mem_iff.mp m)
  omega
 let rs:=p.toList.map fun i=>qs.getD i (0,[])
 have eo:(p.toList.map fun i=>its.getD i Value.none)=(rs.map (·.1)).map Value.ref:=by
  show _=((p.toList.map fun i=>qs.getD i (0,[])).map (·.1)).map Value.ref
  rw [List.map_map,List.map_map]
  refine List.map_congr_left fun i m=>?_
  have hi:=lt i m
  rw [ei]
  simp [hi]
 rw [eo] at he ⊢
 have pm:rs.Perm qs:=by
  have e1:(List.range its.length).map (fun i=>qs.getD i ((0:Addr),([]:List Int)))=qs:=by
   apply List.ext_getElem
   ·simp [hlen]
   ·intro i h1 h2
    simp [h2]
  have:=List.Perm.map (fun i=>qs.getD i ((0:Addr),([]:List Int))) a1
  rw [e1] at this
  exact this
 refine ⟨.ref _,_,I.laid (t':=s.toks) (fun b o hb=>sortedAll_old hb) (Nat.le_succ _) (show Bx X.prog X.w _ _ _ (.lst (rs.map fun q=>V.ref q.1)) from ⟨?_,(rs.map (·.1)).map Value.ref,e,?_,he⟩),rfl,q _ rs pm ?_ hfr⟩
 ·rw [List.length_map,pm.length_eq,sizeLine_eq]
  omega
 ·have:=EO (rs.map (·.1))
  rw [List.map_map] at this
  exact this
 ·rw [List.pairwise_iff_getElem]
  intro i j hi hj hij
  have hi':i < p.size:=by simpa [rs] using hi
  have hj':j < p.size:=by simpa [rs] using hj
  have g:=a2 i j (by omega) (by omega)
  have gi:(qs.map (·.2)).getD (p.getD i 0) []=(rs[i]).2:=by
   have l1:=lt p[i] (by simp)
   simp [rs,Array.getD,hi',l1]
  have gj:(qs.map (·.2)).getD (p.getD j 0) []=(rs[j]).2:=by
   have l1:=lt p[j] (by simp)
   simp [rs,Array.getD,hj',l1]
  have g2:HT.lexLt ((qs.map (·.2)).getD (p.getD j 0) []) ((qs.map (·.2)).getD (p.getD i 0) [])=false:=g
  rw [gi,gj] at g2
  exact g2
end
end L2
namespace L2
open PySem PySem.W PySem.Spec PyProof.Rows
noncomputable def DH (h:Heap) (d:Addr) (es:Array DictEntry) (ep:Nat):Prop:=∃o,h.get? d=some o/\o.ExactDict/\o.data=.dict es ep
theorem DH.at {h h':Heap} {d:Addr} {es:Array DictEntry} {ep:Nat} (x:DH h d es ep) (e:∀o,h.get? d=some o->h'.get? d=some o):DH h' d es ep:=let ⟨o,ho,r⟩:=x;⟨o,e _ ho,r⟩
theorem DH.lt {h:Heap} {d:Addr} {es:Array DictEntry} {ep:Nat} (x:DH h d es ep):d < h.objs.size:=let ⟨_,ho,_⟩:=x;Heap.lt_size ho
theorem DH.typeIs {s:Shared} {d:Addr} {es:Array DictEntry} {ep:Nat} (x:DH s.heap d es ep):s.TypeIs (.ref d) "dict":=let ⟨o,ho,hc,_⟩:=x;⟨o,ho,hc.1⟩
section
variable {prog:Program} {w:World} {A:Around} {E:Value->Shared->Prop} {s:Shared} {d:Addr} {es:Array DictEntry} {ep:Nat}
theorem Ot {Q:Value->Shared->Prop} (hd:(d == sysModules)=false) (hm:DH s.heap d es ep)
 (hQ:Q (.ref s.heap.objs.size) { s with heap:=s.heap.push { cls:=.type "dict_keyiterator",data:=.fields #[.ref d,.int 0 0,.int es.size 0,.int ep 0] } }):wpAny (model prog w) A (pyIter (.ref d)) Q E s:=by
 have hT:=hm.typeIs
 obtain ⟨o,ho,hc,hdat⟩:=id hm
 refine wpAny_pyIter_slot hT F.slot_dict_iter (wpAny_call_entry F.slot_dict_iter hT F.entry_dict_iter ?_ (F.args_dict_iter_1 _))
 unfold Builtin.«dict.__iter__»
 refine wpAny_bind ?_
 unfold Builtin.Dict.dictSlotNone
 refine wpAny_bind (wpAny_notOrdered_dict hT ?_)
 show wpAny _ _ (pure (Value.ref d)) _ _ s
 refine wpAny_pure ?_
 show wpAny _ _ (Builtin.Dict.showsAll d >>= _) _ _ s
 unfold Builtin.Dict.showsAll
 rw [if_neg (by rw [hd];exact Bool.false_ne_true)]
 refine wpAny_bind (wpAny_pure ?_)
 refine wpAny_bind (wpAny_dictEntries ho hdat ?_)
 refine wpAny_bind (wpAny_dictEpoch ho hdat ?_)
 refine wpAny_bind (wpAny_newObj_type (wpAny_pure ⟨_,rfl,"dict_keyiterator",_,⟨_,Heap.get?_push_size _ rfl,rfl⟩,F.slot_dict_keyiterator_next.lookup,?_⟩))
 simpa [rawInt] using hQ
theorem Ov {it:Addr} {i:Nat} {e:DictEntry} {Q:Option Value->Shared->Prop} (hit:s.heap.IsKeyIter it d i es.size ep) (hm:DH s.heap d es ep) (hx:es[i]?=some e)
 (hQ:∀h',h'.IsKeyIter it d (i+1) es.size ep->Heap.SameBut it s.heap h'->Q (some e.key) { s with heap:=h' }):wpAny (model prog w) A (pyNext (.ref it)) Q E s:=by
 obtain ⟨o,ho,hc,hd⟩:=id hit
 obtain ⟨od,hod,hcd,hdd⟩:=id hm
 unfold pyNext
 refine wpAny_bind (wpAny_attempt (wpAny_callSpecial?_slot (name:=Str.ofString "__next__") hit.typeIs F.slot_dict_keyiterator_next
  (wpAny_call_entry F.slot_dict_keyiterator_next hit.typeIs F.entry_dict_keyiterator_next ?_ (F.args_dict_keyiterator_next_1 _))))
 refine wpAny_bind (wpAny_pure ?_)
 refine wpAny_bind ?_
 refine wpAny_bind ?_
 first | refine wpAny_bind (wpAny_typeNameOfWhole_keyiter hit.typeIs (wpAny_pure ?_)) | refine wpAny_bind (wpAny_typeNameOf_keyiter hit.typeIs (wpAny_pure ?_))
 refine wpAny_bind (wpAny_fieldsOf ho hd ?_)
 have hown:Builtin.Dict_items.ownsTuple "dict_keyiterator"=false:=by decide
 simp only [hown,Bool.false_eq_true,if_false]
 show wpAny _ _ (if (Value.ref d == Value.none)=true then _ else _) _ _ s
 rw [if_neg (show ¬ ((Value.ref d == Value.none)=true) from Bool.false_ne_true)]
 refine wpAny_bind (wpAny_pure ?_)
 refine wpAny_bind (wpAny_dictEntries hod hdd ?_)
 rw [if_neg (by simp)]
 refine wpAny_bind (wpAny_pure ?_)
 refine wpAny_bind (wpAny_dictEpoch hod hdd ?_)
 rw [if_neg (by simp)]
 refine wpAny_pure ?_
 simp only [show ¬ ((i:Int) < 0) from by omega,if_false,Int.toNat_natCast,hx]
 refine wpAny_bind ?_
 first | refine wpAny_bind (wpAny_typeNameOfWhole_keyiter hit.typeIs (wpAny_pure ?_)) | refine wpAny_bind (wpAny_typeNameOf_keyiter hit.typeIs (wpAny_pure ?_))
 refine wpAny_bind (wpAny_isOneOf_keyiter hit.typeIs ?_)
 show wpAny _ _ (setField (.ref it) 1 (rawInt ((i:Int)+1)) >>= _) _ _ s
 refine wpAny_bind (wpAny_setField ho hd (by simp) ?_)
 have hit':(s.heap.update it (Obj.mapFields (·.setIfInBounds 1 (rawInt ((i:Int)+1))))).IsKeyIter it d (i+1) es.size ep :=
  ⟨_,Heap.get?_update_self _ ho (Obj.isFreed_of_fields (Obj.data_mapFields hd _)),(Obj.cls_mapFields ..).trans hc,by rw [Obj.data_mapFields hd];simp [rawInt]⟩
 refine wpAny_bind (wpAny_holding ?_)
 refine wpAny_bind (wpAny_isOneOf_keyiter (s:={ s with heap:=s.heap.update it (Obj.mapFields (·.setIfInBounds 1 (rawInt ((i:Int)+1)))) }) hit'.typeIs ?_)
 show wpAny _ _ (pure e.key) _ _ _
 exact wpAny_pure (wpAny_pure ⟨_,rfl,wpAny_pure (hQ _ hit' (Heap.SameBut.update ..))⟩)
theorem Pk {it:Addr} {i:Nat} {Q:Option Value->Shared->Prop} (hh:A.handled=none) (hit:s.heap.IsKeyIter it d i es.size ep) (hm:DH s.heap d es ep) (hx:es.size<=i)
 (hQ:∀h',Heap.ExtBut it s.heap h'->Q none { s with heap:=h' }):wpAny (model prog w) A (pyNext (.ref it)) Q E s:=by
 obtain ⟨o,ho,hc,hd⟩:=id hit
 obtain ⟨od,hod,hcd,hdd⟩:=id hm
 unfold pyNext
 refine wpAny_bind (wpAny_attempt (wpAny_callSpecial?_slot (name:=Str.ofString "__next__") hit.typeIs F.slot_dict_keyiterator_next
  (wpAny_call_entry F.slot_dict_keyiterator_next hit.typeIs F.entry_dict_keyiterator_next ?_ (F.args_dict_keyiterator_next_1 _))))
 refine wpAny_bind (wpAny_pure ?_)
 refine wpAny_bind ?_
 refine wpAny_bind ?_
 first | refine wpAny_bind (wpAny_typeNameOfWhole_keyiter hit.typeIs (wpAny_pure ?_)) | refine wpAny_bind (wpAny_typeNameOf_keyiter hit.typeIs (wpAny_pure ?_))
 refine wpAny_bind (wpAny_fieldsOf ho hd ?_)
 have hown:Builtin.Dict_items.ownsTuple "dict_keyiterator"=false:=by decide
 simp only [hown,Bool.false_eq_true,if_false]
 show wpAny _ _ (if (Value.ref d == Value.none)=true then _ else _) _ _ s
 rw [if_neg (show ¬ ((Value.ref d == Value.none)=true) from Bool.false_ne_true)]
 refine wpAny_bind (wpAny_pure ?_)
 refine wpAny_bind (wpAny_dictEntries hod hdd ?_)
 rw [if_neg (by simp)]
 refine wpAny_bind (wpAny_pure ?_)
 refine wpAny_bind (wpAny_dictEpoch hod hdd ?_)
 rw [if_neg (by simp)]
 refine wpAny_pure ?_
 simp only [show ¬ ((i:Int) < 0) from by omega,if_false,Int.toNat_natCast,Array.getElem?_eq_none hx]
 refine wpAny_bind ?_
 first | refine wpAny_bind (wpAny_typeNameOfWhole_keyiter hit.typeIs (wpAny_pure ?_)) | refine wpAny_bind (wpAny_typeNameOf_keyiter hit.typeIs (wpAny_pure ?_))
 show wpAny _ _ (setField (.ref it) 0 .none >>= _) _ _ s
 refine wpAny_bind (wpAny_setField ho hd (by simp) ?_)
 show wpAny _ _ (newExc (.type "StopIteration") [] >>= _) _ _ _
 refine wpAny_bind ?_
 simp only [newExc,newTuple]
 refine wpAny_bind (wpAny_newObj_type ?_ (by size_fits))
 refine wpAny_bind (m:=firstArgMember _ _) (wpAny_of_eq (a:=Value.none) (by first | rfl | (simp only [firstArgMember];rfl)) ?_)
 refine wpAny_newObj_type ?_ (by size_fits)
 simp only [raiseNew]
 refine wpAny_bind (wpAny_handled ?_)
 rw [show A.in1.handled=none from hh]
 refine wpAny_bind (wpAny_pure (wpAny_throw ?_))
 refine wpAny_bind (wpAny_isInstance (T:="StopIteration") (b:=true) ⟨_,Heap.get?_push_size _ rfl,rfl⟩ isSubtype_stop ?_)
 exact wpAny_pure (hQ _ (((Heap.SameBut.update ..).extBut.push _).push _))
theorem Ng (hh:A.handled=none) (I:Addr) (hne:d≠I):Walks prog w A I [I,d] [I] es.size (fun i v=>∃e,es[i]?=some e/\v=e.key) (fun i h=>h.IsKeyIter I d i es.size ep/\DH h d es ep) where
 sub:=fun b hb=>by simp at hb;simp [hb]
 frame:=fun _ _ _ st hk=>⟨st.1.at fun o e=>hk I (by simp) o e,st.2.at fun o e=>hk d (by simp) o e⟩
 item:=fun i s Q E hi st hQ=>by
  obtain ⟨e,hx⟩:∃e,es[i]?=some e:=⟨es[i],by simp [hi]⟩
  refine Ov st.1 st.2 hx fun h' hit' hs'=>?_
  exact hQ e.key h' s.toks ⟨e,hx,rfl⟩ ⟨hit',st.2.at fun o q=>hs'.extBut d o hne q⟩ fun b o hb q=>hs'.extBut b o (fun h=>hb (by simp [h])) q
 done:=fun s Q E st hQ=>Pk hh st.1 st.2 (Nat.le_refl _) fun h' he'=>hQ h' s.toks fun b o hb q=>he' b o (fun h=>hb (by simp [h])) q
 self:=fun _ _ _ _ st hQ=>wpAny_pyIter_keyiter st.1 hQ
theorem Pl (lo:(d == sysModules)=false):KdlSrc prog w "dict" d d es.size (fun i v=>∃e,es[i]?=some e/\v=e.key) (fun h=>DH h d es ep) where
 type:=fun _ hm=>hm.typeIs
 there:=fun _ hm=>⟨hm.lt,hm.lt⟩
 keep:=fun _ _ hm hk=>hm.at fun o e=>hk d (.inl rfl) o e
 notList:=by decide
 notTuple:=by decide
 hint:=fun _ _ _ _ hm hq=>kdl_hint_dict hm.typeIs hq
 iter:=fun _ s hh hm=>⟨_,_,(fun _ _ hq=>Ot lo hm hq),Ng hh _ (Nat.ne_of_lt hm.lt),⟨⟨_,Heap.get?_push_size _ rfl,rfl,rfl⟩,hm.at fun o e=>Heap.get?_push_of_some _ e⟩⟩
theorem Ou {acc:Array Value} (h:ItemsOf (fun i v=>∃e,es[i]?=some e/\v=e.key) acc es.size):acc=es.map (·.key):=by
 obtain ⟨h1,h2⟩:=h
 apply Array.ext
 ·simpa using h1
 ·intro i hi hj
  obtain ⟨e,he,hk⟩:=h2 i acc[i] (by simp [hi])
  have hi':i < es.size:=by omega
  rw [Array.getElem?_eq_getElem hi'] at he
  rw [hk,Array.getElem_map,Option.some.inj he]
theorem K7 {R:List Value->Shared->Prop} (lo:(d == sysModules)=false) (hm:DH s.heap d es ep) (hh:A.handled=none) (hn:es.size<=sizeLine)
 (h:∀(h':Heap) (tk:Nat),(∀b o,s.heap.get? b=some o->h'.get? b=some o)->s.heap.objs.size < h'.objs.size->R (es.toList.map (·.key)) { s with heap:=h',toks:=tk }) :
 wpAny (model prog w) A (collect (.ref d)) R E s:=by
 have hlt:=hm.lt
 unfold collect
 refine wpAny_bind (wpAny_runValue (codeAny_builtin entry_proto_collect' ?_))
 rw [Around.under_plainId PySem.F.plain_proto_collect _]
 show wpAny _ A.in1 (newList [] >>= fun l=>again (.builtin "list.__iadd__" ⟨[l,.ref d],[]⟩)) _ _ s
 refine wpAny_bind (wpAny_newObj_type ?_)
 refine wpAny_pure ⟨plainId_quiet PySem.F.plain_list_iadd _,codeAny_builtin entry_list_iadd' ?_⟩
 rw [Around.under_plainId PySem.F.plain_list_iadd _]
 have hS₁:(s.heap.push { cls:=.type "list",data:=.seq ([]:List Value).toArray }).get? s.heap.objs.size=some { cls:=.type "list",data:=.seq #[] }:=Heap.get?_push_size _ rfl
 show wpAny _ A.in1 (Builtin.List.listExtendWith (.ref s.heap.objs.size) (.ref d) (.ref s.heap.objs.size)) _ _ _
 have key:=kdl_extend (A:=A) (s:={ s with heap:=s.heap.push { cls:=.type "list",data:=.seq ([]:List Value).toArray } })
  (R:=fun (q:Result) (s':Shared)=>∃(h':Heap) (tk c':Nat),q=.ok (.ret (.ref s.heap.objs.size))/\s'={ s with heap:=h',toks:=tk } /\
   (∀b o,s.heap.get? b=some o->h'.get? b=some o)/\h'.get? s.heap.objs.size=some { cls:=.type "list",dict:=none,data:=.seq (es.map (·.key)) c',slots:=#[] })
  (Pl (prog:=prog) (w:=w) (es:=es) (ep:=ep) lo) hh (hm.at fun o e=>Heap.get?_push_of_some _ e) s.heap.objs.size (Nat.ne_of_gt hlt) (Nat.ne_of_gt hlt) (.ref s.heap.objs.size) 0 hS₁
  (fun h' tk acc' c' hk hS' hacc=>⟨h',tk,c',rfl,rfl,fun b o e=>hk b o (Nat.ne_of_lt (Heap.lt_size e)) (Heap.get?_push_of_some _ e),by rw [<- Ou hacc];exact hS'⟩) hn
 refine wpAny_mono key (fun fin s' x=>?_) fun e s' x=>?_
 ·cases fin with
  | done f =>
    obtain ⟨h',tk,c',e,rfl,hk,hS'⟩:=x
    cases e
    show wpAny _ A (load s.heap.objs.size >>= _) _ _ _
    refine wpAny_bind (wpAny_load hS' ?_)
    have:=h h' tk hk (Heap.lt_size hS')
    rw [<- Array.toList_map] at this
    exact wpAny_pure this
  | again c₁ =>
    refine ⟨x.1,codeAny_mono x.2 fun q s₂ y=>?_⟩
    obtain ⟨h',tk,c',rfl,rfl,hk,hS'⟩:=y
    show wpAny _ A (load s.heap.objs.size >>= _) _ _ _
    refine wpAny_bind (wpAny_load hS' ?_)
    have:=h h' tk hk (Heap.lt_size hS')
    rw [<- Array.toList_map] at this
    exact wpAny_pure this
 ·obtain ⟨_,_,_,e',_⟩:=x
  cases e'
theorem G4 {vs:List Value} (lo:(d == sysModules)=false) (hm:DH s.heap d es ep) (hz:es.size<=1000) (hh:A.handled=none) (hv:es.toList.map (·.key)=vs) {R:Value->Shared->Prop}
 (h:∀(h':Heap) (tk:Nat) (a:Addr),(∀b o,s.heap.get? b=some o->h'.get? b=some o/\b≠a)->s.heap.objs.size<=a->h'.get? a=some (seqObj "list" vs.toArray 0) ->
  wpAny (model prog w) A.in1.in1 (Builtin.«list.sort» ⟨[.ref a],[]⟩) (fun fin s'=>∃v,fin=.done (.ret v)/\R (.ref a) s') E { s with heap:=h',toks:=tk }) :
 wpAny (model prog w) A (call (.builtin "sorted") [.ref d]) R E s:=by
 refine Calls.call_function_entry kind_sorted plain_sorted entry_sorted (args_sorted1 _) ?_
 unfold Builtin.«sorted»
 refine wpAny_bind (m:=checkCount "sorted" 1 1 _) (wpAny_pure ?_)
 refine wpAny_bind (K7 (A:=A.in1) lo hm hh (by rw [sizeLine_eq];omega) fun h' tk hk ge=>?_)
 rw [hv]
 have hl:vs.length<=1000:=by rw [<- hv,List.length_map,Array.length_toList];exact hz
 refine wpAny_bind (wpAny_newList ?_ (by rw [sizeLine_eq];omega))
 have ho:(h'.push (seqObj "list" vs.toArray 0)).get? h'.objs.size=some (seqObj "list" vs.toArray 0):=Heap.get?_push_size _ rfl
 refine wpAny_bind (wpAny_holding (wpAny_call_entry slot_list_sort ⟨_,ho,rfl⟩ entry_list_sort ?_ (args_list_sort _)))
 refine wpAny_mono (h _ tk h'.objs.size (fun b o e=>⟨Heap.get?_push_of_some _ (hk b o e),Nat.ne_of_lt (Heap.lt_size (hk b o e))⟩) (Nat.le_of_lt ge) ho) (fun fin s' x=>?_) fun _ _ x=>x
 obtain ⟨v,rfl,q⟩:=x
 exact ⟨_,rfl,wpAny_pure ⟨_,rfl,q⟩⟩
end
section
variable {X:Cx}
theorem Mh {H:Hp}:∀{kvs:List (List Key × V)} {xs:List (List Key × Addr × Value)} {ks:List (List Int)},KT H kvs xs->kvs.map (·.1)=ks.map (List.map Sum.inl) ->
 ∃qs:List (Addr × List Int),xs.map (fun x=>Value.ref x.2.1)=(qs.map (·.1)).map Value.ref/\qs.map (·.2)=ks/\∀q∈qs,H q.1=some (.tup (q.2.map V.int)):=by
 intro kvs xs ks r
 induction r generalizing ks with
 | nil =>
   intro e
   cases ks with
   | nil=>exact ⟨[],rfl,rfl,fun _ m=>nomatch m⟩
   | cons _ _=>cases e
 | @cons p q ps qr hq t ih =>
   intro e
   cases ks with
   | nil=>cases e
   | cons k ks =>
     injection e with e1 e2
     obtain ⟨qs,a1,a2,a3⟩:=ih e2
     refine ⟨(q.2.1,k) :: qs,?_,?_,fun x m=>?_⟩
     ·rw [List.map_cons,a1]
      rfl
     ·rw [List.map_cons,a2]
     ·rcases List.mem_cons.mp m with m | m
      ·subst m
       have h:=hq.2.1
       have e1':p.1=k.map Sum.inl:=e1
       rw [e1',List.map_map] at h
       exact h
      ·exact a3 x m
theorem Iy (hc:X.calm=true) (hu:X.A.units+64 < cLine):CP X (.builtin "sorted") (fun xs H Q=>∃(d:Addr) (kvs:List (List Key × V)) (ks:List (List Int)),xs=[.ref d]/\Rd H d (.dT kvs)/\kvs.map (·.1)=ks.map (List.map Sum.inl)/\ks.length < 64 /\
 ∀(l:Addr) (rs:List (Addr × List Int)),(∀q∈rs,H q.1=some (.tup (q.2.map V.int)))->(rs.map (·.2)).Perm ks->rs.Pairwise (fun x y=>HT.lexLt y.2 x.2=false)->H l=none->Q (.ref l) (upd H l (.lst (rs.map fun q=>V.ref q.1)))):=by
 intro pins s σ H xs us Q I r h
 obtain ⟨d,kvs,ks,rfl,hd,hks,h64,q⟩:=h
 obtain ⟨u,rfl,rx⟩:=Dv r
 cases rx
 obtain ⟨_,lo,xs,kt,o,es,ep,h1,h2,h3,h4,_,_⟩:=GT I.hok hd
 obtain ⟨qs,b1,b2,b3⟩:=Mh kt hks
 have hv:es.toList.map (·.key)=(qs.map (·.1)).map Value.ref:=by
  rw [h4,List.map_map,<- b1]
  rfl
 have hql:qs.length=ks.length:=by rw [<- b2,List.length_map]
 have hes:es.size=qs.length:=by
  have:=congrArg List.length hv
  simpa using this
 have hp:Paired (Cw s.heap) ((qs.map (·.1)).map Value.ref) (qs.map (·.2)):=by
  clear hv hql hes b1 b2
  induction qs with
  | nil=>exact .nil
  | cons q0 qr ih =>
    refine .cons ?_ (ih fun q m=>b3 q (List.mem_cons_of_mem _ m))
    obtain ⟨jts,rj,tj,_⟩:=I.tuple (SqT.of (b3 q0 (List.mem_cons_self ..)))
    exact ⟨q0.1,jts.toArray,rfl,tj,by simpa using BN rj⟩
 refine G4 lo ⟨o,h1,h2,h3⟩ (by omega) (I.ok.hd hc) hv fun h' tk a kp ge ho=>?_
 have hp':Paired (Cw h') ((qs.map (·.1)).map Value.ref) (qs.map (·.2)):=Paired.mapP hp fun v ns x=>x.keep fun b o _ e=>(kp b o e).1
 have ll:((qs.map (·.1)).map Value.ref).length=qs.length:=by rw [List.length_map,List.length_map]
 refine KD (s:={ s with heap:=h',toks:=tk }) ho hp' (by omega) (by show X.A.units+1+1 < cLine;omega) fun p a1 a2=>⟨_,rfl,?_⟩
 obtain ⟨e,he⟩:=sortedHeap_at (out:=List.toArray (p.toList.map fun i=>((qs.map (·.1)).map Value.ref).getD i Value.none)) ho
 have hfr:H a=none:=I.hok.fresh ge
 have hps:=a1.size
 have lt:∀i∈p.toList,i < qs.length:=fun i m=>by
  have:=List.mem_range.mp (a1.mem_iff.mp m)
  omega
 let rs:=p.toList.map fun i=>qs.getD i (0,[])
 have eo:(p.toList.map fun i=>((qs.map (·.1)).map Value.ref).getD i Value.none)=(rs.map (·.1)).map Value.ref:=by
  show _=((p.toList.map fun i=>qs.getD i (0,[])).map (·.1)).map Value.ref
  simp only [List.map_map]
  refine List.map_congr_left fun i m=>?_
  have hi:=lt i m
  simp [hi]
 rw [eo] at he ⊢
 have pm:rs.Perm qs:=by
  have e1:(List.range ((qs.map (·.1)).map Value.ref).length).map (fun i=>qs.getD i ((0:Addr),([]:List Int)))=qs:=by
   rw [ll]
   apply List.ext_getElem
   ·simp
   ·intro i h1 h2
    simp [h2]
  have:=List.Perm.map (fun i=>qs.getD i ((0:Addr),([]:List Int))) a1
  rw [e1] at this
  exact this
 refine ⟨.ref _,_,I.laid (t':=tk) (fun b o hb=>?_) ge (show Bx X.prog X.w _ _ _ (.lst (rs.map fun q=>V.ref q.1)) from ⟨?_,(rs.map (·.1)).map Value.ref,e,?_,he⟩),rfl,q _ rs (fun q m=>b3 q (pm.mem_iff.mp m)) (by rw [<- b2];exact pm.map _) ?_ hfr⟩
 ·obtain ⟨k1,k2⟩:=kp b o hb
  rw [sortedHeap_old k2 (Heap.lt_size k1)]
  exact k1
 ·rw [List.length_map,pm.length_eq,sizeLine_eq]
  omega
 ·have:=EO (rs.map (·.1))
  rw [List.map_map] at this
  exact this
 ·rw [List.pairwise_iff_getElem]
  intro i j hi hj hij
  have hi':i < p.size:=by simpa [rs] using hi
  have hj':j < p.size:=by simpa [rs] using hj
  have g:=a2 i j (by omega) (by omega)
  have gi:(qs.map (·.2)).getD (p.getD i 0) []=(rs[i]).2:=by
   have l1:=lt p[i] (by simp)
   simp [rs,Array.getD,hi',l1]
  have gj:(qs.map (·.2)).getD (p.getD j 0) []=(rs[j]).2:=by
   have l1:=lt p[j] (by simp)
   simp [rs,Array.getD,hj',l1]
  have g2:HT.lexLt ((qs.map (·.2)).getD (p.getD j 0) []) ((qs.map (·.2)).getD (p.getD i 0) [])=false:=g
  rw [gi,gj] at g2
  exact g2
theorem IO (hc:X.calm=true):CP X (.builtin "max") (fun xs H Q=>∃(a:Addr) (ns:List Int),xs=[.ref a]/\SqL X.K H a (ns.map V.int)/\0 < ns.length/\∀M,M∈ns->(∀z∈ns,z<=M)->Q (.int M) H):=by
 intro pins s σ H xs us Q I r h
 obtain ⟨a,ns,rfl,hq,hne,q⟩:=h
 obtain ⟨u,rfl,rx⟩:=Dv r
 cases rx
 obtain ⟨its,rv,pl,hz⟩:=I.list hq
 have hi:=BN rv
 obtain ⟨xs,e⟩:=hi.allInts.items
 have hns:ns=xs.toList.map (·.1):=by
  rw [<- hi.numsOf,<- nums_intItems,<- e]
 have hsz:0 < xs.size:=by
  have h3:=hne;rw [hns,List.length_map,Array.length_toList] at h3;exact h3
 have hl:=pl.isList
 rw [e] at hl
 refine max_intList (I.ok.hd hc) hl hsz fun v h' tk hv hk=>?_
 obtain ⟨t,rfl⟩:=intItems_at hv
 obtain ⟨_,h2⟩:=argBest_gt (numAt xs) (xs.size - 1)
 refine ⟨.int _,H,I.kept hk,⟨t,rfl⟩,q _ ?_ fun z m=>?_⟩
 ·rw [hns,numAt_eq];exact getD_mem (by rw [List.length_map,Array.length_toList];omega)
 ·rw [hns] at m
  obtain ⟨j,hj,rfl⟩:=mem_getD m
  rw [List.length_map,Array.length_toList] at hj
  rw [<- numAt_eq];exact h2 j (by omega)
theorem MC (hc:X.calm=true):CP X (.builtin "min") (fun xs H Q=>∃(a:Addr) (ns:List Int),xs=[.ref a]/\SqL X.K H a (ns.map V.int)/\0 < ns.length/\∀M,M∈ns->(∀z∈ns,M<=z)->Q (.int M) H):=by
 intro pins s σ H xs us Q I r h
 obtain ⟨a,ns,rfl,hq,hne,q⟩:=h
 obtain ⟨u,rfl,rx⟩:=Dv r
 cases rx
 obtain ⟨its,rv,pl,hz⟩:=I.list hq
 have hi:=BN rv
 obtain ⟨xs,e⟩:=hi.allInts.items
 have hns:ns=xs.toList.map (·.1):=by
  rw [<- hi.numsOf,<- nums_intItems,<- e]
 have hsz:0 < xs.size:=by
  have h3:=hne;rw [hns,List.length_map,Array.length_toList] at h3;exact h3
 have hl:=pl.isList
 rw [e] at hl
 refine min_intList (I.ok.hd hc) hl hsz fun v h' tk hv hk=>?_
 obtain ⟨t,rfl⟩:=intItems_at hv
 obtain ⟨_,h2⟩:=argBest_lt (numAt xs) (xs.size - 1)
 refine ⟨.int _,H,I.kept hk,⟨t,rfl⟩,q _ ?_ fun z m=>?_⟩
 ·rw [hns,numAt_eq];exact getD_mem (by rw [List.length_map,Array.length_toList];omega)
 ·rw [hns] at m
  obtain ⟨j,hj,rfl⟩:=mem_getD m
  rw [List.length_map,Array.length_toList] at hj
  rw [<- numAt_eq];exact h2 j (by omega)
end
end L2
namespace L2
open PySem
end L2
namespace L2
open PySem PySem.W PySem.Spec PyProof.Rows
section
variable {prog:Program} {w:World} {A:Around} {E:Value->Shared->Prop} {s:Shared}
end
section
variable {prog:Program} {w:World} {A:Around} {R:Result->Shared->Prop} {I:Addr} {fp wr:List Addr} {G:Array GenState->Array GenState->Prop} {n:Nat} {P:Nat->Value->Prop} {St:Nat->Shared->Prop}
end
section
variable {prog:Program} {w:World} {A:Around} {E:Value->Shared->Prop} {s:Shared}
set_option maxRecDepth 100000 in
set_option maxHeartbeats 3200000 in
end
end L2
namespace L2
open PySem PySem.W PySem.Spec PyProof.Rows
section
variable {prog:Program} {w:World} {A:Around} {E:Value->Shared->Prop} {s:Shared}
end
section
variable {prog:Program} {w:World} {A:Around} {E:Value->Shared->Prop} {s:Shared} {a:Addr} {es:Array (Int × Value)} {ep:Nat} {t:SetTable}
end
end L2
namespace L2
open PySem PySem.W PySem.Spec PyProof.Rows
section
variable {X:Cx} {e:Expr} {te:TE} {p p2 pos pos2:Pos}
end
end L2
namespace L2
open PySem PySem.Spec PyProof.Rows
section
variable {X:Cx} {pins:List (Addr × Obj)} {σ:St} {H:Hp} {s:Shared} {h':Heap}
end
section
variable {X:Cx}
end
section
variable {X:Cx}
theorem Iv:∀{bs:List Bool} {us:List Value},AJ (bs.map V.bl) us->us=bs.map Value.bool
 | [],_,.nil=>rfl
 | _ :: _,_,.cons r rr=>by
   cases r
   rw [Iv rr]
   rfl
theorem MB (bs:List Bool):(List.range bs.length).all (fun i=>bs.getD i false)=bs.all id:=by
 rw [Bool.eq_iff_iff,List.all_eq_true,List.all_eq_true]
 constructor
 ·intro h b hb
  obtain ⟨i,hi,rfl⟩:=List.mem_iff_getElem.mp hb
  have:=h i (List.mem_range.mpr hi)
  simpa [List.getD_eq_getElem?_getD,hi] using this
 ·intro h i hi
  have hi':=List.mem_range.mp hi
  have:=h _ (List.getElem_mem hi')
  simpa [List.getD_eq_getElem?_getD,hi'] using this
theorem Lg {P:Program} {w:World} {A:Around} {bs:List Bool}:TruthOf P w A (fun i v=>(bs.map Value.bool).toArray[i]?=some v) (fun i=>bs.getD i false):=by
 intro i v s Q E hP hQ
 have hP':(bs.map Value.bool)[i]?=some v:=by simpa using hP
 rw [List.getElem?_map] at hP'
 cases e:bs[i]? with
 | none=>rw [e] at hP';cases hP'
 | some b =>
   rw [e] at hP'
   have:Value.bool b=v:=Option.some.inj hP'
   subst this
   refine wpAny_truthy_bool ?_
   have e2:bs.getD i false=b:=by rw [List.getD_eq_getElem?_getD,e];rfl
   dsimp only at hQ
   rw [e2] at hQ
   exact hQ
theorem Nz (hc:X.calm=true) {K:PySem.W.Frag} (hK:X.K=K:=by rfl):CP X (.builtin "all") (fun xs H Q=>∃(a:Addr) (bs:List Bool),xs=[.ref a]/\SqL K H a (bs.map V.bl)/\Q (.bl (bs.all id)) H):=by
 subst hK
 intro pins s σ H xs us Q I r h
 obtain ⟨a,bs,rfl,hq,q⟩:=h
 obtain ⟨u,rfl,rx⟩:=Dv r
 cases rx
 obtain ⟨its,rv,pl,hz⟩:=I.list hq
 have ei:=Iv rv
 subst ei
 have lt:a < s.heap.objs.size:=by obtain ⟨o,q,_⟩:=pl.isList;exact Heap.lt_size q
 refine call_all_walk (wpAny_pyIter_list pl.isList ?_)
 refine ⟨_,_,_,_,_,_,_,rfl,Walks.list (A:=X.A.in1) (I.ok.hd hc) s.heap.objs.size a (Nat.ne_of_lt lt) (bs.map Value.bool).toArray,⟨⟨_,Heap.get?_push_size _ rfl,rfl,rfl⟩,pl.isList.at fun o q=>Heap.get?_push_of_some _ q⟩,Lg,fun h' tk hk=>?_⟩
 rw [List.size_toArray,List.length_map,MB]
 exact ⟨.bl _,H,I.kept (t':=tk) fun b o q=>hk b o (by simpa using Nat.ne_of_lt (Heap.lt_size q)) (Heap.get?_push_of_some _ q),rfl,q⟩
end
end L2
namespace L2
open PySem PySem.Spec PyProof.Rows
noncomputable def OD (n:Nat) (wi:TI) (g:TG) (tt:TT) (te:TE):TE:=fun σ H Q=>wi σ H fun J H1=>∀D,H1 D=none->∃W:Nat->Nat->List V->Hp->Prop,(∃m,W 0 m [] (upd H1 D (.lst [])))/\∀i m ys H2,W i m ys H2 ->
 H2 D=some (.lst ys)/\((J.stop i H2/\Q (.ref D) H2)\/(J.go i H2/\ys.length < sizeLine/\∀x H3,J.yld i H2 x H3->∀os:St,os.length=n->g x (σ++os) H3 fun σ4 H4=>(∃os':St,σ4=σ++os'/\os'.length=n)/\tt σ4 H4 fun b H5=>if b=true then te σ4 H5 fun y H6=>H6 D=some (.lst ys)/\∃m',m' < m/\W (i+1) m' (ys++[y]) (upd H6 D (.lst (ys++[y])))
  else ∃m',m' < m/\W (i+1) m' ys H5))
structure Ez (N Nc:List Str) (xs:List Str) (sc fsc:Scope):Prop where
 kind:sc.kind=.function
 cell:∀y∈sc.names,y.2≠.cell
 nm:∀y∈sc.names,y.2=.local->sc.names.lookup y.1=some .local
 own:∀x∈xs,sc.names.lookup x=some .local
 fr:∀y∈sc.names,y.2=.free->fsc.names.lookup y.1=some .cell\/fsc.names.lookup y.1=some .free
 len:Nc.length=N.length+xs.length
 nd:Nc.Nodup
 last:Nc.drop N.length=xs
 slot:((List.range N.length).all fun i=>match Nc[i]? with
  | some y=>(match sc.names.lookup y with | some .free=>N[i]? == some y | some .local=>false | some .cell=>false | _=>true)
  | none=>true)=true
theorem Ez.at {N Nc:List Str} {xs:List Str} {sc fsc:Scope} (C:Ez N Nc xs sc fsc) {i:Nat} {y:Str} (hi:i < N.length) (h:Nc[i]?=some y):sc.names.lookup y≠some .local/\sc.names.lookup y≠some .cell/\(sc.names.lookup y=some .free->N[i]?=some y):=by
 have q:=List.all_eq_true.mp C.slot i (List.mem_range.mpr hi)
 rw [h] at q
 dsimp only at q
 cases e:sc.names.lookup y with
 | none=>exact ⟨fun z=>(nomatch z),fun z=>(nomatch z),fun z=>(nomatch z)⟩
 | some k =>
   rw [e] at q
   cases k with
   | «local»=>exact absurd (show false=true from q) Bool.false_ne_true
   | cell=>exact absurd (show false=true from q) Bool.false_ne_true
   | free=>exact ⟨fun z=>(nomatch z),fun z=>(nomatch z),fun _=>by simpa using q⟩
   | _=>exact ⟨fun z=>(nomatch z),fun z=>(nomatch z),fun z=>(nomatch z)⟩
theorem FF {X:Cx} {N Nc xs:List Str} {sc fsc:Scope} {cl:List (Str × Addr)} {s:Shared} {H:Hp} {ex:List Addr} {x:Str} {px:Pos} {j n:Nat} (cn:Ez N Nc xs sc fsc) (hj:xs[j]?=some x) (hn:n=N.length+j):PG (X.inComp Nc sc cl s H ex) (.Name x px) (DT n):=by
 have own:(relabel sc X.env).names.lookup x=some .local:=by
  have e:=D5 X.env sc.names x
  rw [cn.own x (List.mem_of_getElem? hj)] at e
  exact e
 refine Ce (X:=X.inComp Nc sc cl s H ex) cn.nd ?_ (.inl own) (.inr own)
 show Nc[n]?=some x
 rw [hn,<- List.getElem?_drop,cn.last]
 exact hj
theorem QY {prog:Program} {w:World} {A:Around} {R:Result->Shared->Prop} {s:Shared} {elt tg iter:Expr} {ifs:List Expr} {scope:Scope} {pos:Pos} {it acc:Value} {env:Env} (I:Nat->Shared->Prop)
 (turn:∀n s,I n s->wpAny (model prog w) A (pyNext it) (fun r s₁=>match r with
  | none=>R (.ok .next) s₁
  | some v=>wpAny (model prog w) A (letOwnedTupleGo tg it v) (fun _ z=>wpAny (model prog w) A (assign tg env v) (fun _ s₂ =>
   wpAny (model prog w) A (forIn ifs true fun c r=>if r=true then do let ok <- isTrue c env (eval c env);pure (ForInStep.yield ok) else pure (ForInStep.yield r)) (fun ok s₃ =>
    if ok=true then wpAny (model prog w) A (eval elt env) (fun x s₄=>wpAny (model prog w) A (call (.builtin "list.append") [acc,x]) (fun _ s₅=>∃m,m < n/\I m s₅) (fun _ _=>False) s₄) (fun _ _=>False) s₃
    else ∃m,m < n/\I m s₃) (fun _ _=>False) s₂) (fun _ _=>False) z) (fun _ _=>False) s₁) (fun _ _=>False) s)
 (n:Nat) (h:I n s):codeAny (model prog w) A (.compLoop (.ListComp elt [⟨tg,iter,ifs,0⟩] scope pos) 0 it acc env) R s:=by
 refine codeAny_loop rfl I (fun k z y=>?_) n h
 show wpAny _ A ((compTurn (.ListComp elt [⟨tg,iter,ifs,0⟩] scope pos) 0 it acc env).onRaise fun x=>do noteFrame x env;theTreesLotGoes x) _ _ z
 refine wpAny_noted ?_
 rw [compTurn_list]
 refine wpAny_bind (wpAny_standAt (wpAny_bind (Ip (turn k z y) fun r s₁ q1=>?_)))
 cases r with
 | none=>exact wpAny_pure q1
 | some v =>
   refine wpAny_bind (Ip q1 fun _ z q2=>wpAny_bind (Ip q2 fun _ s₂ q3=>wpAny_bind (Ip q3 fun ok s₃ q4=>?_)))
   cases ok with
   | false=>exact wpAny_pure ⟨rfl,q4⟩
   | true=>exact wpAny_bind (wpAny_bind (Ip q4 fun x s₄ q5=>wpAny_bind (Ip q5 fun _ s₅ q6=>wpAny_pure (wpAny_pure ⟨rfl,q6⟩))))
section
variable {X:Cx} {elt iter:Expr} {xs:List Str} {tg:Expr} {g:TG} {pos:Pos} {ifs:List Expr} {sc fsc:Scope} {N Nc:List Str} {wi:TI} {tt:TT} {te:TE}
theorem Fa (hE:X.env.scope=fsc) (hXN:X.N=N) (cn:Ez N Nc xs sc fsc) (hc:X.calm=true)
 (hg:∀cl s H ex,PG (X.inComp Nc sc cl s H ex) tg g) (ht:∀cl s H ex,Lo (X.inComp Nc sc cl s H ex) ifs tt) (he:∀cl s H ex,PE (X.inComp Nc sc cl s H ex) elt te)
 {cl:List (Str × Addr)} (clS:∀y c,cl.lookup y=some c->X.env.cells.lookup y=some c) (clH:∀y∈sc.names,y.2=.free->∃c,cl.lookup y.1=some c)
 {pins:List (Addr × Obj)} {σ:St} {H2:Hp} {s2:Shared} {it:Addr} {fp:List Addr} {tn:Nat->Heap->Prop} {J:It} {Q:VK} {E:Value->Shared->Prop}
 (I2:Inv X pins σ H2 s2) (T:Turn X.prog X.w X.K tg J fp it tn) (st2:tn 0 s2.heap) (f2:∀b∈fp,JY X pins H2 b)
 (h2:∀D,H2 D=none->∃W:Nat->Nat->List V->Hp->Prop,(∃m,W 0 m [] (upd H2 D (.lst [])))/\∀i m ys H2,W i m ys H2 ->
  H2 D=some (.lst ys)/\((J.stop i H2/\Q (.ref D) H2)\/(J.go i H2/\ys.length < sizeLine/\∀x H3,J.yld i H2 x H3->∀os:St,os.length=xs.length->g x (σ++os) H3 fun σ4 H4=>(∃os':St,σ4=σ++os'/\os'.length=xs.length)/\tt σ4 H4 fun b H5=>if b=true then te σ4 H5 fun y H6=>H6 D=some (.lst ys)/\∃m',m' < m/\W (i+1) m' (ys++[y]) (upd H6 D (.lst (ys++[y])))
   else ∃m',m' < m/\W (i+1) m' ys H5))) :
 wpAny (model X.prog X.w) X.A (newList []) (fun acc s₃=>wpAny (model X.prog X.w) X.A (newFunctionEnv sc X.env.globals cl [] X.env.qual none .none (some X.env)) (fun cenv s₄ =>
  codeAny (model X.prog X.w) X.A (.compStart (.ListComp elt [⟨tg,iter,ifs,0⟩] sc pos) 0 (.ref it) acc { cenv with scope:=relabel sc X.env })
   (fun r s'=>r=.ok .next/\∃D H',acc=.ref D/\Inv X pins σ H' s'/\Q (.ref D) H'/\PV X pins H' cenv.locals/\∃m,s'.heap.Ns cenv.locals m) s₄) E s₃) E s2:=by
 refine wpAny_newObj_type (wpAny_newFunctionEnv cn.cell (by intro y hy;simp at hy) (fun h₁ hns₁ hsb₁=>?_) cn.kind)
 dsimp only at hns₁ hsb₁ ⊢
 have hD:H2 s2.heap.objs.size=none:=I2.hok.fresh (Nat.le_refl _)
 obtain ⟨W,⟨m0,w0⟩,turn⟩:=h2 s2.heap.objs.size hD
 have I3:Inv X pins σ (upd H2 s2.heap.objs.size (.lst [])) { s2 with heap:=s2.heap.push { cls:=.type "list",dict:=none,data:=.seq ([]:List Value).toArray } } :=
  I2.laid (t':=s2.toks) (fun b u e=>Heap.get?_push_of_some _ e) (Nat.le_refl _) ⟨Nat.zero_le _,[],0,.nil,Heap.get?_push_size _ rfl⟩
 generalize hs3:({ s2 with heap:=s2.heap.push { cls:=.type "list",dict:=none,data:=.seq ([]:List Value).toArray } }:Shared)=s3 at I3
 have eh:s3.heap=s2.heap.push { cls:=.type "list",dict:=none,data:=.seq ([]:List Value).toArray }:=by rw [<- hs3]
 have e2:({ s2 with heap:=h₁,toks:=s2.toks+([]:List (Str × Value)).length }:Shared)={ s3 with heap:=h₁,toks:=s3.toks }:=by rw [<- hs3];rfl
 generalize hH3:upd H2 s2.heap.objs.size (.lst [])=H3 at I3 w0
 rw [<- eh] at hns₁ hsb₁ ⊢
 rw [e2]
 have below2:∀b,b∈fp->b < s3.heap.objs.size:=fun b hb=>by
  obtain ⟨o,e,_⟩:=T.obj _ _ st2 b hb
  have:s2.heap.objs.size<=s3.heap.objs.size:=by rw [eh,Heap.size_push];exact Nat.le_succ _
  exact Nat.lt_of_lt_of_le (Heap.lt_size e) this
 have old:∀b o,s3.heap.get? b=some o->h₁.get? b=some o:=fun b o e=>(hsb₁.2 b (Nat.ne_of_lt (Heap.lt_size e))).trans (Heap.get?_push_of_some _ e)
 have old2:∀b o,s2.heap.get? b=some o->s3.heap.get? b=some o:=fun b o e=>by rw [eh];exact Heap.get?_push_of_some _ e
 have hsz3:s2.heap.objs.size < s3.heap.objs.size:=by rw [eh,Heap.size_push];exact Nat.lt_succ_self _
 have fpFree:∀b∈fp,H3 b=none:=fun b hb=>by
  rw [<- hH3,Ay (fun z=>?_)]
  ·exact (f2 b hb).1
  ·obtain ⟨o,e,_⟩:=T.obj _ _ st2 b hb
   have:=Heap.lt_size e
   rw [z] at this
   exact Nat.lt_irrefl _ this
 have rl:∀y,(relabel sc X.env).names.lookup y=(sc.names.lookup y).map fun k=>if (k == NameKind.free && X.env.scope.kind == .function && X.env.kindOf y == some .cell) then NameKind.cell else k:=fun y=>D5 X.env sc.names y
 have freeOf:∀y,sc.names.lookup y=some .free->∃c,cl.lookup y=some c:=fun y e=>clH (y,.free) (PySem.mem_of_lookup e) rfl
 have noCell:∀y,sc.names.lookup y≠some .cell:=fun y e=>cn.cell (y,.cell) (PySem.mem_of_lookup e) rfl
 have isFree:∀y,((relabel sc X.env).names.lookup y=some .cell\/(relabel sc X.env).names.lookup y=some .free)->sc.names.lookup y=some .free:=fun y h=>by
  rw [rl y] at h
  cases e:sc.names.lookup y with
  | none=>rw [e] at h;rcases h with z | z <;> exact absurd z (by simp)
  | some k =>
    rw [e] at h
    cases k with
    | free=>rfl
    | cell=>exact absurd e (noCell y)
    | «local»=>rcases h with z | z <;> exact absurd z (by simp)
    | _=>rcases h with z | z <;> exact absurd z (by simp)
 have exOk:∀b∈fp,b≠s3.heap.objs.size/\(∀y c,X.env.cells.lookup y=some c->c≠b)/\b ∉ frs X.stack:=fun b hb=>by
  obtain ⟨g0,g1,g2,g3,g4,g5⟩:=f2 b hb
  refine ⟨Nat.ne_of_lt (below2 b hb),g4,fun z=>?_⟩
  rcases List.mem_cons.mp (I2.stkSub b z) with z | z
  ·exact g1 z
  ·exact g2 z
 have hCnew:X.s₀.heap.objs.size<=s3.heap.objs.size:=I3.sz
 have hCcell:∀y c,X.env.cells.lookup y=some c->c≠s3.heap.objs.size:=fun y c e z=>by
  obtain ⟨v,q⟩:=I3.cell y c e
  have:=q.lt
  rw [z] at this
  exact Nat.lt_irrefl _ this
 have hCpin:∀p∈X.pn++pins,p.1≠s3.heap.objs.size:=fun p hp z=>by
  have:=Heap.lt_size (I3.pin p hp).1
  rw [z] at this
  exact Nat.lt_irrefl _ this
 have okc:(X.inComp Nc sc cl s3 H3 fp).Ok:=by
  refine ⟨I3.ok.mod,cn.kind,I3.ok.glob,I3.ok.blt,Nat.le_refl _,fun y z c h1 h2=>I3.ok.inj y z c (clS y c h1) (clS z c h2),fun y hy=>freeOf y (isFree y hy),fun y c hf=>absurd (show false=true from hf) Bool.false_ne_true,I3.ok.hd,I3.ok.frames,.inl rfl,
   fun b hb=>⟨(exOk b hb).1,fun y c e=>(exOk b hb).2.1 y c (clS y c e)⟩,fun b o e=>I3.bs b o e,Nat.le_trans I3.ok.bsz I3.sz,fun b o e hb=>?_,fun b hb=>(exOk b hb).2.2,I3.stack,I3.stkFree⟩
  obtain ⟨g0,g1,g2,g3,g4,g5⟩:=f2 b hb
  rcases g3 with z | z
  ·exact I3.ok.noex b o e z
  ·exact absurd (Heap.lt_size (I3.ok.bs b o e).1) (Nat.not_lt.mpr z)
 have hlen:σ.length=N.length:=by rw [I3.len,hXN]
 have Ic:Inv (X.inComp Nc sc cl s3 H3 fp) [] (σ++List.replicate xs.length none) H3 { s3 with heap:=h₁,toks:=s3.toks }:=by
  refine ⟨okc,rfl,I3.bare,Un.kept old,⟨_,hns₁,fun i y v h1 h2 h3=>?_⟩,fun y c e=>?_,I3.hok.fresh (Nat.le_refl _),fun y c e=>I3.freeC y c (clS y c e),fun p hp=>absurd (show p∈([]:List (Addr × Obj)) from hp) (by simp),I3.hok.kept old,?_⟩
  ·have hi:i < σ.length:=by
    by_cases hi:i < σ.length
    ·exact hi
    ·rw [List.getElem?_append_right (Nat.not_lt.mp hi)] at h2
     rw [List.getElem?_replicate] at h2
     split at h2 <;> cases h2
   rw [List.getElem?_append_left hi] at h2
   have hi':i < N.length:=by rw [<- hlen];exact hi
   obtain ⟨n1,n2,n3⟩:=cn.at hi' h1
   have hf:sc.names.lookup y=some .free:=by
    rcases h3 with z | z
    ·exfalso
     have z':(relabel sc X.env).names.lookup y=some .local:=z
     rw [rl y] at z'
     cases e:sc.names.lookup y with
     | none=>rw [e] at z';simp at z'
     | some k =>
       rw [e] at z'
       cases k with
       | «local»=>exact n1 e
       | cell=>exact n2 e
       | free =>
         simp only [Option.map_some,Option.some.injEq] at z'
         split at z' <;> cases z'
       | _=>simp at z'
    ·exact isFree y z
   have hN:X.N[i]?=some y:=by rw [hXN];exact n3 hf
   obtain ⟨m,hn,hl⟩:=I3.loc
   have hv:fsc.names.lookup y=some .cell\/fsc.names.lookup y=some .free:=cn.fr (y,.free) (PySem.mem_of_lookup hf) rfl
   have hv':X.env.scope.names.lookup y=some .cell\/X.env.scope.names.lookup y=some .free:=by rw [hE];exact hv
   obtain ⟨u,ru,lk⟩:=hl i y v hN h2 (.inr hv')
   refine ⟨u,ru,.inr ⟨?_,?_⟩⟩
   ·show (relabel sc X.env).names.lookup y=some .cell\/(relabel sc X.env).names.lookup y=some .free
    rw [rl y,hf]
    simp only [Option.map_some,Option.some.injEq]
    split
    ·exact .inl rfl
    ·exact .inr rfl
   ·rcases lk with ⟨kl,_⟩ | ⟨_,c,hc,hcell⟩
    ·exfalso
     have kl':X.env.scope.names.lookup y=some .local:=kl
     rw [kl'] at hv'
     rcases hv' with z | z <;> cases z
    ·obtain ⟨d,hd⟩:=freeOf y hf
     have ed:=clS y d hd
     rw [hc] at ed
     cases ed
     exact ⟨c,hd,hcell.keeps old⟩
  ·obtain ⟨v,q⟩:=I3.cell y c (clS y c e)
   exact ⟨v,q.keeps old⟩
  ·show (σ++List.replicate xs.length none).length=Nc.length
   rw [List.length_append,hlen,cn.len,List.length_replicate]
 have stc:tn 0 ({ s3 with heap:=h₁,toks:=s3.toks }:Shared).heap:=T.keep _ _ _ st2 fun b _ o e=>old b o (old2 b o e)
 have hDf:s2.heap.objs.size ∉ fp:=fun hm=>by
  obtain ⟨o,e,_⟩:=T.obj _ _ st2 _ hm
  exact Nat.lt_irrefl _ (Heap.lt_size e)
 have fpc:∀{pins':List (Addr × Obj)} {H':Hp},pins'=[]->(∀b∈fp,H' b=none)->∀b∈fp,JY (X.inComp Nc sc cl s3 H3 fp) pins' H' b:=fun {pins' H'} hp hn b hb=>by
  subst hp
  exact ⟨hn b hb,(exOk b hb).1,(exOk b hb).2.2,.inl hb,fun y c e=>(exOk b hb).2.1 y c (clS y c e),fun p hp=>absurd (show p∈([]:List (Addr × Obj)) from hp) (by simp)⟩
 have loop:∀s₄:Shared,s₄={ s3 with heap:=h₁,toks:=s3.toks } ->
  codeAny (model X.prog X.w) X.A (.compLoop (.ListComp elt [⟨tg,iter,ifs,0⟩] sc pos) 0 (.ref it) (.ref s2.heap.objs.size) (compEnvC sc cl s3.heap.objs.size X.env))
   (fun r s'=>r=.ok .next/\∃D H',(Value.ref s2.heap.objs.size)=.ref D/\Inv X pins σ H' s'/\Q (.ref D) H'/\PV X pins H' s3.heap.objs.size/\∃m,s'.heap.Ns s3.heap.objs.size m) s₄:=by
  rintro s₄ rfl
  refine QY (fun n s'=>∃(i:Nat) (o:St) (H':Hp) (ys:List V),o.length=xs.length/\Inv (X.inComp Nc sc cl s3 H3 fp) [] (σ++o) H' s'/\tn i s'.heap/\(∀b∈fp,H' b=none)/\W i n ys H') ?_ m0 ⟨0,_,H3,[],List.length_replicate ..,Ic,stc,fpFree,w0⟩
  rintro n s' ⟨i,o,H',ys,lo,I',st',fr',w'⟩
  obtain ⟨hDl,tw⟩:=turn i n ys H' w'
  rcases tw with ⟨stop,q⟩ | ⟨go,hz,step⟩
  ·
   refine thn (T.done (X.inComp Nc sc cl s3 H3 fp) rfl rfl rfl hc i [] s' _ H' _ I' (fpc rfl fr') st' stop) fun r s5 ⟨hr,I5⟩=>?_
   subst hr
   have Ix:Inv X pins σ H' s5:=I3.call' (ch:=fp) I5.os I5.base I5.hok I5.bare fun b hb=>by
    obtain ⟨g0,g1,g2,g3,g4,g5⟩:=f2 b hb
    exact ⟨g3,g1,g4,g5⟩
   have hCf:H' s3.heap.objs.size=none:=I5.free
   obtain ⟨m,hn,_⟩:=I5.loc
   exact ⟨rfl,s2.heap.objs.size,H',rfl,Ix,q,⟨hCf,fun z=>Nat.lt_irrefl _ (by have:=I3.lt;rw [<- z] at this;exact this),hCnew,hCcell,hCpin⟩,m,hn⟩
  ·
   refine thn (T.item (X.inComp Nc sc cl s3 H3 fp) rfl rfl rfl hc i [] s' _ H' _ I' (fpc rfl fr') st' go) fun r s5 ⟨u,hr,h4⟩=>?_
   subst hr
   dsimp only
   refine Ip h4 fun _ s6 ⟨xv,H5,I5,r5,y5,st5,fr5⟩=>?_
   have I5':=I5.pinned (fpc rfl fr5) (T.obj _ _ st5)
   have again:∀{o':St} {H7:Hp} {s7:Shared} {m':Nat} {ys':List V},o'.length=xs.length->Inv (X.inComp Nc sc cl s3 H3 fp) ([]++Hw fp s6.heap) (σ++o') H7 s7->m' < n->W (i+1) m' ys' H7 ->
    ∃m,m < n/\∃(i:Nat) (o:St) (H':Hp) (ys:List V),o.length=xs.length/\Inv (X.inComp Nc sc cl s3 H3 fp) [] (σ++o) H' s7/\tn i s7.heap/\(∀b∈fp,H' b=none)/\W i m ys H':=fun {o' H7 s7 m' ys'} lo' I7 hm w7=>by
    refine ⟨m',hm,i+1,o',H7,ys',lo',I7.unpinned,T.keep _ _ _ st5 fun b hb o e=>(I7.pin (b,o) (List.mem_append_right _ (List.mem_append_right _ (En hb e)))).1,fun b hb=>?_,w7⟩
    obtain ⟨o',e,d⟩:=T.obj _ _ st5 b hb
    exact (I7.pin (b,o') (List.mem_append_right _ (List.mem_append_right _ (En hb e)))).2.1
   refine Ip (hg cl s3 H3 fp _ s6 _ H5 xv u _ I5' r5 (step xv _ y5 o lo)) fun _ s7 ⟨σ7,H7,I7,⟨o7,e7,lo7⟩,q7⟩=>?_
   subst e7
   refine Ip (ht cl s3 H3 fp _ s7 _ _ _ I7 q7) fun b s8 ⟨H8,I8,q8⟩=>?_
   cases b with
   | false =>
     rw [if_neg Bool.false_ne_true] at q8 ⊢
     obtain ⟨m',hm,w8⟩:=q8
     exact again lo7 I8 hm w8
   | true =>
     rw [if_pos rfl] at q8 ⊢
     refine Ip (he cl s3 H3 fp _ s8 _ H8 _ I8 q8) fun y s9 ⟨yv,H9,I9,r9,hD9,m',hm,w9⟩=>?_
     refine Ip (EG _ s9 _ H9 (.ref s2.heap.objs.size) [yv] (.ref s2.heap.objs.size) [y] (fun v H=>v=.non/\H=upd H9 s2.heap.objs.size (.lst (ys++[yv]))) I9 rfl (.cons r9 .nil) ⟨_,ys,yv,rfl,rfl,hD9,hz,rfl,rfl⟩) fun _ s10 ⟨v10,H10,I10,r10,e10,e11⟩=>?_
     subst e11
     exact again lo7 I10 hm w9
 exact codeAny_compStart_list (loop _ rfl) (T.self _ 0 _ _ _ stc (loop _ rfl))
theorem FU (I:∀y,(X.env.kindOf y=some .cell\/X.env.kindOf y=some .free)->∃c,X.env.cells.lookup y=some c) (hE:X.env.scope=fsc) (cn:Ez N Nc xs sc fsc):∀y∈sc.names,y.2=.free->∃c,X.env.cells.lookup y.1=some c:=fun y hy hf=>by
 refine I y.1 ?_
 show X.env.scope.names.lookup y.1=some .cell\/X.env.scope.names.lookup y.1=some .free
 rw [hE]
 exact cn.fr y hy hf
theorem Og (hE:X.env.scope=fsc) (hXN:X.N=N) (cn:Ez N Nc xs sc fsc) (hc:X.calm=true) (hi:PI X tg iter wi)
 (hg:∀cl s H ex,PG (X.inComp Nc sc cl s H ex) tg g) (ht:∀cl s H ex,Lo (X.inComp Nc sc cl s H ex) ifs tt) (he:∀cl s H ex,PE (X.inComp Nc sc cl s H ex) elt te)
 (hs:∀v,foldedSetIterable iter X.env v=pure v:=by intro _;rfl):PE X (.ListComp elt [⟨tg,iter,ifs,0⟩] sc pos) (OD xs.length wi g tt te):=by
 intro pins s σ H Q I h
 obtain ⟨cl,hcl,clS,clH⟩:=EZ (env:=X.env) (sc:=sc) (FU I.ok.has hE cn)
 rw [eval_ListComp]
 refine wpAny_comprehension_free (use:=none) rfl hs hcl cn.kind cn.nm (thn (hi pins s σ H _ I h) fun v s1 h1=>thn h1 fun itv s2 h2=>?_)
 obtain ⟨it,fp,tn,J,H2,rfl,I2,T,st2,f2,h2⟩:=h2
 refine thn (Fa (pos:=pos) (iter:=iter) hE hXN cn hc hg ht he clS clH I2 T st2 f2 h2) fun acc s3 h3=>thn h3 fun cenv s4 h4=>codeAny_mono h4 fun r s' h5=>?_
 obtain ⟨rfl,D,H',rfl,I',q,cloc,m,hn⟩:=h5
 exact ⟨m,hn,fun h' k=>⟨.ref D,H',I'.sameBut cloc k,rfl,q⟩⟩
end
theorem GS {K:PySem.W.Frag} {a:Addr} {zs:List V} {tt:TT} {te:TE} {σ:St} {H1:Hp} {Q:Addr->Hp->Prop} {n m:Nat} (hn:n=σ.length) (hm:m=σ.length+1) (hz:zs.length<=sizeLine) (Pv:Addr->Nat->List V->Hp->Prop)
 (h0:∀D,H1 D=none->Pv D 0 [] (upd H1 D (.lst []))) (hD:∀D i ys H,Pv D i ys H->H D=some (.lst ys)/\ys.length<=i) (hl:∀D i ys H,H1 D=none->Pv D i ys H->SqL K H a zs)
 (hs:∀D i x ys H (K1:VK) (K2:Hp->Prop),H1 D=none->zs[i]?=some x->Pv D i ys H->(∀y H5,H5 D=some (.lst ys)->Pv D (i+1) (ys++[y]) (upd H5 D (.lst (ys++[y])))->K1 y H5)->(∀H4,Pv D (i+1) ys H4->K2 H4) ->
  ∃t v w,x=.ref t/\SqT K H t [v,w]/\tt (σ++[some v,some w]) H fun b H4=>if b=true then te (σ++[some v,some w]) H4 K1 else K2 H4)
 (hd:∀D ys H,H1 D=none->Pv D zs.length ys H->Q D H) :
 ∀D,H1 D=none->∃W:Nat->Nat->List V->Hp->Prop,(∃m,W 0 m [] (upd H1 D (.lst [])))/\∀i k ys H2,W i k ys H2 ->
  H2 D=some (.lst ys)/\(((Itl K a).stop i H2/\Q D H2)\/((Itl K a).go i H2/\ys.length < sizeLine/\∀x H3,(Itl K a).yld i H2 x H3->∀os:St,os.length=2->Qj K 2 (Kk (DT n) (Kk (DT m) Qi)) x (σ++os) H3 fun σ4 H4=>(∃os':St,σ4=σ++os'/\os'.length=2)/\tt σ4 H4 fun b H5=>if b=true then te σ4 H5 fun y H6=>H6 D=some (.lst ys)/\∃m',m' < k/\W (i+1) m' (ys++[y]) (upd H6 D (.lst (ys++[y])))
   else ∃m',m' < k/\W (i+1) m' ys H5)):=by
 intro D hDn
 subst hn hm
 refine ⟨fun i m ys H=>m=zs.length - i/\i<=zs.length/\Pv D i ys H,⟨zs.length,rfl,Nat.zero_le _,h0 D hDn⟩,?_⟩
 rintro i m ys H2 ⟨rfl,hi,p⟩
 obtain ⟨e,l⟩:=hD D i ys H2 p
 have q:=hl D i ys H2 hDn p
 refine ⟨e,?_⟩
 by_cases hlt:i < zs.length
 ·refine .inr ⟨⟨zs,zs[i],q,by simp [hlt]⟩,Nat.lt_of_le_of_lt l (Nat.lt_of_lt_of_le hlt hz),fun x H3 y os ho=>?_⟩
  obtain ⟨e1,y⟩:=y
  subst e1
  obtain ⟨t,v,w,rfl,ht,q5⟩:=hs D i x ys _ (fun y H6=>H6 D=some (.lst ys)/\∃m',m' < zs.length - i/\m'=zs.length - (i+1)/\i+1<=zs.length/\Pv D (i+1) (ys++[y]) (upd H6 D (.lst (ys++[y])))) (fun H5=>∃m',m' < zs.length - i/\m'=zs.length - (i+1)/\i+1<=zs.length/\Pv D (i+1) ys H5) hDn (y zs q) p (fun y H5 h5 p5=>⟨h5,zs.length - (i+1),by omega,rfl,hlt,p5⟩) fun H4 p4=>⟨zs.length - (i+1),by omega,rfl,hlt,p4⟩
  match os,ho with
  | [o1,o2],_ =>
    have e2:((σ++[o1,o2]).set σ.length (some v)).set (σ.length+1) (some w)=σ++[some v,some w]:=by
     rw [List.set_append_right _ _ (Nat.le_refl _),Nat.sub_self,List.set_append_right _ _ (Nat.le_succ _)]
     rw [show (List.length σ+1) - List.length σ=1 by omega]
     rfl
    refine ⟨t,[v,w],rfl,ht,rfl,v,[w],rfl,w,[],rfl,rfl,?_⟩
    refine ⟨⟨[some v,some w],e2,rfl⟩,?_⟩
    rw [e2]
    exact q5
 ·have ei:i=zs.length:=by omega
  subst ei
  exact .inl ⟨⟨zs,q,Nat.le_refl _⟩,hd D ys H2 hDn p⟩
section
variable {X:Cx} {elt iter:Expr} {x1 x2 x3:Str} {p1 p2 p3 pt pos:Pos} {k:Nat} {ifs:List Expr} {sc fsc:Scope} {N Nc:List Str} {wi:TI} {tt:TT} {te:TE}
theorem K3 (hE:X.env.scope=fsc) (hXN:X.N=N) (cn:Ez N Nc [x1,x2] sc fsc) (hc:X.calm=true) (hi:PI X (.Tuple [.Name x1 p1,.Name x2 p2] k pt) iter wi)
 (ht:∀cl s H ex,Lo (X.inComp Nc sc cl s H ex) ifs tt) (he:∀cl s H ex,PE (X.inComp Nc sc cl s H ex) elt te) (hs:∀v,foldedSetIterable iter X.env v=pure v:=by intro _;rfl) :
 PE X (.ListComp elt [⟨.Tuple [.Name x1 p1,.Name x2 p2] k pt,iter,ifs,0⟩] sc pos) (OD 2 wi (Qj X.K 2 (Kk (DT N.length) (Kk (DT (N.length+1)) Qi))) tt te) :=
 Og hE hXN cn hc hi (fun cl s H ex=>JL (X:=X.inComp Nc sc cl s H ex) hc (Dm (FF (j:=0) cn rfl rfl) (Dm (FF (j:=1) cn rfl rfl) GK))) ht he hs
end
end L2
namespace L2
open PySem PySem.Spec PyProof.Rows
theorem IJ.ns {N Nc:List Str} {x:Str} {sc fsc:Scope} (c:IJ N Nc x sc fsc):Ez N Nc [x] sc fsc:=⟨c.kind,c.cell,c.nm,fun y m=>by rw [List.mem_singleton.mp m];exact c.own,c.fr,c.len,c.nd,by
 have l:=c.len
 refine List.ext_getElem? fun i=>?_
 rw [List.getElem?_drop]
 cases i with
 | zero=>exact c.last
 | succ i=>rw [List.getElem?_eq_none (by omega),List.getElem?_eq_none (by show 1<=i+1;omega)],c.slot⟩
section
variable {X:Cx} {elt iter:Expr} {x:Str} {px pos:Pos} {ifs:List Expr} {sc fsc:Scope} {N Nc:List Str} {wi:TI} {tt:TT} {te:TE}
theorem IP {J:It} {σ:St} {H1:Hp} {Q:VK} {n:Nat} (hn:n=σ.length) (h:∀D,H1 D=none->∃W:Nat->Nat->List V->Hp->Prop,(∃m,W 0 m [] (upd H1 D (.lst [])))/\∀i m ys H2,W i m ys H2 ->
 H2 D=some (.lst ys)/\((J.stop i H2/\Q (.ref D) H2)\/(J.go i H2/\ys.length < sizeLine/\∀x H3,J.yld i H2 x H3->tt (σ++[some x]) H3 fun b H4=>if b=true then te (σ++[some x]) H4 fun y H5=>H5 D=some (.lst ys)/\∃m',m' < m/\W (i+1) m' (ys++[y]) (upd H5 D (.lst (ys++[y])))
  else ∃m',m' < m/\W (i+1) m' ys H4))) :
 ∀D,H1 D=none->∃W:Nat->Nat->List V->Hp->Prop,(∃m,W 0 m [] (upd H1 D (.lst [])))/\∀i m ys H2,W i m ys H2 ->
  H2 D=some (.lst ys)/\((J.stop i H2/\Q (.ref D) H2)\/(J.go i H2/\ys.length < sizeLine/\∀x H3,J.yld i H2 x H3->∀os:St,os.length=1->DT n x (σ++os) H3 fun σ4 H4=>(∃os':St,σ4=σ++os'/\os'.length=1)/\tt σ4 H4 fun b H5=>if b=true then te σ4 H5 fun y H6=>H6 D=some (.lst ys)/\∃m',m' < m/\W (i+1) m' (ys++[y]) (upd H6 D (.lst (ys++[y])))
   else ∃m',m' < m/\W (i+1) m' ys H5)):=by
 intro D hD
 obtain ⟨W,w0,w1⟩:=h D hD
 refine ⟨W,w0,fun i m ys H2 w=>?_⟩
 obtain ⟨a,b⟩:=w1 i m ys H2 w
 refine ⟨a,b.imp id fun ⟨c,d,e⟩=>⟨c,d,fun x H3 y os ho=>?_⟩⟩
 match os,ho with
 | [o],_ =>
   have e2:(σ++[o]).set n (some x)=σ++[some x]:=by rw [hn];exact O3
   show (∃os':St,(σ++[o]).set n (some x)=σ++os'/\os'.length=1)/\_
   rw [e2]
   exact ⟨⟨[some x],rfl,rfl⟩,e x H3 y⟩
theorem Cd (hE:X.env.scope=fsc) (hXN:X.N=N) (cn:IJ N Nc x sc fsc) (hc:X.calm=true) (hi:PI X (.Name x px) iter wi)
 (ht:∀cl s H ex,Lo (X.inComp Nc sc cl s H ex) ifs tt) (he:∀cl s H ex,PE (X.inComp Nc sc cl s H ex) elt te)
 (hs:∀v,foldedSetIterable iter X.env v=pure v:=by intro _;rfl):PE X (.ListComp elt [⟨.Name x px,iter,ifs,0⟩] sc pos) (PU wi tt te):=by
 intro pins s σ H Q I h
 obtain ⟨cl,hcl,clS,clH⟩:=EZ (env:=X.env) (sc:=sc) (FU I.ok.has hE cn.ns)
 rw [eval_ListComp]
 refine wpAny_comprehension_free (use:=none) rfl hs hcl cn.kind cn.nm (thn (hi pins s σ H _ I h) fun v s1 h1=>thn h1 fun itv s2 h2=>?_)
 obtain ⟨it,fp,tn,J,H2,rfl,I2,T,st2,f2,h2⟩:=h2
 refine thn (Fa (pos:=pos) (iter:=iter) hE hXN cn.ns hc (fun cl s H ex=>FF (j:=0) cn.ns rfl rfl) ht he clS clH I2 T st2 f2 (IP (by rw [I2.len,hXN];rfl) h2)) fun acc s3 h3=>thn h3 fun cenv s4 h4=>codeAny_mono h4 fun r s' h5=>?_
 obtain ⟨rfl,D,H',rfl,I',q,cloc,m,hn⟩:=h5
 exact ⟨m,hn,fun h' k=>⟨.ref D,H',I'.sameBut cloc k,rfl,q⟩⟩
theorem JN {j:Nat} {y:Str} {py spos:Pos} (hE:X.env.scope=fsc) (hXN:X.N=N) (cn:IJ N Nc x sc fsc) (hc:X.calm=true) (hnd:X.N.Nodup) (hj:X.N[j]?=some y) (hy:X.env.scope.names.lookup y=some .local) (hi:PI X (.Name x px) iter wi)
 (ht:∀cl s H ex,Lo (X.inComp Nc sc cl s H ex) ifs tt) (he:∀cl s H ex,PE (X.inComp Nc sc cl s H ex) elt te)
 (hsw:swapsWith (.ListComp elt [⟨.Name x px,iter,ifs,0⟩] sc pos) (some (.Name y py)) spos.line X.env=pure true)
 (hs:∀v,foldedSetIterable iter X.env v=pure v:=by intro _;rfl):PS X (.Assign [.Name y py] (.ListComp elt [⟨.Name x px,iter,ifs,0⟩] sc pos) spos) (QC (PU wi tt te) (DT j)):=by
 intro pins s σ H D I h
 obtain ⟨cl,hcl,clS,clH⟩:=EZ (env:=X.env) (sc:=sc) (FU I.ok.has hE cn.ns)
 rw [exec_Assign_Name_used _ _ _ _ hsw]
 refine wpAny_bind (wpAny_standAt (wpAny_bind ?_))
 show wpAny _ X.A (do let _ <- comprehension (.ListComp elt [⟨.Name x px,iter,ifs,0⟩] sc pos) sc X.env _ (newList []) false (eval iter X.env) (some (assign (.Name y py) X.env))) _ _ s
 refine wpAny_bind (thn (wpAny_comprehension_free (Q:=fun _ s'=>SP X pins D .next s') rfl hs hcl cn.kind cn.nm (thn (hi pins s σ H _ I h) fun v s1 h1=>thn h1 fun itv s2 h2=>?_)) fun _ s' hq=>wpAny_pure (wpAny_pure hq))
 obtain ⟨it,fp,tn,J,H2,rfl,I2,T,st2,f2,h2⟩:=h2
 refine thn (Fa (pos:=pos) (iter:=iter) (Q:=fun x H1=>DT j x σ H1 D.nx) hE hXN cn.ns hc (fun cl s H ex=>FF (j:=0) cn.ns rfl rfl) ht he clS clH I2 T st2 f2 (IP (Q:=fun x H1=>DT j x σ H1 D.nx) (by rw [I2.len,hXN];rfl) h2)) fun acc s3 h3=>thn h3 fun cenv s4 h4=>codeAny_mono h4 fun r s' h5=>?_
 obtain ⟨rfl,D',H',rfl,I',q,cloc,m,hn⟩:=h5
 refine wpAny_assign_Name (Jj (v:=.ref D') I' hnd hj (.inl hy) rfl (fun s6 I6 sb=>?_) (.inr hy))
 obtain ⟨a,k,ha⟩:=sb
 refine ⟨m,hn.sameBut k (fun z=>?_),fun h' k'=>⟨_,H',I6.sameBut cloc k',q⟩⟩
 rcases ha with ha | ha
 ·exact cloc.ne (z.trans ha)
 ·exact cloc.cells _ _ ha z.symm
end
end L2
namespace L2
open PySem PySem.Spec PyProof.Rows
section
variable {X:Cx}
end
section
variable {X:Cx}
theorem Qy {o e:Expr} {es:List Expr} {to:TE} {t:TA} {name:Str} {apos cpos:Pos} {T id:String} {r:V->List V->Hp->VK->Prop} (K:PySem.W.Frag) (pa:PlainAttrs T) (slot:Slot T name id) (hty:typeOf (.builtin id)=pure (.type "method_descriptor")) (hm:MtR X id r) (ho:PE X o to) (ha:PA X (e :: es) t)
 (hK:X.K=K:=by rfl) (hbase:attributeBase o name X.env (eval o X.env)=eval o X.env:=by rfl)
 (hfew:((backTo cpos (starEach (e :: es) X.env)).all (fun x=>!x.1) && (backToKw cpos (keywordEach [] X.env)).all (fun x=>x.1.isSome)
  && decide ((e :: es).length+([]:List Keyword).length+(if ([]:List Keyword).isEmpty then 0 else 1) < 30))=true:=by rfl)
 (hline:(apos.endLine == cpos.line)=true:=by rfl) (hs:starEach (e :: es) X.env=(false,eval e X.env) :: starEach es X.env:=by rfl) (hplain:(backTo cpos (starEach es X.env)).any (·.1)=false:=by rfl) :
 PE X (.Call (.Attribute o name apos) (e :: es) [] cpos) (tBM K T r to t):=by
 subst hK
 exact Ht pa slot hty hm ho ha hbase hfew hline hs hplain
theorem Kt {K:PySem.W.Frag} (hK:X.K=K:=by rfl):MtR X "list.index" (fun x vs H Q=>∃(a:Addr) (ns:List Int) (k:Int),x=.ref a/\vs=[.int k]/\SqL K H a (ns.map V.int)/\k∈ns/\Q (.int (ns.idxOf k:Nat)) H):=by
 subst hK
 intro pins s σ H x vs v us Q I rx rv h
 obtain ⟨a,ns,k,rfl,rfl,hq,hk,q⟩:=h
 cases rx
 obtain ⟨u,rfl,t,rfl⟩:=Dv rv
 obtain ⟨its,rv,pl,hz⟩:=I.list hq
 have hi:=BN rv
 have hl:=hi.length
 have hj:ns.idxOf k < ns.length:=List.idxOf_lt_length_iff.mpr hk
 have hb:ns.length<=sizeLine:=by rw [List.length_map] at hz;exact hz
 rw [sizeLine_eq] at hb
 obtain ⟨⟨cls,dd,data,sl⟩,ho,hc,n,hd⟩:=pl.isList
 replace hc:cls=.type "list":=hc
 replace hd:data=.seq its.toArray n:=hd
 subst hc hd
 refine call_meets PySem.F.slot_list_index ⟨_,ho,rfl⟩ PySem.F.entry_list_index (PySem.F.args_list_index_2 _ _) (PySem.SeqAt.list_indexAt a its.toArray n dd sl (.int k t) (isInt k) (ns.idxOf k) (by rw [List.size_toArray];omega) (by omega) ?_ ?_) ⟨ho,fun y hy=>(eq_isInt k t hi y (by simpa using hy)).at _ _,?_⟩
 ·have:isInt k its[ns.idxOf k]=true:=by rw [isInt_at k hi _ (by omega) hj];simpa using List.getElem_idxOf hj
  exact this
 ·intro j hjs hlt
  have:isInt k its[j]=false:=by rw [isInt_at k hi j (by simpa using hjs) (by omega)];exact ne_of_lt_idxOf hlt _
  exact this
 ·exact ⟨.int _,H,I.tok _,⟨_,rfl⟩,q⟩
end
theorem E4:∀ns ms:List Int,PyData.eqvAll (ns.map .int) (ms.map .int)=decide (ns=ms)
 | [],[]=>rfl
 | [],_ :: _=>rfl
 | _ :: _,[]=>rfl
 | n :: ns,m :: ms=>by
   show ((n == m) && PyData.eqvAll (ns.map .int) (ms.map .int))=_
   rw [E4 ns ms]
   by_cases h:n=m
   ·by_cases k:ns=ms
    ·subst h;subst k;simp
    ·simp [h,k]
   ·simp [h]
theorem Ha:∀ns:List Int,PyData.canLayAll0 (ns.map .int)=true/\PyData.depthAll (ns.map .int)<=0
 | []=>⟨rfl,Nat.le_refl _⟩
 | n :: ns=>by
   obtain ⟨h1,h2⟩:=Ha ns
   refine ⟨?_,?_⟩
   ·show (true && PyData.canLayAll0 (ns.map .int))=true
    rw [h1];rfl
   ·show max 0 (PyData.depthAll (ns.map .int))<=0
    omega
theorem CD (ns:List Int):SeqAt.shaped (.tuple (ns.map .int))=true/\SeqAt.shaped (.list (ns.map .int))=true:=by
 obtain ⟨h1,h2⟩:=Ha ns
 constructor
 ·unfold SeqAt.shaped
  rw [Bool.and_eq_true]
  refine ⟨h1,decide_eq_true ?_⟩
  show PyData.depthAll (ns.map .int)+1<=64
  omega
 ·unfold SeqAt.shaped
  rw [Bool.and_eq_true]
  refine ⟨h1,decide_eq_true ?_⟩
  show PyData.depthAll (ns.map .int)+1<=64
  omega
section
variable {X:Cx}
end
end L2
namespace L2
open PySem PySem.Spec PyProof.Rows
namespace CutT
open HT
section
variable {prog:Program} {w:World} {A:Around} {E:Value->Shared->Prop} {s:Shared}
theorem MH {t:Addr} {items:Array Value} {Q:Bool->Shared->Prop} (ht:IsTup s.heap t items) (h:Q true s):wpAny (model prog w) A (Builtin.Tuple.tupleIsExact (.ref t)) Q E s:=by
 unfold Builtin.Tuple.tupleIsExact
 exact wpAny_bind (wpAny_typeOf ht.typeIs (wpAny_pure h))
theorem whole {t sl:Addr} {items:Array Value} {vl vu:Value} {lo hi:Option Int} {Q:Value->Shared->Prop} (ht:IsTup s.heap t items) (hs:s.heap.IsSliceOf sl vl vu .none) (pl:IsPart vl lo) (pu:IsPart vu hi)
 (hw:sIx items.size 0 lo=0/\sIx items.size items.size hi=items.size) (h:Q (.ref t) s):wpAny (model prog w) A (getItem (.ref t) (.ref sl)) Q E s:=by
 obtain ⟨os,hos,hcs,hds⟩:=id hs
 have hTs:s.TypeIs (.ref sl) "slice":=⟨os,hos,hcs⟩
 unfold getItem
 try with_reducible refine wpAny_holding ?_
 first | refine wpAny_bind (wpAny_pure ?_) | skip
 refine wpAny_bind (wpAny_sequenceKey ht.typeIs (by decide) ?_)
 refine wpAny_bind (wpAny_callSpecial?_slot (name:=Str.ofString "__getitem__") ht.typeIs PyProof.Rows.slot_tuple_getitem
  (wpAny_call_entry PyProof.Rows.slot_tuple_getitem ht.typeIs entry_tuple_getitem ?_ (args_tuple_getitem _ _)))
 show wpAny _ _ (Builtin.Tuple.tupleItemsOf (.ref t) >>= _) _ _ s
 refine wpAny_bind (tupleItemsOf_ ht ?_)
 refine wpAny_bind (wpAny_typeOf hTs ?_)
 rw [if_pos (by decide)]
 refine wpAny_bind (Ej hs pl pu ?_)
 have hyes:(((sIx items.size 0 lo:Nat):Int) == 0 && (1:Int) == 1 && (sIx items.size items.size hi - sIx items.size 0 lo) == items.size)=true:=by
  rw [hw.1,hw.2]
  simp
 show wpAny _ _ (if (((sIx items.size 0 lo:Nat):Int) == 0 && (1:Int) == 1 && (sIx items.size items.size hi - sIx items.size 0 lo) == items.size)=true then _ else _) _ _ s
 rw [if_pos hyes]
 refine wpAny_bind (MH ht ?_)
 rw [if_pos rfl]
 first
  | exact wpAny_bind (wpAny_rule (wpAny_bind (m:=ret (.ref t)) (wpAny_pure (wpAny_pure ⟨_,rfl,wpAny_pure h⟩))))
  | exact wpAny_bind (wpAny_rule (wpAny_pure ⟨_,rfl,wpAny_pure h⟩))
  | exact wpAny_bind (wpAny_bind (wpAny_rule (wpAny_pure (wpAny_pure ⟨_,rfl,wpAny_pure h⟩))))
  | exact wpAny_bind (wpAny_rule (wpAny_bind (wpAny_pure (wpAny_pure ⟨_,rfl,wpAny_pure h⟩))))
end
end CutT
noncomputable def Rl (K:PySem.W.Frag):V->Option Int->Option Int->Hp->VK->Prop:=fun x lo hi H Q=>∃a xs,x=.ref a/\H a=some (.tup xs)/\∀p H',A0 H H'->H' p=some (.tup (Fb xs lo hi))->Q (.ref p) H'
theorem GN {X:Cx} {K:PySem.W.Frag} (hK:X.K=K:=by rfl):SlR X (Rl K):=by
 subst hK
 intro pins s σ H x v vl vu lo hi sl Q I rx hs pl pu h
 obtain ⟨a,xs,rfl,hx,q⟩:=h
 by_cases hw:HT.sIx xs.length 0 lo=0/\HT.sIx xs.length xs.length hi=xs.length
 ·cases rx
  obtain ⟨its,r,ht,hz⟩:=I.tuple (SqT.of hx)
  have hlen:its.toArray.size=xs.length:=by rw [List.size_toArray];exact r.length.symm
  refine ⟨"tuple",_,PyProof.Rows.slot_tuple_getitem.lookup,ht.typeIs,CutT.whole ht hs pl pu (by rw [hlen];exact hw) ?_⟩
  refine ⟨.ref a,H,I,rfl,q a H (fun _ _ e=>e) ?_⟩
  have e:Fb xs lo hi=xs:=by
   unfold Fb
   rw [hw.1,hw.2,List.drop_zero,Nat.sub_zero,List.take_of_length_le (Nat.le_refl _)]
  rw [e]
  exact hx
 ·exact Q8 pins s σ H _ v vl vu lo hi sl Q I rx hs pl pu ⟨a,xs,rfl,SqT.of hx,hw,fun p hp=>q p _ (fun b u e=>by rw [Ay (B7 e hp)];exact e) Ae⟩
end L2
namespace L2
open PySem PySem.Spec PyProof.Rows
section
variable {prog:Program} {w:World} {A:Around} {E:Value->Shared->Prop} {s:Shared}
end
section
variable {M:Model} {A:Around} {E:Value->Shared->Prop} {s:Shared} {env:Env}
end
section
variable {X:Cx}
end
end L2
namespace L2
open PySem PySem.Spec PyProof.Rows
section
variable {X:Cx}
end
theorem Li:∀{xs:List V} {us:List Value},xs.length=us.length->(∀(i:Nat) x u,xs[i]?=some x->us[i]?=some u->AS x u)->AJ xs us
 | [],[],_,_=>.nil
 | [],_ :: _,h,_=>by cases h
 | _ :: _,[],h,_=>by cases h
 | x :: xs,u :: us,h,k=>.cons (k 0 x u rfl rfl) (Li (Nat.succ.inj h) fun i y v h1 h2=>k (i+1) y v h1 h2)
section
variable {X:Cx} {e:Expr} {te:TE} {p p2 pos pos2:Pos}
noncomputable def Pz (te:TE):TE:=fun σ H Q=>te σ H fun x H1=>∃n:Nat,x=.int (n:Int)/\n < 1000/\∀l,H1 l=none->Q (.ref l) (upd H1 l (.lst ((List.range n).map fun i:Nat=>V.int (i:Int))))
theorem FE (hc:X.calm=true) (hg:Gl X "list") (hm:X.mg "list"=none) (hg2:Gl X "range") (hm2:X.mg "range"=none) (he:PE X e te)
 (hs:starEach [e] X.env=[(false,eval e X.env)]:=by rfl)
 (hs2:starEach [(.Call (.Name "range" p2) [e] [] pos2:Expr)] X.env=[(false,eval (.Call (.Name "range" p2) [e] [] pos2) X.env)]:=by rfl) :
 PE X (.Call (.Name "list" p) [.Call (.Name "range" p2) [e] [] pos2] [] pos) (Pz te):=by
 intro pins s σ H Q I h
 refine wpAny_Call_Name_kw (Ff I hg hm boot_list ?_ (by decide) (by decide))
 refine callWith_type1 ?_ hs2 rfl
 rw [hs2]
 refine Calls.spliced_cons ?_
 refine wpAny_Call_Name_kw (Ff I hg2 hm2 boot_range ?_ (by decide) (by decide))
 refine callWith_type1 ?_ hs rfl
 rw [hs]
 refine Calls.spliced_cons (thn (he pins s σ H _ I h) fun u s1 ⟨x,H1,I1,r1,n,hx,hn,q⟩=>?_)
 subst hx
 obtain ⟨t,rfl⟩:=r1
 refine Calls.spliced_nil ?_
 refine call_range_1 ?_
 refine Calls.spliced_nil ?_
 refine call_list_range (n:=n) (I1.ok.hd hc) (IsRange.new ..) (small_one (by omega) (by omega) (by omega) (by omega)) (by rw [rangeSize_one];split <;> omega) (by omega) fun h' tk acc c' kp eS it=>?_
 have kp':∀b o,s1.heap.get? b=some o->h'.get? b=some o:=fun b o e=>kp b o (Heap.get?_push_of_some _ e)
 have hp:s1.heap.objs.size<=(s1.heap.push { cls:=.type "range",data:=.fields #[.int 0 s1.toks,.int (n:Int) t,.int 1 (s1.toks+1)] }).objs.size:=by simp [Heap.push]
 have rv:AJ ((List.range n).map fun i:Nat=>V.int (i:Int)) acc.toList:=by
  refine Li (by simp [it.1]) fun i x u hx hu=>?_
  rw [List.getElem?_map] at hx
  obtain ⟨t',e⟩:=it.2 i u (by simpa using hu)
  have hi:i < n:=by
   have:=(List.getElem?_eq_some_iff.mp hu).1
   rw [Array.length_toList,it.1] at this
   exact this
  rw [List.getElem?_range hi] at hx
  have hx':x=V.int (i:Int):=(Option.some.inj hx).symm
  subst hx'
  exact ⟨t',by rw [e];simp⟩
 have hz:((List.range n).map fun i:Nat=>V.int (i:Int)).length<=sizeLine:=by rw [List.length_map,List.length_range];exact Nat.le_of_lt (Be (by omega))
 exact ⟨.ref _,_,I1.laid (t':=tk) kp' hp (show Bx X.prog X.w _ h' _ (.lst ((List.range n).map fun i:Nat=>V.int (i:Int))) from ⟨hz,acc.toList,c',rv,by simpa using eS⟩),rfl,q _ (I1.hok.fresh hp)⟩
end
section
variable {prog:Program} {w:World} {A:Around} {E:Value->Shared->Prop} {s:Shared}
end
section
variable {X:Cx}
end
end L2
namespace L2
open PySem PySem.Spec PyProof.Rows
section
variable {P:Program} {w:World} {K:PySem.W.Frag} {mg:Str->Option Value} {base:Heap}
end
section
variable {X:Cx} {k:Nat} {f:Addr} {fd:FuncData} {ps:List Str} {sp:Sp} {x:Str} {p pos:Pos} {e:Expr} {es:List Expr} {t:TA}
end
section
variable {X:Cx}
end
end L2
namespace L2
open PySem PySem.Spec PyProof.Rows
theorem MT:typeLookup (.type "list") "keys"=pure none:=by rw [typeLookup_type,builtinLookup_eq_fast];kernel_rfl
theorem IQ:entryFor table "dict.update.loop"=some Builtin.«dict.update.loop»:=entryFor_of_tree (by kernel_rfl)
theorem EC:plainId "dict.update.loop"=true:=by decide +kernel
section
variable {prog:Program} {w:World} {A:Around} {E:Value->Shared->Prop} {s:Shared}
theorem MU {a:Addr} {xs:Array Value} {k:Nat} {Q:Option Value->Shared->Prop} (jx:s.heap.get? a=some { cls:=.type "list",dict:=none,data:=.seq xs k,slots:=#[] }) (jA:A.handled=none)
 (q:∀h' tk,(∀b o,s.heap.get? b=some o->h'.get? b=some o)->Q none { s with heap:=h',toks:=tk }):wpAny (model prog w) A (getAttr? (.ref a) "keys") Q E s:=by
 obtain ⟨hp,g,d,tk,os⟩:=s
 have hT:∀tk',(⟨hp,g,d,tk',os⟩:Shared).TypeIs (.ref a) "list":=fun _=>⟨_,jx,rfl⟩
 have f1:=sub_AttributeError
 have f3:=F.slot_list_getattribute.lookup
 have f4:=F.slot_list_getattribute.bind (.ref a)
 have f5:=am_list_getattr_none
 unfold getAttr? getAttrBy? getAttrBy
 repeat (any_goals (first | assumption | exact hT _ | ((with_reducible show wpAny _ _ (call (Value.builtin "list.__getattribute__") _ _) _ _ _);refine call_meets F.slot_list_getattribute (hT _) am_entry_list_getattribute (F.args_list_getattribute_2 _ _) (meets_getattribute_miss_list a xs k #[] "keys" _ MT (by decide)) ⟨jx,jA,fun h' tk' e hx'=>?_⟩) | wp_step))
 obtain ⟨t',u',he⟩:=hx'.there
 show wpAny _ _ (getattributeRaised _ _ _ _ _ _ _) _ _ _
 unfold getattributeRaised
 repeat (any_goals (first | assumption | wp_step))
 exact q _ _ hx'.1
end
abbrev Pr:=Addr × Addr × List Key × V
noncomputable def prs (ps:List Pr):List V:=ps.map fun q=>.ref q.1
noncomputable def QO (H:Hp) (ps:List Pr):Prop:=∀q∈ps,H q.1=some (.tup [.ref q.2.1,q.2.2.2])/\H q.2.1=some (.tup (q.2.2.1.map kV))
noncomputable def C9:List (List Key × V)->List Pr->List (List Key × V)
 | kvs,[]=>kvs
 | kvs,q :: ps=>C9 (Bj kvs q.2.2.1 q.2.2.2) ps
theorem G0 (q:Pr):∀(ps:List Pr) (kvs:List (List Key × V)),C9 kvs (ps++[q])=Bj (C9 kvs ps) q.2.2.1 q.2.2.2
 | [],_=>rfl
 | p :: ps,kvs=>G0 q ps (Bj kvs p.2.2.1 p.2.2.2)
theorem HH:∀(ps:List Pr) (kvs:List (List Key × V)),(C9 kvs ps).length<=kvs.length+ps.length
 | [],_=>Nat.le_refl _
 | q :: ps,kvs=>by
   have:=HH ps (Bj kvs q.2.2.1 q.2.2.2)
   have:=DJ kvs q.2.2.1 q.2.2.2
   show (C9 (Bj kvs q.2.2.1 q.2.2.2) ps).length<=kvs.length+(ps.length+1)
   omega
section
variable {X:Cx} {pins:List (Addr × Obj)} {σ:St} {H:Hp}
theorem QR {s:Shared} {a b:Addr} {v:V} {r:Value} {A:Around} {E:Value->Shared->Prop} {kvs:List (List Key × V)} {k:List Key} {Q:Unit->Shared->Prop} (hu:A.units < cLine) (I:Inv X pins σ H s) (e:H a=some (.dT kvs)) (eb:H b=some (.tup (k.map kV))) (l:kvs.length < sizeLine) (rv:AS v r)
 (h:∀h' tk,Heap.SameBut a s.heap h'->Inv X pins σ (upd H a (.dT (Bj kvs k v))) { s with heap:=h',toks:=tk }->Q () { s with heap:=h',toks:=tk }):wpAny (model X.prog X.w) A (dictSet a (.ref b) r) Q E s:=by
 obtain ⟨z,hd,xs,rel,dd⟩:=P8 I.hok e
 have hz:xs.length<=sizeLine:=by rw [<- Paired.length rel];exact z
 have hl:(Bj kvs k v).length<=sizeLine:=by have:=DJ kvs k v;omega
 refine wpAny_dictSet_heap (hsz:=hz) (knd:=tupleKind (BC X.prog X.w)) hu (GY I.hok eb) dd fun h' dd' hs=>h _ _ hs ?_
 obtain ⟨q,es,ep,hq,h2,h3,h4,_,h5⟩:=dd'
 refine Ju I (by rw [e];exact True.intro) hs ⟨q,hq⟩ ⟨hl,hd,_,(rel.put k eb rv).keeps fun c ys ec=>?_,q,es,ep,hq,h2,h3,h4,h5⟩
 rw [Ay (Ds ec e (fun z=>nomatch z))]
 exact ec
theorem Qg {l it D:Addr} {ps:List Pr} {A:Around} {R:Result->Shared->Prop} (hh:A.handled=none) (hu:A.units+8 < cLine) (hl:H l=some (.lst (prs ps))) (hp:QO H ps) (hD:H D=none) (hz:ps.length < sizeLine)
 (f0:H it=none) (f1:it≠X.env.locals) (f3:it∈X.ex\/X.s₀.heap.objs.size<=it) (f4:∀x c,X.env.cells.lookup x=some c->c≠it) (f5:∀p∈X.pn++pins,p.1≠it) (itD:it≠D)
 (hR:∀s',Inv X pins σ (upd H D (.dT (C9 [] ps))) s'->R (.ok (.ret .none)) s') :
 ∀(n i:Nat) (s:Shared),ps.length - i=n->i<=ps.length->Inv X pins σ (upd H D (.dT (C9 [] (ps.take i)))) s->s.heap.IsListIter it l i ->
  codeAny (model X.prog X.w) A (.builtin "dict.update.loop" ⟨[.ref D,.ref it,rawInt i,.none],[]⟩) R s:=by
 have lD:l≠D:=fun e=>by rw [e,hD] at hl;cases hl
 have pl_len:(prs ps).length=ps.length:=List.length_map ..
 intro n
 induction n with
 | zero =>
   intro i s hn hi I st
   have ei:i=ps.length:=by omega
   subst ei
   rw [List.take_of_length_le (Nat.le_refl _)] at I
   obtain ⟨its,rv,pl,_⟩:=I.list (SqL.of (show (upd H D (.dT (C9 [] ps))) l=some (.lst (prs ps)) by rw [Ay lD];exact hl))
   have hl':=rv.length
   refine codeAny_builtin IQ ?_
   rw [Around.under_plainId EC _]
   unfold Builtin.«dict.update.loop»
   dsimp only [rawInt]
   refine wpAny_bind (wpAny_pyNext_list_end hh st pl.isList ?_ fun h' eb=>?_)
   ·rw [pl_len] at hl'
    simp
    omega
   have I2:Inv X pins σ (upd H D (.dT (C9 [] ps))) { s with heap:=h' }:=I.turned (t':=s.toks) (fun b o hb e=>eb b o hb e) (by rw [Ay itD];exact f0) f1 f3 f4 f5
   exact wpAny_bind (wpAny_pure (wpAny_pure (hR _ I2)))
 | succ n ih =>
   intro i s hn hi I st
   have him:i < ps.length:=by omega
   obtain ⟨q,hq⟩:∃q,ps[i]?=some q:=⟨_,List.getElem?_eq_getElem him⟩
   obtain ⟨g1,g2⟩:=hp q (List.mem_of_getElem? hq)
   have et:ps.take (i+1)=ps.take i++[q]:=by rw [List.take_succ,hq];rfl
   obtain ⟨its,rv,pl,_⟩:=I.list (SqL.of (show (upd H D (.dT (C9 [] (ps.take i)))) l=some (.lst (prs ps)) by rw [Ay lD];exact hl))
   obtain ⟨u,hu',ru⟩:=rv.get (i:=i) (x:=.ref q.1) (by unfold prs;rw [List.getElem?_map,hq];rfl)
   obtain rfl:u=Value.ref q.1:=ru
   refine codeAny_builtin IQ ?_
   rw [Around.under_plainId EC _]
   unfold Builtin.«dict.update.loop»
   dsimp only [rawInt]
   refine wpAny_bind (wpAny_pyNext_list_item st pl.isList (x:=.ref q.1) (by simpa using hu') fun h' st' sb=>?_)
   have I2:Inv X pins σ (upd H D (.dT (C9 [] (ps.take i)))) { s with heap:=h' }:=I.turned (t':=s.toks) (fun b o hb e=>(sb.2 b hb).trans e) (by rw [Ay itD];exact f0) f1 f3 f4 f5
   have qD:q.1≠D:=fun e=>by rw [e,hD] at g1;cases g1
   have kD:q.2.1≠D:=fun e=>by rw [e,hD] at g2;cases g2
   obtain ⟨its2,rv2,pt,_⟩:=I2.tuple (SqT.of (show (upd H D (.dT (C9 [] (ps.take i)))) q.1=some (.tup [.ref q.2.1,q.2.2.2]) by rw [Ay qD];exact g1))
   obtain ⟨ot,ho,hc,nt,hd⟩:=id pt
   have ty:({ s with heap:=h' }:Shared).TypeIs (.ref q.1) "tuple":=⟨ot,ho,hc⟩
   have pi:∀(Q':List Value->Shared->Prop) (E':Value->Shared->Prop) (A':Around),Q' its2 { s with heap:=h' }->wpAny (model X.prog X.w) A' (Builtin.Dict.pairItems (.ref q.1)) Q' E' { s with heap:=h' }:=fun Q' E' A' q'=>by
    unfold Builtin.Dict.pairItems
    refine wpAny_bind (wpAny_typeOf ty ?_)
    rw [if_pos (by decide)]
    refine wpAny_bind (wpAny_seqItems ho hd (wpAny_pure ?_))
    simpa using q'
   cases rv2 with
   | cons ra rr =>
     cases rr with
     | cons rb rr =>
       cases rr
       rename_i u1 u2
       obtain rfl:u1=Value.ref q.2.1:=ra
       dsimp only
       refine wpAny_bind (wpAny_holding (wpAny_bind (wpAny_tryCatch (pi _ _ _ ?_))))
       have hl2:=HH (ps.take i) []
       rw [List.length_take,List.length_nil] at hl2
       refine wpAny_holding (QR (k:=q.2.2.1) (v:=q.2.2.2) (by show A.units+1 < cLine;omega) I2 Ae (by rw [Ay kD];exact g2) (by omega) rb fun h2 tk2 sb2 I3=>?_)
       rw [CY,<- G0,<- et] at I3
       have st2:h2.IsListIter it l (i+1):=st'.at fun o e=>(sb2.2 it itD).trans e
       refine wpAny_pure ⟨plainId_quiet EC _,?_⟩
       have ec:(Value.int ((i:Int)+1) 0)=rawInt ((i+1:Nat):Int):=by
        show Value.int ((i:Int)+1) 0=Value.int ((i+1:Nat):Int) 0
        congr 1
       rw [ec]
       exact ih (i+1) _ (by omega) (by omega) I3 st2
theorem El (hc:X.calm=true) (hu:X.A.units+64 < cLine):CP X (.type "dict") (fun xs H Q=>∃(l:Addr) (ps:List Pr),xs=[.ref l]/\H l=some (.lst (prs ps))/\QO H ps/\ps.length < sizeLine /\
 ∀d,H d=none->Q (.ref d) (upd H d (.dT (C9 [] ps)))):=by
 intro pins s σ H xs us Q I r h
 obtain ⟨l,ps,rfl,hl,hp,hz,q⟩:=h
 obtain ⟨u,rfl,rx⟩:=Dv r
 cases rx
 obtain ⟨zl,its,n0,rv,hlen,el⟩:=I.lstM hl
 have hh:X.A.handled=none:=I.ok.hd hc
 have hD:H s.heap.objs.size=none:=I.hok.fresh (Nat.le_refl _)
 refine callType_codes (Q₁:=fun obj s₁=>obj=.ref s.heap.objs.size/\s₁={ s with heap:=s.heap.push { cls:=.type "dict",data:=.dict #[] } }) F.kt_called_dict (F.kt_typeCall_dict_1 _) F.entry_dict_init (kt_code_dict_new _ ⟨rfl,rfl⟩) ?_
 rintro obj s₁ ⟨rfl,rfl⟩
 have I1:Inv X pins σ (upd H s.heap.objs.size (.dT [])) { s with heap:=s.heap.push { cls:=.type "dict",data:=.dict #[] } } :=
  I.laid (a:=s.heap.objs.size) (o:=.dT []) (t':=s.toks) (fun _ _ z=>Heap.get?_push_of_some _ z) (Nat.le_refl _) (Kh s.heap I.big)
 have hT:({ s with heap:=s.heap.push { cls:=.type "dict",data:=.dict #[] } }:Shared).TypeIs (.ref s.heap.objs.size) "dict":=⟨_,Heap.get?_push_size _ rfl,rfl⟩
 refine ⟨hT,F.args_dict_init_2 _ _,?_⟩
 unfold Builtin.«dict.__init__»
 refine wpAny_bind ?_
 unfold Builtin.Dict.selfAndRest
 refine wpAny_bind (wpAny_notOrdered_dict hT ?_)
 show wpAny _ _ (pure (s.heap.objs.size,[Value.ref l])) _ _ _
 refine wpAny_pure ?_
 show wpAny _ _ (Builtin.Dict.updateFrom "dict.__init__" s.heap.objs.size (.ref l) [] .none) _ _ _
 have el1:(s.heap.push { cls:=.type "dict",data:=.dict #[] }).get? l=some { cls:=.type "list",data:=.seq its.toArray n0 }:=Heap.get?_push_of_some _ el
 have lt:l < s.heap.objs.size:=Heap.lt_size el
 generalize hD':s.heap.objs.size=D at *
 generalize s.heap.push { cls:=.type "dict",data:=.dict #[] }=g1 at *
 have tyl:({ s with heap:=g1 }:Shared).TypeIs (.ref l) "list":=⟨_,el1,rfl⟩
 unfold Builtin.Dict.updateFrom
 refine wpAny_bind (wpAny_typeOf tyl ?_)
 rw [if_pos (by decide)]
 refine wpAny_bind (MU el1 hh fun h2 tk2 k2=>?_)
 rw [if_pos (show (none:Option Value).isNone=true from rfl)]
 have I2:Inv X pins σ (upd H D (.dT [])) { s with heap:=h2,toks:=tk2 }:=I1.kept (t':=tk2) k2
 refine wpAny_bind (wpAny_rule ?_)
 have il:({ s with heap:=h2,toks:=tk2 }:Shared).heap.IsList l its.toArray:=⟨_,k2 _ _ el1,rfl,n0,rfl⟩
 refine wpAny_bind (wpAny_pyIter_list il ?_)
 have hD2:D < h2.objs.size:=by
  obtain ⟨o,ho,_⟩:=hT
  exact Heap.lt_size (k2 _ _ ho)
 have I3:Inv X pins σ (upd H D (.dT [])) { s with heap:=h2.push { cls:=.type "list_iterator",data:=.fields #[.ref l,.int 0 0] },toks:=tk2 }:=I2.kept (t':=tk2) fun b o e=>Heap.get?_push_of_some _ e
 obtain ⟨f0,f1,f2,f3,f4,f5⟩:=I2.fpOk (b:=h2.objs.size) (Nat.le_refl _) (I2.hok.fresh (Nat.le_refl _))
 have itD:h2.objs.size≠D:=Nat.ne_of_gt hD2
 rw [Ay itD] at f0
 refine wpAny_pure ⟨plainId_quiet EC _,?_⟩
 refine Qg (X:=X) (σ:=σ) (pins:=pins) (H:=H) (l:=l) (it:=h2.objs.size) (D:=D) (ps:=ps) (A:=X.A.in1) hh (by show X.A.units+1+8 < cLine;omega) hl hp hD hz f0 f1 f3 f4 f5 itD (fun s' I'=>?_) (ps.length - 0) 0 _ rfl (Nat.zero_le _) I3 ⟨_,Heap.get?_push_size _ rfl,rfl,rfl⟩
 exact ⟨rfl,.ref D,_,I',rfl,q D hD⟩
end
end L2
namespace L2
open PySem PySem.Spec PyProof.Rows
section
variable {prog:Program} {w:World} {A:Around} {E:Value->Shared->Prop} {s:Shared}
end
section
variable {X:Cx}
end
end L2
namespace L2
open PySem PySem.Spec PyProof.Rows
structure Nq (K:PySem.W.Frag) (x qual:Str) (st:Stmt) (f:Addr) (fd:FuncData):Prop where
 ex:∃(oc:Value) (od:Option Addr) (dV kV doc pm:Value) (an:Option Addr) (cdv ct:Value) (osl:Array (Option Value)),
  fd=PySem.W.fnOf x qual (Ao st) (Am st) (Af st) dV kV doc pm an cdv ct/\K.lookup f=some ⟨oc,od,.func fd,osl⟩/\PySem.W.codeIn K cdv qual=true
 kp:PySem.W.keepIn K (.ref f)=true
section
variable {P:Program} {w:World} {K:PySem.W.Frag} {mg:Str->Option Value} {base:Heap}
theorem Nq.ok {x qual:Str} {st:Stmt} {f:Addr} {fd:FuncData} {N ps:List Str} {k:Nat} {sp:Sp} (F:Nq K x qual st f fd) (S:As N ps (Af st)) (len:∀vs H Q E,sp vs H Q E->vs.length=ps.length)
 (hbody:∀(cdv:Value) (A:Around) (outer:List Env) (s:Shared) (H:Hp) (vs:List V) (Q:VK) (E:XK),Da k (A.deeper (envOfC qual (Af st) s.heap.objs.size f cdv))->sp vs H Q E ->
  ∃t,PSs (Lv CX0 P w K mg base N qual (Af st) f cdv A outer s H E).nox (Am st) t/\t { nx:=fun _ H'=>Q .non H',rt:=Q } (FL N vs) H):AO P w K mg base CX0 (k+1) f fd ps sp:=by
 obtain ⟨oc,od,dV,kV,doc,pm,an,cdv,ct,osl,rfl,lk,hcd⟩:=F.ex
 refine PC lk hcd S len fun A outer s H vs Q E hr hsp=>?_
 obtain ⟨t,h,q⟩:=hbody cdv A outer s H vs Q E hr hsp
 exact ⟨t,h.nox,q⟩
theorem LY {x qual:Str} {st:Stmt} {f:Addr} {oc:Value} {od an:Option Addr} {osl:Array (Option Value)} {dV kV doc pm cdv ct:Value} (l:K.lookup f=some ⟨oc,od,.func (PySem.W.fnOf x qual (Ao st) (Am st) (Af st) dV kV doc pm an cdv ct),osl⟩)
 (c:PySem.W.codeIn K cdv qual=true) (k:PySem.W.keepIn K (.ref f)=true):Nq K x qual st f (PySem.W.fnOf x qual (Ao st) (Am st) (Af st) dV kV doc pm an cdv ct):=⟨⟨oc,od,dV,kV,doc,pm,an,cdv,ct,osl,rfl,l,c⟩,k⟩
end
structure CFn (K:PySem.W.Frag) (C:Addr) (m:Str) (f:Addr):Prop where
 sg:PySem.W.specialIn K (.ref C) "__getattribute__"=some (some (.builtin "type.__getattribute__"))
 rd:PySem.W.readsIn K C (.type "type")=true
 at_:PySem.W.findCls K (.ref C) (.type "type") m=some (.val (.ref f))
section
variable {X:Cx} {CX:CXT} {W:St->XK} {k:Nat} {f C:Addr} {fd:FuncData} {ps:List Str} {sp:Sp} {dvs:List V} {ds:List Value} {E:XK} {x m:Str} {p pos apos:Pos} {e o:Expr} {es:List Expr} {ta:TE} {t:TA}
theorem Qz {pl:Sem Bool} (F:AO X.prog X.w X.K X.mg X.base CX k f fd ps sp) (hr:Da k X.A) (hg:Gl X x) (hm:X.mg x=some (.ref C)) (c:CFn X.K C m f) (hk:PySem.W.keepIn X.K (.ref f)=true) (hb:A3 X.K fd ps ds) (hd:AJ dvs ds) (hx:EW CX X E) (ha:PA X (e :: es) t)
 (hdb:(x == ("__debug__":Str))=false:=by decide) (hst:starEach (e :: es) X.env=(false,eval e X.env) :: starEach es X.env:=by rfl) (hpl:(backTo pos (starEach es X.env)).any (·.1)=false:=by rfl)
 (ht:eval (.Call (.Attribute (.Name x p) m apos) (e :: es) [] pos) X.env=(do
  let ov <- eval (.Name x p) X.env
  standAt apos.atName
  let (f,first) <- holding [ov] (getMethod ov m pl)
  callWith pos f first (backTo pos (starEach (e :: es) X.env)) (backToKw pos (keywordEach [] X.env))):=by rfl) :
 PE X (.Call (.Attribute (.Name x p) m apos) (e :: es) [] pos) (PR sp dvs E t):=by
 intro pins s σ H Q I h
 refine PySem.W.methodCall_KW (pl:=pl) (GI I hg hm ?_ hdb) ht
 refine PySem.W.method_cls I.kIn c.sg (PySem.W.cls_value I.kIn c.rd c.at_ rfl ?_)
 refine PySem.W.callWith_K (first:=[]) (h₀:=X.base) I.ok.mod.kin hk (thn (ha pos pins _ σ H _ (I.tok _) h) fun us s1 ⟨vs,H1,I1,r,q⟩=>⟨I1.kIn,?_⟩) hst hpl
 exact LG F hr hb hd hx I1 r q
theorem NX {K:PySem.W.Frag} (hK:X.K=K:=by rfl):MtR X "list.count" (fun x vs H Q=>∃(a:Addr) (ns:List Int) (k:Int),x=.ref a/\vs=[.int k]/\SqL K H a (ns.map V.int)/\Q (.int (ns.count k:Nat)) H):=by
 subst hK
 intro pins s σ H x vs v us Q I rx rv h
 obtain ⟨a,ns,k,rfl,rfl,hq,q⟩:=h
 cases rx
 obtain ⟨u,rfl,t,rfl⟩:=Dv rv
 obtain ⟨its,rv,pl,hz⟩:=I.list hq
 exact count_list_ints pl.isList (BN rv) ⟨.int _,H,I.tok _,⟨_,rfl⟩,q⟩
end
end L2
namespace L2
open PySem PySem.Spec PyProof.Rows
section
variable {X:Cx} {elt iter:Expr} {x:Str} {px pos:Pos} {ifs:List Expr} {sc fsc:Scope} {N Nc:List Str} {wi:TI} {tt:TT} {te:TE}
end
section
variable {X:Cx} {elt iter:Expr} {x y:Str} {py pos:Pos} {ifs:List Expr} {sc sc2 fsc:Scope} {Nc Nd:List Str} {wi:TI} {tt:TT} {te:TE} {cl:List (Str × Addr)} {s:Shared} {H:Hp} {ex:List Addr}
end
end L2
namespace L2
open PySem PySem.W PySem.Spec PyProof.Rows
section
variable {X:Cx} {pins:List (Addr × Obj)} {σ:St} {H:Hp} {s:Shared} {c P:Addr} {pos:Pos} {params:Arguments} {body:Expr} {sc:Scope} {cl:List (Str × Addr)} {q:Str} {M:Model} {A:Around} {E:Value->Shared->Prop} {Q:Value->Shared->Prop}
end
section
variable {X:Cx} {pins:List (Addr × Obj)} {σ:St} {H:Hp} {s:Shared} {params:Arguments} {body:Expr} {sc fsc:Scope} {cl:List (Str × Addr)} {q x:Str} {A:Around} {N Nc:List Str} {f c':Addr} {te:TE} {E:Value->Shared->Prop}
end
section
variable {X:Cx} {pins:List (Addr × Obj)} {σ:St} {H:Hp}
variable {xs:List V} {l f I S:Addr}
end
section
variable {M:Model} {A:Around} {E:Value->Shared->Prop} {s:Shared} {env:Env}
end
section
variable {X:Cx} {c P:Addr} {e body:Expr} {tl tb:TE} {sc fsc:Scope} {N Nc:List Str} {x:Str} {params:Arguments} {lpos kp p pos:Pos}
end
end L2
namespace L2
open PySem PySem.W PySem.Spec PyProof.Rows
section
variable {prog:Program} {w:World} {A:Around} {E:Value->Shared->Prop} {s:Shared}
end
section
variable {prog:Program} {w:World} {A:Around} {E:Value->Shared->Prop} {s:Shared}
end
section
variable {X:Cx} {e e2:Expr} {te te2:TE} {p p2 p3 pos pos2 pos3 pos4:Pos}
end
end L2
namespace L2
open PySem PySem.Spec PyProof.Rows
section
variable {X:Cx} {W:St->XK} {k:Nat} {f C:Addr} {fd:FuncData} {ps:List Str} {sp:Sp} {dvs:List V} {ds:List Value} {x m:Str} {p pos apos:Pos} {e o:Expr} {es:List Expr} {ta:TE} {t:TA}
structure QL (K:PySem.W.Frag) (C B:Addr):Prop where
 ha:PySem.W.findIn K (.ref C) "__class__"=some (some (.builtin "object.__class__"))
 hn:PySem.W.specialIn K (.builtin "object.__class__") "__get__"=some (some (.builtin "getset_descriptor.__get__"))
 htk:PySem.W.takesIn K (.builtin "object.__class__")=some true
 hm:PySem.W.mroIn K C (.type "object")=some true
 kt:PySem.W.kitOne K (.ref C) (.ref B)=some true
end
end L2
namespace L2
open PySem PySem.W PySem.Spec PyProof.Rows
section
variable {prog:Program} {w:World} {A:Around} {E:Value->Shared->Prop} {s:Shared} {Q:Bool->Shared->Prop}
end
section
variable {X:Cx}
end
end L2
namespace L2
open PySem PySem.Spec PyProof.Rows
section
variable {prog:Program} {w:World} {A:Around} {E:Value->Shared->Prop} {s:Shared} {d:Addr} {es:Array DictEntry} {ep:Nat}
end
section
variable {X:Cx}
end
section
variable {prog:Program} {w:World} {A:Around} {E:Value->Shared->Prop} {s:Shared}
end
section
variable {X:Cx}
end
end L2
namespace PySem
open Sem (wp)
section
variable {prog:Program} {w:World} {K:Type} [DecidableEq K] (knd:KeyKind prog w K)
variable {knd}
variable {A:Around} {E:Value->Shared->Prop} {s:Shared}
end
end PySem
namespace L2
open PySem PySem.Spec PyProof.Rows
section
variable {P:Program} {w:World} {H:Hp} {h:Heap} {a:Addr}
end
section
variable {X:Cx} {o i e value:Expr} {pos pos' tpos:Pos} {td ty tv:TE}
end
end L2
namespace L2
open PySem PySem.Spec PyProof.Rows
section
variable {prog:Program} {w:World} {A:Around} {E:Value->Shared->Prop} {s:Shared}
end
section
variable {prog:Program} {w:World} {A:Around} {E:Value->Shared->Prop} {s:Shared}
end
section
variable {X:Cx} {pins:List (Addr × Obj)} {σ:St} {H:Hp}
end
section
variable {X:Cx} {e:Expr} {te:TE} {p p2 pos pos2:Pos}
end
end L2
namespace L2
open PySem PySem.Spec PyProof.Rows
section
variable {X:Cx} {pins:List (Addr × Obj)} {σ:St} {H:Hp}
end
end L2
namespace L2
open PySem PySem.Spec PyProof.Rows
end L2
namespace L2
open PySem PySem.W PySem.Spec PyProof.Rows
section
variable {O:KeyOrd} {ky:Nat->O.α} {n:Nat} {cmp:Nat->Nat->(Bool->Shared->Prop)->Shared->Prop} {J:Shared->Prop}
end
end L2
namespace L2
open PySem PySem.W PySem.Spec PyProof.Rows
theorem Rc {α:Type} {T:α->Prop} {R:Prop} (main:(∀a,T a)->R) (key:∀a,T a):R:=main key
theorem Mo {α β:Type} {T:α->β->Prop} {R:Prop} (main:(∀a b,T a b)->R) (key:∀a b,T a b):R:=main key
noncomputable def OO:Bool->Keyed->Array Keyed->Nat->Nat->Nat->StateT SortSt Sem (Option Nat):=sortPriv% PySem.Builtin.gallop
noncomputable def NW:Array Keyed->Array Keyed->StateT SortSt Sem (Array Keyed):=sortPriv% PySem.Builtin.mergeLo
noncomputable def NV:Array Keyed->Array Keyed->StateT SortSt Sem (Array Keyed):=sortPriv% PySem.Builtin.mergeHi
noncomputable def Rp:Nat->StateT SortSt Sem Unit:=sortPriv% PySem.Builtin.setMinGallop
section
variable {prog:Program} {w:World} {A:Around} {E:Value->Shared->Prop} {s:Shared} {κ:SortKind} {a₀:Array Keyed}
noncomputable def GO (prog:Program) (w:World) (A:Around) (E:Value->Shared->Prop) (s:Shared) (κ:SortKind) (a₀:Array Keyed):Prop:=∀x∈a₀,∀y∈a₀,∀(E':Value->Shared->Prop) (Q:Bool->Shared->Prop),(∀b,Q b s)->wpAny (model prog w) A (keyLt' κ x.1 y.1) Q E' s
structure Bw (κ:SortKind) (a₀:Array Keyed) (pd:Array (Nat × Nat × Nat)) (st:SortSt):Prop where
 k:kindOf st=κ
 p:(arrOf st).Perm a₀
 f:failedOf st=none
 d:pendingOf st=pd
theorem Bw.size {pd:Array (Nat × Nat × Nat)} {st:SortSt} (i:Bw κ a₀ pd st):(arrOf st).size=a₀.size:=i.p.size_eq
theorem Bw.mem {pd:Array (Nat × Nat × Nat)} {st:SortSt} (i:Bw κ a₀ pd st) {x:Keyed} (h:x∈arrOf st):x∈a₀:=i.p.mem_iff.mp h
theorem NT (c:GO prog w A E s κ a₀) {pd:Array (Nat × Nat × Nat)} {st:SortSt} (i:Bw κ a₀ pd st) {x y:Keyed} (hx:x∈a₀) (hy:y∈a₀) {Q:Option Bool->SortSt->Prop} (h:∀b,Q (some b) st):wpS (model prog w) A E s (lt' x y) Q st:=by
 rw [lt'_eq]
 refine wpS_bind (wpS_get ?_)
 rw [i.k]
 refine wpS_bind (wpS_lift (wpAny_attempt (c x hx y hy _ _ fun b=>⟨rfl,?_⟩)))
 exact wpS_pure (h b)
theorem By {arr:Array Keyed} {j:Nat} {st:SortSt} (hj:j < arr.size) {Q:Keyed->SortSt->Prop} (h:Q arr[j] st):wpS (model prog w) A E s (elem' arr j) Q st:=by
 rw [elem'_eq,Array.getElem?_eq_getElem hj]
 exact wpS_pure h
theorem FY (c:GO prog w A E s κ a₀) {pd:Array (Nat × Nat × Nat)} {st:SortSt} (i:Bw κ a₀ pd st) {j k:Nat} (hj:j < a₀.size) (hk:k < a₀.size) {Q:Option Bool->SortSt->Prop} (h:∀b,Q (some b) st):wpS (model prog w) A E s (ltAt' j k) Q st:=by
 rw [ltAt'_eq]
 refine wpS_bind (wpS_get ?_)
 refine wpS_bind (By (by rw [i.size];exact hj) (wpS_bind (By (by rw [i.size];exact hk) ?_)))
 exact NT c i (i.mem (Array.getElem_mem _)) (i.mem (Array.getElem_mem _)) h
theorem K9 {pd:Array (Nat × Nat × Nat)} {st:SortSt} (i:Bw κ a₀ pd st) {j k:Nat} {Q:Unit->SortSt->Prop} (h:∀st',Bw κ a₀ pd st'->Q () st'):wpS (model prog w) A E s (reverseSlice' j k) Q st:=by
 rw [reverseSlice'_eq]
 exact wpS_modify (h _ ⟨i.k,(mirror_perm _ _ _ _).trans i.p,i.f,i.d⟩)
theorem Qf {pd:Array (Nat × Nat × Nat)} {st:SortSt} (i:Bw κ a₀ pd st) {j k:Nat} {Q:Unit->SortSt->Prop} (h:∀st',Bw κ a₀ pd st'->Q () st'):wpS (model prog w) A E s (moveDown' j k) Q st:=by
 rw [moveDown'_eq]
 exact wpS_modify (h _ ⟨i.k,(bubble_perm _ _ _).trans i.p,i.f,i.d⟩)
noncomputable def Ek (κ:SortKind) (a₀:Array Keyed) (pd:Array (Nat × Nat × Nat)) (ar:Array Keyed) (st:SortSt):Prop:=Bw κ a₀ pd st/\arrOf st=ar
theorem Mv {pd:Array (Nat × Nat × Nat)} {ar:Array Keyed} {st:SortSt} (i:Ek κ a₀ pd ar st) {g:Nat} {Q:Unit->SortSt->Prop} (h:∀st',Ek κ a₀ pd ar st'->Q () st'):wpS (model prog w) A E s (Rp g) Q st :=
 wpS_modify (f:=fun st=>SortSt.mk' (kindOf st) (arrOf st) (pendingOf st) g (failedOf st)) (h _ ⟨⟨i.1.k,i.1.p,i.1.f,i.1.d⟩,i.2⟩)
theorem QQ (c:GO prog w A E s κ a₀) {pd:Array (Nat × Nat × Nat)} {st:SortSt} (i:Bw κ a₀ pd st) {lo n ok:Nat} (hz:lo+n<=a₀.size) {Q:Bool->SortSt->Prop} (h:∀st',Bw κ a₀ pd st'->Q true st'):wpS (model prog w) A E s (binarySort' lo n ok) Q st:=by
 refine wpS_bind (wpS_mono (wpS_forRange (I:=fun _ b st'=>b=(none,())/\Bw κ a₀ pd st') (Q:=fun b st'=>b=(none,())/\Bw κ a₀ pd st') ?_ (fun _ _ z=>z) ⟨rfl,i⟩) ?_)
 ·rintro k b st' hk hn ⟨rfl,i'⟩
  dsimp only
  refine wpS_bind (wpS_mono (wpS_forRange (I:=fun _ b st''=>∃l r,b=(none,l,r)/\r<=k/\Bw κ a₀ pd st'') (Q:=fun b st''=>∃l r,b=(none,l,r)/\Bw κ a₀ pd st'') ?_ (fun _ _ ⟨l,r,e,_,j⟩=>⟨l,r,e,j⟩) ⟨0,k,rfl,Nat.le_refl _,i'⟩) ?_)
  ·rintro x b st2 _ _ ⟨l,r,rfl,rk,i2⟩
   dsimp only
   by_cases lr:l>=r
   ·rw [if_pos lr]
    exact wpS_pure ⟨l,r,rfl,i2⟩
   ·rw [if_neg lr]
    refine wpS_bind (FY c i2 (by omega) (by omega) fun b=>?_)
    cases b with
    | true=>exact wpS_pure ⟨l,(l+r) / 2,rfl,by omega,i2⟩
    | false=>exact wpS_pure ⟨(l+r) / 2+1,r,rfl,rk,i2⟩
  ·rintro b st2 ⟨l,r,rfl,i2⟩
   exact wpS_bind (Qf i2 fun st3 i3=>wpS_pure ⟨rfl,i3⟩)
 ·rintro b st' ⟨rfl,i'⟩
  exact wpS_pure (h st' i')
theorem QP (c:GO prog w A E s κ a₀) {pd:Array (Nat × Nat × Nat)} {st:SortSt} (i:Bw κ a₀ pd st) {lo n nrem:Nat} (h1:1<=n) (hn:n<=nrem) (hz:lo+nrem<=a₀.size) {Q:Option Nat->SortSt->Prop} (h:∀m st',1<=m->m<=nrem->Bw κ a₀ pd st'->Q (some m) st') {f:Option (Option Nat) × Nat->StateT SortSt Sem (Option Nat)} (hf:∀m,f (none,m)=pure (some m)) {b:Nat->Option (Option Nat) × Nat->StateT SortSt Sem (ForInStep (Option (Option Nat) × Nat))}
 (hb:∀k m,∃g,b k (none,m)=(ltAt' (lo+m) (lo+m - 1) >>= g)/\g (some true)=pure (.done (none,m))/\g (some false)=pure (.yield (none,m+1))):wpS (model prog w) A E s (forIn [n:nrem] (none,n) b >>= f) Q st:=by
 refine wpS_bind (wpS_mono (wpS_forRange (I:=fun k b st'=>b=(none,k)/\Bw κ a₀ pd st') (Q:=fun b st'=>∃m,b=(none,m)/\1<=m/\m<=nrem/\Bw κ a₀ pd st') ?_ (fun _ _ z=>⟨_,z.1,by omega,by omega,z.2⟩) ⟨rfl,i⟩) ?_)
 ·rintro k x st' hk hn ⟨rfl,i'⟩
  obtain ⟨g,e,e1,e2⟩:=hb k k
  rw [e]
  refine wpS_bind (FY c i' (by omega) (by omega) fun b=>?_)
  cases b with
  | true=>rw [e1];exact wpS_pure ⟨k,rfl,by omega,by omega,i'⟩
  | false=>rw [e2];exact wpS_pure ⟨rfl,i'⟩
 ·rintro b st' ⟨m,rfl,m1,m2,i'⟩
  rw [hf]
  exact wpS_pure (h m st' m1 m2 i')
theorem OM (c:GO prog w A E s κ a₀) {pd:Array (Nat × Nat × Nat)} {st:SortSt} (i:Bw κ a₀ pd st) {lo nrem:Nat} (h1:1<=nrem) (hz:lo+nrem<=a₀.size) {Q:Option Nat->SortSt->Prop} (h:∀m st',1<=m->m<=nrem->Bw κ a₀ pd st'->Q (some m) st'):wpS (model prog w) A E s (countRun' lo nrem) Q st:=by
 refine wpS_bind (wpS_mono (wpS_forRange (I:=fun k b st'=>b=(none,k)/\Bw κ a₀ pd st') (Q:=fun b st'=>∃m,b=(none,m)/\1<=m/\m<=nrem/\Bw κ a₀ pd st') ?_ (fun _ _ z=>⟨_,z.1,by omega,by omega,z.2⟩) ⟨rfl,i⟩) ?_)
 ·rintro k x st' hk hn ⟨rfl,i'⟩
  dsimp only
  refine wpS_bind (FY c i' (by omega) (by omega) fun b=>?_)
  cases b with
  | true=>exact wpS_pure ⟨k,rfl,by omega,by omega,i'⟩
  | false=>exact wpS_pure ⟨rfl,i'⟩
 ·rintro b st' ⟨m,rfl,m1,m2,i'⟩
  dsimp only
  by_cases hm:m=nrem
  ·rw [if_pos (by simpa using hm)]
   exact wpS_pure (h m st' m1 m2 i')
  rw [if_neg (by simpa using hm)]
  have fin:∀(st2:SortSt) (n:Nat),Bw κ a₀ pd st2->1<=n->n<=nrem->∀{f:Option (Option Nat) × Nat->StateT SortSt Sem (Option Nat)},(∀m,f (none,m)=pure (some m))->∀{b:Nat->Option (Option Nat) × Nat->StateT SortSt Sem (ForInStep (Option (Option Nat) × Nat))},(∀k m,∃g,b k (none,m)=(ltAt' (lo+m) (lo+m - 1) >>= g)/\g (some true)=pure (.done (none,m))/\g (some false)=pure (.yield (none,m+1)))->wpS (model prog w) A E s (forIn [n:nrem] (none,n) b >>= f) Q st2:=fun st2 n i2 n1 n2 f hf b hb=>QP c i2 n1 n2 hz h hf hb
  split
  case' isTrue =>
   refine wpS_bind (FY c i' (by omega) (by omega) fun b=>?_)
   cases b
   rotate_left
   exact wpS_pure (h m st' m1 m2 i')
   refine wpS_bind (K9 i' fun st2 i2=>?_)
  case' isFalse =>
   obtain ⟨st2,i2,e⟩:∃st2,Bw κ a₀ pd st2/\st2=st':=⟨st',i',rfl⟩
   rw [<- e]
  all_goals
   refine wpS_bind (wpS_lift (wpAny_rule ⟨rfl,?_⟩))
   refine wpS_bind (wpS_mono (wpS_forRange (I:=fun k b st3=>∃q,b=(none,k,q)/\Bw κ a₀ pd st3) (Q:=fun b st3=>∃n q,b=(none,n,q)/\1<=n/\n<=nrem/\Bw κ a₀ pd st3) ?_ (fun _ _ ⟨q,z,j⟩=>⟨_,q,z,by omega,by omega,j⟩) ⟨0,rfl,i2⟩) ?_)
   ·rintro k x st3 hk hn ⟨q,rfl,i3⟩
    dsimp only
    refine wpS_bind (FY c i3 (by omega) (by omega) fun b=>?_)
    cases b with
    | true =>
      dsimp only
      rw [if_pos rfl]
      split
      ·exact wpS_bind (K9 i3 fun st4 i4=>wpS_pure ⟨0,rfl,i4⟩)
      ·exact wpS_pure ⟨0,rfl,i3⟩
    | false =>
      dsimp only
      rw [if_neg (by decide)]
      refine wpS_bind (FY c i3 (by omega) (by omega) fun b=>?_)
      cases b with
      | true=>exact wpS_pure ⟨k,q,rfl,by omega,by omega,i3⟩
      | false=>exact wpS_pure ⟨q+1,rfl,i3⟩
   ·rintro b st3 ⟨n,q,rfl,n1,n2,i3⟩
    dsimp only
    split
    ·exact wpS_bind (K9 i3 fun st4 i4=>wpS_bind (K9 i4 fun st5 i5=>fin st5 n i5 n1 n2 (fun _=>rfl) (fun k m=>⟨_,rfl,rfl,rfl⟩)))
    ·exact wpS_bind (K9 i3 fun st4 i4=>fin st4 n i4 n1 n2 (fun _=>rfl) (fun k m=>⟨_,rfl,rfl,rfl⟩))
theorem DU (c:GO prog w A E s κ a₀) {pd:Array (Nat × Nat × Nat)} {st:SortSt} (i:Bw κ a₀ pd st) {left:Bool} {key:Keyed} {arr:Array Keyed} {base n hint:Nat} (hk:key∈a₀) (ha:∀x∈arr,x∈a₀) (hz:base+n<=arr.size) (hh:hint < n) {Q:Option Nat->SortSt->Prop} (h:∀m,m<=n->Q (some m) st):wpS (model prog w) A E s (OO left key arr base n hint) Q st:=by
 have bey:∀(j:Nat) (Q':Option Bool->SortSt->Prop),base+j < arr.size->(∀b,Q' (some b) st)->wpS (model prog w) A E s (elem' arr (base+j) >>= fun x=>if left=true then lt' x key else lt' key x >>= fun r=>pure (r.map (!·))) Q' st:=fun j Q' hj q=>by
  refine wpS_bind (By hj ?_)
  have mx:=ha _ (Array.getElem_mem hj)
  split
  ·exact NT c i mx hk q
  ·exact wpS_bind (NT c i hk mx fun b=>wpS_pure (q (!b)))
 refine wpS_bind (bey _ _ (by omega) fun b=>?_)
 have fin:∀(lo hi:Nat),hi<=n->∀{f:Option (Option Nat) × Nat × Nat->StateT SortSt Sem (Option Nat)},(∀lo m,f (none,lo,m)=pure (some m))->∀{b:Nat->Option (Option Nat) × Nat × Nat->StateT SortSt Sem (ForInStep (Option (Option Nat) × Nat × Nat))},(∀k lo hi,∃g,b k (none,lo,hi)=(if lo>=hi then pure (.done (none,lo,hi)) else (elem' arr (base+(lo+(hi - lo) / 2)) >>= fun x=>if left=true then lt' x key else lt' key x >>= fun r=>pure (r.map (!·))) >>= g)/\g (some true)=pure (.yield (none,lo+(hi - lo) / 2+1,hi))/\g (some false)=pure (.yield (none,lo,lo+(hi - lo) / 2)))->wpS (model prog w) A E s (forIn [0:n] (none,lo,hi) b >>= f) Q st:=fun lo hi hn f hf b hb=>by
  refine wpS_bind (wpS_mono (wpS_forRange (I:=fun _ b st'=>st'=st/\∃lo hi,b=(none,lo,hi)/\hi<=n) (Q:=fun b st'=>st'=st/\∃lo hi,b=(none,lo,hi)/\hi<=n) ?_ (fun _ _ z=>z) ⟨rfl,lo,hi,rfl,hn⟩) ?_)
  ·rintro k x st' _ _ ⟨rfl,lo,hi,rfl,hn⟩
   obtain ⟨g,e,e1,e2⟩:=hb k lo hi
   rw [e]
   split
   ·exact wpS_pure ⟨rfl,lo,hi,rfl,hn⟩
   ·refine wpS_bind (bey _ _ (by omega) fun b=>?_)
    cases b with
    | true=>rw [e1];exact wpS_pure ⟨rfl,_,hi,rfl,hn⟩
    | false=>rw [e2];exact wpS_pure ⟨rfl,lo,_,rfl,by omega⟩
  ·rintro x st' ⟨rfl,lo,hi,rfl,hn⟩
   rw [hf]
   exact wpS_pure (h hi hn)
 cases b with
 | true =>
   refine wpS_bind (wpS_mono (wpS_forRange (I:=fun _ b st'=>st'=st/\∃l o,b=(none,l,o)) (Q:=fun b st'=>st'=st/\∃l o,b=(none,l,o)) ?_ (fun _ _ z=>z) ⟨rfl,0,1,rfl⟩) ?_)
   ·rintro k x st' _ _ ⟨rfl,l,o,rfl⟩
    dsimp only
    split
    ·exact wpS_pure ⟨rfl,l,o,rfl⟩
    ·refine wpS_bind (bey _ _ (by omega) fun b=>?_)
     cases b with
     | true=>exact wpS_pure ⟨rfl,_,_,rfl⟩
     | false=>exact wpS_pure ⟨rfl,_,_,rfl⟩
   ·rintro x st' ⟨rfl,l,o,rfl⟩
    exact fin _ _ (by omega) (fun _ _=>rfl) (fun _ _ _=>⟨_,rfl,rfl,rfl⟩)
 | false =>
   refine wpS_bind (wpS_mono (wpS_forRange (I:=fun _ b st'=>st'=st/\∃l o,b=(none,l,o)) (Q:=fun b st'=>st'=st/\∃l o,b=(none,l,o)) ?_ (fun _ _ z=>z) ⟨rfl,0,1,rfl⟩) ?_)
   ·rintro k x st' _ _ ⟨rfl,l,o,rfl⟩
    dsimp only
    split
    ·exact wpS_pure ⟨rfl,l,o,rfl⟩
    ·refine wpS_bind (bey _ _ (by omega) fun b=>?_)
     cases b with
     | true=>exact wpS_pure ⟨rfl,_,_,rfl⟩
     | false=>exact wpS_pure ⟨rfl,_,_,rfl⟩
   ·rintro x st' ⟨rfl,l,o,rfl⟩
    exact fin _ _ (by omega) (fun _ _=>rfl) (fun _ _ _=>⟨_,rfl,rfl,rfl⟩)
section
variable {a b:Array Keyed}
noncomputable def OkL (a b m:Array Keyed):Prop:=m.toList.Perm (a.toList++b.toList)
noncomputable def PLo (a b out:Array Keyed) (ia ib:Nat):Prop:=(out.toList++(a.toList.drop ia++b.toList.drop ib)).Perm (a.toList++b.toList)
theorem PLo.as {out:Array Keyed} {ia ib:Nat} (p:PLo a b out ia ib) (k:Nat):PLo a b (out++a.extract ia (ia+k)) (ia+k) ib:=by
 unfold PLo at p ⊢
 refine List.Perm.trans (List.Perm.of_eq ?_) p
 rw [Array.toList_append,Array.toList_extract,List.extract_eq_take_drop,Nat.add_sub_cancel_left,List.append_assoc,<- List.append_assoc (List.take ..),<- List.drop_drop,List.take_append_drop]
theorem PLo.bs {out:Array Keyed} {ia ib:Nat} (p:PLo a b out ia ib) (k:Nat):PLo a b (out++b.extract ib (ib+k)) ia (ib+k):=by
 unfold PLo at p ⊢
 refine List.Perm.trans ?_ p
 rw [Array.toList_append,Array.toList_extract,List.extract_eq_take_drop,Nat.add_sub_cancel_left,List.append_assoc]
 refine List.Perm.append_left _ ?_
 rw [<- List.append_assoc]
 refine (List.Perm.append_right _ List.perm_append_comm).trans ?_
 rw [List.append_assoc,<- List.drop_drop,List.take_append_drop]
theorem E8 {x:Keyed} {out:Array Keyed} {l:Array Keyed} {j:Nat} (h:j < l.size) (e:l[j]=x):out.push x=out++l.extract j (j+1):=by
 apply Array.toList_inj.mp
 rw [Array.toList_push,Array.toList_append,Array.toList_extract,List.extract_eq_take_drop,Nat.add_sub_cancel_left,List.drop_eq_getElem_cons (by simpa using h),<- e]
 rfl
theorem PLo.done {out:Array Keyed} {ia ib:Nat} (p:PLo a b out ia ib):OkL a b (out++a.extract ia a.size++b.extract ib b.size):=by
 unfold OkL
 refine List.Perm.trans (List.Perm.of_eq ?_) p
 rw [Array.toList_append,Array.toList_append,Array.toList_extract,Array.toList_extract,List.extract_eq_take_drop,List.extract_eq_take_drop,List.take_of_length_le (by simp),List.take_of_length_le (by simp),List.append_assoc]
theorem PLo.last {out:Array Keyed} {ia ib:Nat} (p:PLo a b out ia ib):OkL a b (out++b.extract ib b.size++a.extract ia a.size):=by
 unfold OkL
 refine List.Perm.trans ?_ p
 rw [Array.toList_append,Array.toList_append,Array.toList_extract,Array.toList_extract,List.extract_eq_take_drop,List.extract_eq_take_drop,List.take_of_length_le (by simp),List.take_of_length_le (by simp),List.append_assoc]
 exact List.Perm.append_left _ List.perm_append_comm
end
theorem RI (c:GO prog w A E s κ a₀) {pd:Array (Nat × Nat × Nat)} {st:SortSt} {ar:Array Keyed} (i:Ek κ a₀ pd ar st) {a b:Array Keyed} (ha:∀x∈a,x∈a₀) (hb:∀x∈b,x∈a₀) (a1:1<=a.size) (b1:1<=b.size) {Q:Array Keyed->SortSt->Prop} (h:∀m st',m.toList.Perm (a.toList++b.toList)->Ek κ a₀ pd ar st'->Q m st'):wpS (model prog w) A E s (NW a b) Q st:=by
 refine wpS_bind (wpS_lift (wpAny_rule ⟨rfl,?_⟩))
 refine wpS_bind (By b1 ?_)
 have p0:PLo a b #[b[0]] 0 1:=by
  have:=PLo.bs (a:=a) (b:=b) (out:=#[]) (ia:=0) (ib:=0) (List.Perm.refl _) 1
  rw [<- E8 (x:=b[0]) (by omega) rfl] at this
  exact this
 dsimp only
 by_cases c1:1=b.size
 ·rw [if_pos (by simpa using c1)]
  exact wpS_pure (h _ _ p0.done i)
 rw [if_neg (by simpa using c1)]
 by_cases c2:0+1=a.size
 ·rw [if_pos (by simpa using c2)]
  exact wpS_pure (h _ _ p0.last i)
 rw [if_neg (by simpa using c2)]
 refine wpS_bind (wpS_get ?_)
 refine wpS_bind (wpS_mono (wpS_forRange (I:=fun j x st'=>Ek κ a₀ pd ar st'/\∃out ia ib mg,x=(none,out,ia,ib,mg)/\PLo a b out ia ib/\ia+2<=a.size/\ib+1<=b.size/\j+1<=ia+ib) (Q:=fun x st'=>Ek κ a₀ pd ar st'/\∃r,x.1=some r/\OkL a b r) ?_ (fun _ _ ⟨_,_,ia,ib,_,_,_,l1,l2,l3⟩=>by omega) ⟨i,_,0,1,_,rfl,p0,by omega,by omega,Nat.le_refl _⟩) ?_)
 ·rintro j x st' _ hj ⟨i',out,ia,ib,mg,rfl,p1,l1,l2,l3⟩
  dsimp only
  refine wpS_bind (wpS_mono (wpS_forRange (I:=fun j' x st'=>Ek κ a₀ pd ar st'/\∃out ia ib ac bc,x=(none,out,ia,ib,ac,bc)/\PLo a b out ia ib/\ia+2<=a.size/\ib+1<=b.size/\j+1+j'<=ia+ib) (Q:=fun x st'=>Ek κ a₀ pd ar st'/\((∃r,x.1=some r/\OkL a b r)\/∃out ia ib ac bc,x=(none,out,ia,ib,ac,bc)/\PLo a b out ia ib/\ia+2<=a.size/\ib+1<=b.size/\j+2<=ia+ib)) ?_ (fun _ _ ⟨z,out,ia,ib,ac,bc,z1,z2,z3,z4,z5⟩=>⟨z,.inr ⟨out,ia,ib,ac,bc,z1,z2,z3,z4,by omega⟩⟩) ⟨i',out,ia,ib,0,0,rfl,p1,l1,l2,by omega⟩) ?_)
  ·rintro j' x st2 _ _ ⟨i2,out,ia,ib,ac,bc,rfl,p2,m1,m2,m3⟩
   dsimp only
   refine wpS_bind (By (by omega) (wpS_bind (By (by omega) (wpS_bind (NT c i2.1 (hb _ (Array.getElem_mem _)) (ha _ (Array.getElem_mem _)) fun x=>?_)))))
   cases x with
   | true =>
     refine wpS_bind (By (by omega) ?_)
     rw [E8 (x:=b[ib]) (j:=ib) (by omega) rfl]
     split
     ·exact wpS_pure ⟨i2,.inl ⟨_,rfl,(p2.bs 1).done⟩⟩
     ·rename_i ne
      have ne:¬ ib+1=b.size:=by simpa using ne
      split
      ·exact wpS_pure ⟨i2,.inr ⟨_,_,_,_,_,rfl,p2.bs 1,m1,by omega,by omega⟩⟩
      ·exact wpS_pure ⟨i2,_,_,_,_,_,rfl,p2.bs 1,m1,by omega,by omega⟩
   | false =>
     refine wpS_bind (By (by omega) ?_)
     rw [E8 (x:=a[ia]) (j:=ia) (by omega) rfl]
     split
     ·exact wpS_pure ⟨i2,.inl ⟨_,rfl,(p2.as 1).last⟩⟩
     ·rename_i ne
      have ne:¬ ia+1+1=a.size:=by simpa using ne
      split
      ·exact wpS_pure ⟨i2,.inr ⟨_,_,_,_,_,rfl,p2.as 1,by omega,m2,by omega⟩⟩
      ·exact wpS_pure ⟨i2,_,_,_,_,_,rfl,p2.as 1,by omega,m2,by omega⟩
  ·rintro ⟨x1,x2⟩ st2 ⟨i2,⟨r,rfl,ok⟩ | ⟨out,ia,ib,ac,bc,e,p2,m1,m2,m3⟩⟩
   ·exact wpS_pure ⟨i2,r,rfl,ok⟩
   cases e
   dsimp only
   refine wpS_bind (wpS_lift (wpAny_rule ⟨rfl,?_⟩))
   refine wpS_bind (wpS_mono (wpS_forRange (I:=fun _ x st'=>Ek κ a₀ pd ar st'/\∃out ia ib mg ac bc,x=(none,out,ia,ib,mg,ac,bc)/\PLo a b out ia ib/\ia+2<=a.size/\ib+1<=b.size/\j+2<=ia+ib) (Q:=fun x st'=>Ek κ a₀ pd ar st'/\((∃r,x.1=some r/\OkL a b r)\/∃out ia ib mg ac bc,x=(none,out,ia,ib,mg,ac,bc)/\PLo a b out ia ib/\ia+2<=a.size/\ib+1<=b.size/\j+2<=ia+ib)) ?_ (fun _ _ z=>⟨z.1,.inr z.2⟩) ⟨i2,out,ia,ib,_,ac,bc,rfl,p2,m1,m2,m3⟩) ?_)
   ·clear p1 l1 l2 l3 p2 m1 m2 m3 i2 i'
    rintro j' x st2 _ _ ⟨i2,out,ia,ib,mg,ac,bc,rfl,p2,m1,m2,m3⟩
    dsimp only
    refine Rc (α:=Nat) (T:=?T) ?main ?key
    case main =>
     intro key
     by_cases g1:mg > 1
     ·rw [if_pos g1]
      generalize mg - 1=mg2
      exact key mg2
     ·rw [if_neg g1]
      exact key mg
    intro mg
    refine wpS_bind (Mv i2 fun st3 i3=>?_)
    refine wpS_bind (By (by omega) ?_)
    refine wpS_bind (DU c i3.1 (hb _ (Array.getElem_mem _)) ha (by omega) (by omega) fun k hk=>?_)
    dsimp only
    refine Mo (α:=Array Keyed) (β:=Nat) (T:=?T2) ?main2 ?key2
    case main2 =>
     intro key
     by_cases g2:k > 0
     ·rw [if_pos g2]
      have p3:=p2.as k
      generalize out++a.extract ia (ia+k)=out2 at p3 ⊢
      generalize hi:ia+k=ia2 at p3 ⊢
      by_cases z1:ia2+1=a.size
      ·rw [if_pos (by simpa using z1)]
       exact wpS_pure ⟨i3,.inl ⟨_,rfl,p3.last⟩⟩
      rw [if_neg (by simpa using z1)]
      by_cases z2:ia2=a.size
      ·rw [if_pos (by simpa using z2)]
       exact wpS_pure ⟨i3,.inl ⟨_,rfl,p3.done⟩⟩
      rw [if_neg (by simpa using z2)]
      have b3:ia2+2<=a.size:=by omega
      have b4:j+2<=ia2+ib:=by omega
      revert p3 b3 b4
      exact key out2 ia2
     ·rw [if_neg g2]
      revert p2 m1 m3
      exact key out ia
    intro out2 ia2 p3 b3 b4
    clear p2 m1 m3 hk
    refine wpS_bind (By (by omega) ?_)
    rw [E8 (x:=b[ib]) (j:=ib) (by omega) rfl]
    have p4:=p3.bs 1
    generalize out2++b.extract ib (ib+1)=out3 at p4 ⊢
    by_cases z3:ib+1=b.size
    ·rw [if_pos (by simpa using z3)]
     exact wpS_pure ⟨i3,.inl ⟨_,rfl,p4.done⟩⟩
    rw [if_neg (by simpa using z3)]
    refine wpS_bind (By (by omega) ?_)
    refine wpS_bind (DU c i3.1 (ha _ (Array.getElem_mem _)) hb (by omega) (by omega) fun k2 hk2=>?_)
    dsimp only
    have m2':ib+1+1<=b.size:=by omega
    have m3':j+2<=ia2+(ib+1):=by omega
    refine Mo (α:=Array Keyed) (β:=Nat) (T:=?T3) ?main3 ?key3
    case main3 =>
     intro key
     by_cases g3:k2 > 0
     ·rw [if_pos g3]
      have p5:=p4.bs k2
      generalize out3++b.extract (ib+1) (ib+1+k2)=out4 at p5 ⊢
      generalize hi:ib+1+k2=ib2 at p5 ⊢
      by_cases z4:ib2=b.size
      ·rw [if_pos (by simpa using z4)]
       exact wpS_pure ⟨i3,.inl ⟨_,rfl,p5.done⟩⟩
      rw [if_neg (by simpa using z4)]
      have b5:ib2+1<=b.size:=by omega
      have b6:j+2<=ia2+ib2:=by omega
      revert p5 b5 b6
      exact key out4 ib2
     ·rw [if_neg g3]
      revert p4 m2' m3'
      exact key out3 (ib+1)
    intro out4 ib2 p5 b5 b6
    refine wpS_bind (By (by omega) ?_)
    rw [E8 (x:=a[ia2]) (j:=ia2) (by omega) rfl]
    have p6:=p5.as 1
    by_cases z5:ia2+1+1=a.size
    ·rw [if_pos (by simpa using z5)]
     exact wpS_pure ⟨i3,.inl ⟨_,rfl,p6.last⟩⟩
    rw [if_neg (by simpa using z5)]
    split
    ·exact wpS_pure ⟨i3,.inr ⟨_,_,_,_,_,_,rfl,p6,by omega,by omega,by omega⟩⟩
    ·exact wpS_pure ⟨i3,_,_,_,_,_,_,rfl,p6,by omega,by omega,by omega⟩
   ·rintro ⟨x1,x2⟩ st3 ⟨i3,⟨r,rfl,ok⟩ | ⟨out,ia,ib,mg,ac,bc,e,p3,n1,n2,n3⟩⟩
    ·exact wpS_pure ⟨i3,r,rfl,ok⟩
    cases e
    exact wpS_bind (Mv i3 fun st4 i4=>wpS_pure ⟨i4,out,ia,ib,_,rfl,p3,n1,n2,by omega⟩)
 ·rintro ⟨x1,x2⟩ st' ⟨i',r,rfl,ok⟩
  exact wpS_pure (h r st' ok i')
section
variable {a b:Array Keyed}
noncomputable def PHi (a b out:Array Keyed) (na nb:Nat):Prop:=(out.toList++(a.toList.take na++b.toList.take nb)).Perm (a.toList++b.toList)
theorem Jm (l:List Keyed) {i j:Nat} (h:i<=j):(l.take i++(l.drop i).take (j - i))=l.take j:=by
 rw [<- List.take_add,Nat.add_sub_cancel' h]
theorem KA (l:Array Keyed) (i j:Nat):((l.extract i j).reverse).toList.Perm ((l.toList.drop i).take (j - i)):=by
 rw [Array.toList_reverse,Array.toList_extract,List.extract_eq_take_drop]
 exact List.reverse_perm _
theorem PHi.as {out:Array Keyed} {na nb:Nat} (p:PHi a b out na nb) {k:Nat} (h:k<=na):PHi a b (out++(a.extract k na).reverse) k nb:=by
 unfold PHi at p ⊢
 refine List.Perm.trans ?_ p
 rw [Array.toList_append,List.append_assoc,<- Jm a.toList h,<- List.append_assoc ((a.extract k na).reverse).toList]
 exact List.Perm.append_left _ (List.Perm.append_right _ ((List.Perm.append_right _ (KA a k na)).trans List.perm_append_comm))
theorem PHi.bs {out:Array Keyed} {na nb:Nat} (p:PHi a b out na nb) {k:Nat} (h:k<=nb):PHi a b (out++(b.extract k nb).reverse) na k:=by
 unfold PHi at p ⊢
 refine List.Perm.trans ?_ p
 rw [Array.toList_append,List.append_assoc,<- Jm b.toList h]
 refine List.Perm.append_left _ ?_
 refine (List.Perm.append_right _ (KA b k nb)).trans ?_
 refine List.perm_append_comm.trans ?_
 rw [List.append_assoc]
theorem K4 {x:Keyed} {out:Array Keyed} {l:Array Keyed} {j:Nat} (h:j < l.size) (e:l[j]=x):out.push x=out++(l.extract j (j+1)).reverse:=by
 apply Array.toList_inj.mp
 rw [Array.toList_push,Array.toList_append,Array.toList_reverse,Array.toList_extract,List.extract_eq_take_drop,Nat.add_sub_cancel_left,List.drop_eq_getElem_cons (by simpa using h),<- e]
 rfl
theorem EK {out:Array Keyed} {l:Array Keyed} {n:Nat} (h1:1<=n) (h:n - 1 < l.size):out.push l[n - 1]=out++(l.extract (n - 1) n).reverse:=by
 have e:=K4 (out:=out) (x:=l[n - 1]) h rfl
 rw [show n - 1+1=n by omega] at e
 exact e
theorem PHi.done {out:Array Keyed} {na nb:Nat} (p:PHi a b out na nb):OkL a b (a.extract 0 na++b.extract 0 nb++out.reverse):=by
 unfold OkL
 refine List.Perm.trans ?_ p
 rw [Array.toList_append,Array.toList_append,Array.toList_extract,Array.toList_extract,List.extract_eq_take_drop,List.extract_eq_take_drop,Array.toList_reverse]
 exact List.perm_append_comm.trans (List.Perm.append_right _ (List.reverse_perm _))
theorem PHi.first {out:Array Keyed} {na nb:Nat} (p:PHi a b out na nb):OkL a b (b.extract 0 nb++a.extract 0 na++out.reverse):=by
 unfold OkL
 refine List.Perm.trans ?_ p
 rw [Array.toList_append,Array.toList_append,Array.toList_extract,Array.toList_extract,List.extract_eq_take_drop,List.extract_eq_take_drop,Array.toList_reverse]
 exact List.perm_append_comm.trans ((List.Perm.append_right _ (List.reverse_perm _)).trans (List.Perm.append_left _ List.perm_append_comm))
end
theorem RF (c:GO prog w A E s κ a₀) {pd:Array (Nat × Nat × Nat)} {st:SortSt} {ar:Array Keyed} (i:Ek κ a₀ pd ar st) {a b:Array Keyed} (ha:∀x∈a,x∈a₀) (hb:∀x∈b,x∈a₀) (a1:1<=a.size) (b1:1<=b.size) {Q:Array Keyed->SortSt->Prop} (h:∀m st',m.toList.Perm (a.toList++b.toList)->Ek κ a₀ pd ar st'->Q m st'):wpS (model prog w) A E s (NV a b) Q st:=by
 refine wpS_bind (wpS_lift (wpAny_rule ⟨rfl,?_⟩))
 refine wpS_bind (By (show a.size - 1 < a.size by omega) ?_)
 have p0:PHi a b #[a[a.size - 1]] (a.size - 1) b.size:=by
  have:=PHi.as (a:=a) (b:=b) (out:=#[]) (na:=a.size) (nb:=b.size) (by unfold PHi;rw [List.take_of_length_le (by simp),List.take_of_length_le (by simp)];exact List.Perm.refl _) (k:=a.size - 1) (by omega)
  have e:(#[a[a.size - 1]]:Array Keyed)=#[]++(a.extract (a.size - 1) (a.size - 1+1)).reverse:=K4 (out:=#[]) (x:=a[a.size - 1]) (by omega) rfl
  rw [show a.size - 1+1=a.size by omega] at e
  rw [e]
  exact this
 dsimp only
 by_cases c1:a.size - 1=0
 ·rw [if_pos (by simpa using c1)]
  exact wpS_pure (h _ _ p0.done i)
 rw [if_neg (by simpa using c1)]
 by_cases c2:b.size=1
 ·rw [if_pos (by simpa using c2)]
  exact wpS_pure (h _ _ p0.first i)
 rw [if_neg (by simpa using c2)]
 refine wpS_bind (wpS_get ?_)
 refine wpS_bind (wpS_mono (wpS_forRange (I:=fun j x st'=>Ek κ a₀ pd ar st'/\∃na nb out mg,x=(none,na,nb,out,mg)/\PHi a b out na nb/\1<=na/\2<=nb/\na<=a.size/\nb<=b.size/\j+1+na+nb<=a.size+b.size) (Q:=fun x st'=>Ek κ a₀ pd ar st'/\∃r,x.1=some r/\OkL a b r) ?_ (fun _ _ ⟨_,na,nb,_,_,_,_,l1,l2,l3,l4,l5⟩=>by omega) ⟨i,_,_,_,_,rfl,p0,by omega,by omega,by omega,by omega,by omega⟩) ?_)
 ·rintro j x st' _ hj ⟨i',na,nb,out,mg,rfl,p1,l1,l2,l3,l4,l5⟩
  dsimp only
  refine wpS_bind (wpS_mono (wpS_forRange (I:=fun j' x st'=>Ek κ a₀ pd ar st'/\∃na nb out ac bc,x=(none,na,nb,out,ac,bc)/\PHi a b out na nb/\1<=na/\2<=nb/\na<=a.size/\nb<=b.size/\j+1+j'+na+nb<=a.size+b.size) (Q:=fun x st'=>Ek κ a₀ pd ar st'/\((∃r,x.1=some r/\OkL a b r)\/∃na nb out ac bc,x=(none,na,nb,out,ac,bc)/\PHi a b out na nb/\1<=na/\2<=nb/\na<=a.size/\nb<=b.size/\j+2+na+nb<=a.size+b.size)) ?_ (fun _ _ ⟨z,na,nb,out,ac,bc,z1,z2,z3,z4,z5,z6,z7⟩=>⟨z,.inr ⟨na,nb,out,ac,bc,z1,z2,z3,z4,z5,z6,by omega⟩⟩) ⟨i',na,nb,out,0,0,rfl,p1,l1,l2,l3,l4,by omega⟩) ?_)
  ·rintro j' x st2 _ _ ⟨i2,na,nb,out,ac,bc,rfl,p2,m1,m2,m3,m4,m5⟩
   dsimp only
   refine wpS_bind (By (show nb - 1 < b.size by omega) (wpS_bind (By (show na - 1 < a.size by omega) (wpS_bind (NT c i2.1 (hb _ (Array.getElem_mem _)) (ha _ (Array.getElem_mem _)) fun x=>?_)))))
   cases x with
   | true =>
     refine wpS_bind (By (show na - 1 < a.size by omega) ?_)
     rw [EK m1]
     have p3:=p2.as (k:=na - 1) (by omega)
     by_cases z:na - 1=0
     ·rw [if_pos (by simpa using z)]
      exact wpS_pure ⟨i2,.inl ⟨_,rfl,p3.done⟩⟩
     rw [if_neg (by simpa using z)]
     split
     ·exact wpS_pure ⟨i2,.inr ⟨_,_,_,_,_,rfl,p3,by omega,m2,by omega,m4,by omega⟩⟩
     ·exact wpS_pure ⟨i2,_,_,_,_,_,rfl,p3,by omega,m2,by omega,m4,by omega⟩
   | false =>
     refine wpS_bind (By (show nb - 1 < b.size by omega) ?_)
     rw [EK (show 1<=nb by omega)]
     have p3:=p2.bs (k:=nb - 1) (by omega)
     by_cases z:nb - 1=1
     ·rw [if_pos (by simpa using z)]
      exact wpS_pure ⟨i2,.inl ⟨_,rfl,p3.first⟩⟩
     rw [if_neg (by simpa using z)]
     split
     ·exact wpS_pure ⟨i2,.inr ⟨_,_,_,_,_,rfl,p3,m1,by omega,m3,by omega,by omega⟩⟩
     ·exact wpS_pure ⟨i2,_,_,_,_,_,rfl,p3,m1,by omega,m3,by omega,by omega⟩
  ·rintro ⟨x1,x2⟩ st2 ⟨i2,⟨r,rfl,ok⟩ | ⟨na,nb,out,ac,bc,e,p2,m1,m2,m3,m4,m5⟩⟩
   ·exact wpS_pure ⟨i2,r,rfl,ok⟩
   cases e
   dsimp only
   refine wpS_bind (wpS_lift (wpAny_rule ⟨rfl,?_⟩))
   refine wpS_bind (wpS_mono (wpS_forRange (I:=fun _ x st'=>Ek κ a₀ pd ar st'/\∃na nb out mg ac bc,x=(none,na,nb,out,mg,ac,bc)/\PHi a b out na nb/\1<=na/\2<=nb/\na<=a.size/\nb<=b.size/\j+2+na+nb<=a.size+b.size) (Q:=fun x st'=>Ek κ a₀ pd ar st'/\((∃r,x.1=some r/\OkL a b r)\/∃na nb out mg ac bc,x=(none,na,nb,out,mg,ac,bc)/\PHi a b out na nb/\1<=na/\2<=nb/\na<=a.size/\nb<=b.size/\j+2+na+nb<=a.size+b.size)) ?_ (fun _ _ z=>⟨z.1,.inr z.2⟩) ⟨i2,na,nb,out,_,ac,bc,rfl,p2,m1,m2,m3,m4,m5⟩) ?_)
   ·clear p1 l1 l2 l3 l4 l5 p2 m1 m2 m3 m4 m5 i2 i'
    rintro j' x st2 _ _ ⟨i2,na,nb,out,mg,ac,bc,rfl,p2,m1,m2,m3,m4,m5⟩
    dsimp only
    refine Rc (α:=Nat) (T:=?T) ?main ?key
    case main =>
     intro key
     by_cases g1:mg > 1
     ·rw [if_pos g1]
      generalize mg - 1=mg2
      exact key mg2
     ·rw [if_neg g1]
      exact key mg
    intro mg
    refine wpS_bind (Mv i2 fun st3 i3=>?_)
    refine wpS_bind (By (show nb - 1 < b.size by omega) ?_)
    refine wpS_bind (DU c i3.1 (hb _ (Array.getElem_mem _)) ha (by omega) (by omega) fun k hk=>?_)
    dsimp only
    generalize hq:na - k=kk
    refine Mo (α:=Array Keyed) (β:=Nat) (T:=?T2) ?main2 ?key2
    case main2 =>
     intro key
     by_cases g2:kk > 0
     ·rw [if_pos g2]
      have p3:=p2.as hk
      generalize out++(a.extract k na).reverse=out2 at p3 ⊢
      generalize hi:k=na2 at p3 ⊢
      by_cases z1:na2=0
      ·rw [if_pos (by simpa using z1)]
       exact wpS_pure ⟨i3,.inl ⟨_,rfl,p3.done⟩⟩
      rw [if_neg (by simpa using z1)]
      have b3:1<=na2:=by omega
      have b4:na2<=a.size:=by omega
      have b5:j+2+na2+nb<=a.size+b.size:=by omega
      revert p3 b3 b4 b5
      exact key out2 na2
     ·rw [if_neg g2]
      revert p2 m1 m3 m5
      exact key out na
    intro out2 na2 p3 b3 b4 b5
    clear p2 m1 m3 m5 hk hq
    refine wpS_bind (By (show nb - 1 < b.size by omega) ?_)
    rw [EK (show 1<=nb by omega)]
    have p4:=p3.bs (k:=nb - 1) (by omega)
    generalize out2++(b.extract (nb - 1) nb).reverse=out3 at p4 ⊢
    by_cases z3:nb - 1=1
    ·rw [if_pos (by simpa using z3)]
     exact wpS_pure ⟨i3,.inl ⟨_,rfl,p4.first⟩⟩
    rw [if_neg (by simpa using z3)]
    refine wpS_bind (By (show na2 - 1 < a.size by omega) ?_)
    refine wpS_bind (DU c i3.1 (ha _ (Array.getElem_mem _)) hb (by omega) (by omega) fun k2 hk2=>?_)
    dsimp only
    have c3:2<=nb - 1:=by omega
    have c4:nb - 1<=b.size:=by omega
    have c5:j+2+na2+(nb - 1)<=a.size+b.size:=by omega
    clear m2 m4 b5
    generalize nb - 1=nb1 at *
    generalize hq:nb1 - k2=kk2
    refine Mo (α:=Array Keyed) (β:=Nat) (T:=?T3) ?main3 ?key3
    case main3 =>
     intro key
     by_cases g3:kk2 > 0
     ·rw [if_pos g3]
      have p5:=p4.bs hk2
      generalize out3++(b.extract k2 nb1).reverse=out4 at p5 ⊢
      generalize hi:k2=nb2 at p5 ⊢
      by_cases z4:nb2=1
      ·rw [if_pos (by simpa using z4)]
       exact wpS_pure ⟨i3,.inl ⟨_,rfl,p5.first⟩⟩
      rw [if_neg (by simpa using z4)]
      by_cases z5:nb2=0
      ·rw [if_pos (by simpa using z5)]
       exact wpS_pure ⟨i3,.inl ⟨_,rfl,p5.done⟩⟩
      rw [if_neg (by simpa using z5)]
      have b6:2<=nb2:=by omega
      have b7:nb2<=b.size:=by omega
      have b8:j+2+na2+nb2<=a.size+b.size:=by omega
      revert p5 b6 b7 b8
      exact key out4 nb2
     ·rw [if_neg g3]
      revert p4 c3 c4 c5
      exact key out3 nb1
    intro out4 nb2 p5 b6 b7 b8
    refine wpS_bind (By (show na2 - 1 < a.size by omega) ?_)
    rw [EK b3]
    have p6:=p5.as (k:=na2 - 1) (by omega)
    by_cases z6:na2 - 1=0
    ·rw [if_pos (by simpa using z6)]
     exact wpS_pure ⟨i3,.inl ⟨_,rfl,p6.done⟩⟩
    rw [if_neg (by simpa using z6)]
    split
    ·exact wpS_pure ⟨i3,.inr ⟨_,_,_,_,_,_,rfl,p6,by omega,b6,by omega,by omega,by omega⟩⟩
    ·exact wpS_pure ⟨i3,_,_,_,_,_,_,rfl,p6,by omega,b6,by omega,by omega,by omega⟩
   ·rintro ⟨x1,x2⟩ st3 ⟨i3,⟨r,rfl,ok⟩ | ⟨na,nb,out,mg,ac,bc,e,p3,n1,n2,n3,n4,n5⟩⟩
    ·exact wpS_pure ⟨i3,r,rfl,ok⟩
    cases e
    exact wpS_bind (Mv i3 fun st4 i4=>wpS_pure ⟨i4,na,nb,out,_,rfl,p3,n1,n2,n3,n4,by omega⟩)
 ·rintro ⟨x1,x2⟩ st' ⟨i',r,rfl,ok⟩
  exact wpS_pure (h r st' ok i')
noncomputable def BE:Nat->List (Nat × Nat × Nat)->Nat->Prop
 | c,[],lo=>c=lo
 | c,q :: r,lo=>q.1=c/\1<=q.2.1/\BE (c+q.2.1) r lo
theorem Ke:∀{l:List (Nat × Nat × Nat)} {c lo:Nat},BE c l lo->c<=lo
 | [],_,_,h=>Nat.le_of_eq h
 | q :: r,c,lo,h=>by have:=Ke h.2.2;omega
theorem Kd:∀{i:Nat} {l:List (Nat × Nat × Nat)} {c lo:Nat} {p q:Nat × Nat × Nat},BE c l lo->l[i]?=some p->l[i+1]?=some q->q.1=p.1+p.2.1/\1<=p.2.1/\1<=q.2.1/\q.1+q.2.1<=lo/\BE c ((l.set i (p.1,p.2.1+q.2.1,p.2.2)).eraseIdx (i+1)) lo
 | 0,a :: b :: r,c,lo,p,q,h,e1,e2=>by
   cases e1
   cases e2
   obtain ⟨h1,h2,h3,h4,h5⟩:=h
   have:=Ke h5
   refine ⟨by omega,h2,h4,by omega,h1,by show 1<=_+_;omega,?_⟩
   show BE (c+(_+_)) r lo
   rw [<- Nat.add_assoc]
   exact h5
 | i+1,a :: r,c,lo,p,q,h,e1,e2=>by
   obtain ⟨h1,h2,h3⟩:=h
   obtain ⟨k1,k2,k3,k4,k5⟩:=Kd h3 e1 e2
   exact ⟨k1,k2,k3,k4,h1,h2,k5⟩
theorem chain_last:∀{l:List (Nat × Nat × Nat)} {c lo:Nat} {j:Nat} {f:Nat × Nat × Nat->Nat × Nat × Nat},(∀q,(f q).1=q.1/\(f q).2.1=q.2.1)->BE c l lo->BE c (l.modify j f) lo
 | [],_,_,_,_,_,h=>by rw [List.modify_nil];exact h
 | q :: r,c,lo,0,f,e,h=>by
   rw [List.modify_zero_cons]
   exact ⟨(e q).1.trans h.1,by rw [(e q).2];exact h.2.1,by rw [(e q).2];exact h.2.2⟩
 | q :: r,c,lo,j+1,f,e,h=>by
   rw [List.modify_succ_cons]
   exact ⟨h.1,h.2.1,chain_last e h.2.2⟩
theorem GR:∀{l:List (Nat × Nat × Nat)} {c lo n:Nat} {w:Nat},BE c l lo->1<=n->BE c (l++[(lo,n,w)]) (lo+n)
 | [],c,lo,n,w,h,h1=>by cases h;exact ⟨rfl,h1,rfl⟩
 | q :: r,c,lo,n,w,h,h1=>⟨h.1,h.2.1,GR h.2.2 h1⟩
theorem K5 (c:Nat):∀(l:List Keyed) (j:Nat) (arr:Array Keyed),c+j+l.length<=arr.size->((l.zipIdx j).foldl (fun (a:Array Keyed) (x:Keyed × Nat)=>a.setIfInBounds (c+x.2) x.1) arr).toList=arr.toList.take (c+j)++(l++arr.toList.drop (c+j+l.length))
 | [],j,arr,_=>by
   show arr.toList=_
   rw [List.nil_append,List.length_nil,Nat.add_zero,List.take_append_drop]
 | x :: l,j,arr,h=>by
   have hl:(x :: l).length=l.length+1:=rfl
   rw [List.zipIdx_cons,List.foldl_cons,K5 c l (j+1) _ (by rw [Array.size_setIfInBounds];omega),Array.toList_setIfInBounds]
   have e1:(arr.toList.set (c+j) x).take (c+(j+1))=arr.toList.take (c+j)++[x]:=by
    rw [<- Nat.add_assoc,List.take_set,List.take_succ,List.getElem?_eq_getElem (by simp;omega)]
    rw [List.set_append_right _ _ (by simp;omega)]
    have:c+j - (arr.toList.take (c+j)).length=0:=by simp;omega
    rw [this]
    rfl
   rw [e1,List.drop_set_of_lt (by omega),List.append_assoc,hl,show c+(j+1)+l.length=c+j+(l.length+1) by omega]
   rfl
theorem P6 {σ:Type} {x st:σ} {M:Model} {Q:PUnit->σ->Prop} (h:Q ⟨⟩ x):wpS M A E s (set x:StateT σ Sem PUnit) Q st:=by
 unfold wpS
 exact wpAny_pure ⟨rfl,h⟩
theorem Ml (c:GO prog w A E s κ a₀) {pd:Array (Nat × Nat × Nat)} {st:SortSt} (i:Bw κ a₀ pd st) {k lo:Nat} (ch:BE 0 pd.toList lo) (lz:lo<=a₀.size) (hk:k+1 < pd.size) {Q:Bool->SortSt->Prop} (h:∀pd' st',Bw κ a₀ pd' st'->BE 0 pd'.toList lo->Q true st'):wpS (model prog w) A E s (mergeAt' k) Q st:=by
 refine wpS_bind (wpS_get ?_)
 have e1:(pendingOf st)[k]?=some pd[k]:=by rw [i.d];exact Array.getElem?_eq_getElem _
 have e2:(pendingOf st)[k+1]?=some pd[k+1]:=by rw [i.d];exact Array.getElem?_eq_getElem hk
 obtain ⟨c1,c2,c3,c4,c5⟩:=Kd (i:=k) (p:=pd[k]) (q:=pd[k+1]) ch (by rw [Array.getElem?_toList];exact Array.getElem?_eq_getElem _) (by rw [Array.getElem?_toList];exact Array.getElem?_eq_getElem hk)
 rw [e1,e2]
 generalize pd[k]=p at c1 c2 c3 c4 c5 ⊢
 generalize pd[k+1]=q at c1 c2 c3 c4 c5 ⊢
 obtain ⟨sa,na,pw⟩:=p
 obtain ⟨sb,nb,pw2⟩:=q
 change sb=sa+na at c1
 change 1<=na at c2
 change 1<=nb at c3
 change sb+nb<=lo at c4
 have sz:=i.size
 refine wpS_bind ?_
 refine P6 ?_
 have i1:Bw κ a₀ ((pd.setIfInBounds k (sa,na+nb,pw)).eraseIdxIfInBounds (k+1)) (SortSt.mk' (kindOf st) (arrOf st) (((pendingOf st).setIfInBounds k (sa,na+nb,pw)).eraseIdxIfInBounds (k+1)) (gallopOf st) (failedOf st)):=⟨i.k,i.p,i.f,by show ((pendingOf st).setIfInBounds _ _).eraseIdxIfInBounds _=_;rw [i.d]⟩
 have ch1:BE 0 ((pd.setIfInBounds k (sa,na+nb,pw)).eraseIdxIfInBounds (k+1)).toList lo:=by
  rw [Array.toList_eraseIdxIfInBounds,Array.toList_setIfInBounds]
  exact c5
 generalize (pd.setIfInBounds k (sa,na+nb,pw)).eraseIdxIfInBounds (k+1)=pd1 at i1 ch1 ⊢
 have am:∀x∈arrOf st,x∈a₀:=fun x m=>i.mem m
 refine wpS_bind (By (show sb < (arrOf st).size by omega) ?_)
 refine wpS_bind (DU c i1 (am _ (Array.getElem_mem _)) am (by omega) (by omega) fun k1 hk1=>?_)
 dsimp only
 by_cases z1:na - k1=0
 ·rw [if_pos (by simpa using z1)]
  exact wpS_pure (h _ _ i1 ch1)
 rw [if_neg (by simpa using z1)]
 refine wpS_bind (By (show sa+k1+(na - k1) - 1 < (arrOf st).size by omega) ?_)
 refine wpS_bind (DU c i1 (am _ (Array.getElem_mem _)) am (by omega) (by omega) fun nb1 hk2=>?_)
 dsimp only
 by_cases z2:nb1=0
 ·rw [if_pos (by simpa using z2)]
  exact wpS_pure (h _ _ i1 ch1)
 rw [if_neg (by simpa using z2)]
 generalize hsa:sa+k1=sa1 at *
 have sx:((arrOf st).extract sa1 sb).size=sb - sa1:=by rw [Array.size_extract];omega
 have sy:((arrOf st).extract sb (sb+nb1)).size=nb1:=by rw [Array.size_extract];omega
 have mx:∀x∈(arrOf st).extract sa1 sb,x∈a₀:=fun x m=>am x (by
  have:x∈((arrOf st).extract sa1 sb).toList:=Array.mem_toList_iff.mpr m
  rw [Array.toList_extract,List.extract_eq_take_drop] at this
  exact Array.mem_toList_iff.mp (List.mem_of_mem_drop (List.mem_of_mem_take this)))
 have my:∀x∈(arrOf st).extract sb (sb+nb1),x∈a₀:=fun x m=>am x (by
  have:x∈((arrOf st).extract sb (sb+nb1)).toList:=Array.mem_toList_iff.mpr m
  rw [Array.toList_extract,List.extract_eq_take_drop] at this
  exact Array.mem_toList_iff.mp (List.mem_of_mem_drop (List.mem_of_mem_take this)))
 have last:∀(m:Array Keyed) (st2:SortSt),m.toList.Perm (((arrOf st).extract sa1 sb).toList++((arrOf st).extract sb (sb+nb1)).toList)->Bw κ a₀ pd1 st2->arrOf st2=arrOf st->Bw κ a₀ pd1 (SortSt.mk' (kindOf st2) (m.toList.zipIdx.foldl (fun (a:Array Keyed) (x:Keyed × Nat)=>a.setIfInBounds (sa1+x.2) x.1) (arrOf st2)) (pendingOf st2) (gallopOf st2) (failedOf st2)):=fun m st2 pm i2 ea=>by
  have lm:m.toList.length=sb - sa1+nb1:=by rw [pm.length_eq,List.length_append,Array.length_toList,Array.length_toList,sx,sy]
  refine ⟨i2.k,?_,i2.f,i2.d⟩
  refine Array.Perm.trans ?_ i.p
  rw [ea]
  refine Array.perm_iff_toList_perm.mpr ?_
  show (m.toList.zipIdx.foldl (fun (a:Array Keyed) (x:Keyed × Nat)=>a.setIfInBounds (sa1+x.2) x.1) (arrOf st)).toList.Perm _
  rw [K5 sa1 m.toList 0 (arrOf st) (by omega),Nat.add_zero]
  refine (List.Perm.append_left _ (List.Perm.append_right _ pm)).trans (List.Perm.of_eq ?_)
  rw [Array.toList_extract,Array.toList_extract,List.extract_eq_take_drop,List.extract_eq_take_drop,lm,Nat.add_sub_cancel_left,List.append_assoc]
  have d1:List.drop (sa1+(sb - sa1+nb1)) (arrOf st).toList=((arrOf st).toList.drop sb).drop nb1:=by rw [List.drop_drop];congr 1;omega
  have d2:(arrOf st).toList.drop sb=((arrOf st).toList.drop sa1).drop (sb - sa1):=by rw [List.drop_drop];congr 1;omega
  rw [d1,List.take_append_drop,d2,List.take_append_drop,List.take_append_drop]
 have fin:∀(m:Array Keyed) (st2:SortSt),m.toList.Perm (((arrOf st).extract sa1 sb).toList++((arrOf st).extract sb (sb+nb1)).toList)->Ek κ a₀ pd1 (arrOf st) st2->wpS (model prog w) A E s ((modify fun x=>SortSt.mk' (kindOf x) (m.toList.zipIdx.foldl (fun (a:Array Keyed) (x:Keyed × Nat)=>a.setIfInBounds (sa1+x.2) x.1) (arrOf x)) (pendingOf x) (gallopOf x) (failedOf x)) >>= fun _=>get >>= fun x=>pure (failedOf x).isNone) Q st2:=fun m st2 pm i2=>by
  have i3:=last m st2 pm i2.1 i2.2
  have z:∀st3,failedOf st3=none->Q true st3->Q (failedOf st3).isNone st3:=fun st3 f q=>by rw [f];exact q
  exact wpS_bind (wpS_modify (wpS_bind (wpS_get (wpS_pure (z _ i3.f (h _ _ i3 ch1))))))
 split
 ·exact wpS_bind (RI c (ar:=arrOf st) ⟨i1,rfl⟩ mx my (by omega) (by omega) fun m st2 pm i2=>fin m st2 pm i2)
 ·exact wpS_bind (RF c (ar:=arrOf st) ⟨i1,rfl⟩ mx my (by omega) (by omega) fun m st2 pm i2=>fin m st2 pm i2)
theorem Q6 (c:GO prog w A E s κ a₀) {st:SortSt} (i:Bw κ a₀ #[] st) {Q:Unit->SortSt->Prop} (h:∀pd st',Bw κ a₀ pd st'->Q () st'):wpS (model prog w) A E s sortRuns' Q st:=by
 refine wpS_bind (wpS_get ?_)
 have sz:((sortPriv% PySem.Builtin.SortState.a) st).size=a₀.size:=i.size
 dsimp only
 rw [sz]
 generalize (sortPriv% PySem.Builtin.minRun) a₀.size a₀.size 0=mr
 refine wpS_bind (wpS_mono (wpS_forRange (I:=fun _ x st'=>∃lo pd,x=(none,lo)/\Bw κ a₀ pd st'/\BE 0 pd.toList lo/\lo<=a₀.size) (Q:=fun x st'=>∃lo pd,x=(none,lo)/\Bw κ a₀ pd st'/\BE 0 pd.toList lo/\lo<=a₀.size) ?_ (fun _ _ z=>z) ⟨0,#[],rfl,i,rfl,Nat.zero_le _⟩) ?_)
 ·rintro j x st' _ _ ⟨lo,pd,rfl,i',ch,lz⟩
  dsimp only
  by_cases z1:lo>=a₀.size
  ·rw [if_pos z1]
   exact wpS_pure ⟨lo,pd,rfl,i',ch,lz⟩
  rw [if_neg z1]
  refine wpS_bind (OM c i' (by omega) (by omega) fun n st2 n1 n2 i2=>?_)
  dsimp only
  by_cases z2:n < mr
  case' pos =>
   rw [if_pos z2]
   refine wpS_bind (wpS_lift (wpAny_rule ⟨rfl,?_⟩))
   refine wpS_bind (QQ c i2 (by omega) fun st3 i3=>?_)
   rw [if_neg (by decide)]
   obtain ⟨m,hm⟩:∃m,m=min (a₀.size - lo) (mr):=⟨_,rfl⟩
   have m1:1<=m:=by omega
   have m2:lo+m<=a₀.size:=by omega
   rw [<- hm]
  case' neg =>
   rw [if_neg z2]
   obtain ⟨m,hm⟩:∃m,m=n:=⟨_,rfl⟩
   have m1:1<=m:=by omega
   have m2:lo+m<=a₀.size:=by omega
   rw [<- hm]
   obtain ⟨st3,i3,e3⟩:∃st3,Bw κ a₀ pd st3/\st3=st2:=⟨st2,i2,rfl⟩
   rw [<- e3]
  all_goals
   clear hm
   refine wpS_bind (wpS_get ?_)
   have ps:(sortPriv% PySem.Builtin.SortState.pending) st3=pd:=i3.d
   rw [ps]
   have fin:∀(pd':Array (Nat × Nat × Nat)) (st4:SortSt),Bw κ a₀ pd' st4->BE 0 pd'.toList lo->Bw κ a₀ (pd'.push (lo,m,0)) (SortSt.mk' (kindOf st4) (arrOf st4) ((pendingOf st4).push (lo,m,0)) (gallopOf st4) (failedOf st4))/\BE 0 (pd'.push (lo,m,0)).toList (lo+m):=fun pd' st4 i4 c4=>⟨⟨i4.k,i4.p,i4.f,by show (pendingOf st4).push _=_;rw [i4.d]⟩,by rw [Array.toList_push];exact GR c4 m1⟩
   cases bk:pd.back? with
   | none =>
     obtain ⟨f1,f2⟩:=fin pd st3 i3 ch
     exact wpS_bind (wpS_modify (wpS_pure ⟨lo+m,_,rfl,f1,f2,m2⟩))
   | some q =>
     obtain ⟨s1,n1,pq⟩:=q
     refine wpS_bind (wpS_mono (wpS_forRange (I:=fun _ x st'=>∃pd,x=(none,())/\Bw κ a₀ pd st'/\BE 0 pd.toList lo) (Q:=fun x st'=>∃pd,x=(none,())/\Bw κ a₀ pd st'/\BE 0 pd.toList lo) ?_ (fun _ _ z=>z) ⟨pd,rfl,i3,ch⟩) ?_)
     ·rintro j x st4 _ _ ⟨pd4,rfl,i4,c4⟩
      refine wpS_bind (wpS_get ?_)
      have ps:(sortPriv% PySem.Builtin.SortState.pending) st4=pd4:=i4.d
      rw [ps]
      by_cases z3:pd4.size > 1
      ·rw [if_pos z3,Array.getElem?_eq_getElem (by omega)]
       generalize pd4[pd4.size - 2]=q4
       obtain ⟨q5,q6,q7⟩:=q4
       dsimp only
       split
       ·exact wpS_pure ⟨pd4,rfl,i4,c4⟩
       ·exact wpS_bind (Ml c i4 c4 lz (by omega) fun pd' st5 i5 c5=>wpS_pure ⟨pd',rfl,i5,c5⟩)
      ·rw [if_neg z3]
       exact wpS_pure ⟨pd4,rfl,i4,c4⟩
     ·rintro x st4 ⟨pd4,rfl,i4,c4⟩
      refine wpS_bind (wpS_modify ?_)
      generalize (sortPriv% PySem.Builtin.power) a₀.size (2*s1+n1) (2*s1+n1+n1+m) a₀.size=pw
      obtain ⟨f1,f2⟩:=fin (pd4.modify (pd4.size - 1) fun x=>(x.1,x.2.1,pw)) (SortSt.mk' (kindOf st4) (arrOf st4) ((pendingOf st4).modify ((pendingOf st4).size - 1) fun x=>(x.1,x.2.1,pw)) (gallopOf st4) (failedOf st4)) ⟨i4.k,i4.p,i4.f,congrArg (fun p:Array (Nat × Nat × Nat)=>p.modify (p.size - 1) fun x=>(x.1,x.2.1,pw)) i4.d⟩ (by rw [Array.toList_modify];exact chain_last (fun q=>⟨rfl,rfl⟩) c4)
      exact wpS_bind (wpS_modify (wpS_pure ⟨lo+m,_,rfl,f1,f2,m2⟩))
 ·rintro x st' ⟨lo,pd,rfl,i',ch,lz⟩
  refine wpS_bind (wpS_mono (wpS_forRange (I:=fun _ x st'=>∃pd,x=(none,())/\Bw κ a₀ pd st'/\BE 0 pd.toList lo) (Q:=fun x st'=>∃pd,x=(none,())/\Bw κ a₀ pd st'/\BE 0 pd.toList lo) ?_ (fun _ _ z=>z) ⟨pd,rfl,i',ch⟩) ?_)
  ·rintro j x st2 _ _ ⟨pd,rfl,i2,ch⟩
   refine wpS_bind (wpS_get ?_)
   have ps:(sortPriv% PySem.Builtin.SortState.pending) st2=pd:=i2.d
   rw [ps]
   by_cases z1:pd.size<=1
   ·rw [if_pos z1]
    exact wpS_pure ⟨pd,rfl,i2,ch⟩
   ·rw [if_neg z1]
    refine wpS_bind (Ml c i2 ch lz ?_ fun pd' st3 i3 ch3=>wpS_pure ⟨pd',rfl,i3,ch3⟩)
    have z2:∀b:Bool,(if b=true then pd.size - 2 - 1 else pd.size - 2)+1 < pd.size:=fun b=>by split <;> omega
    exact z2 _
  ·rintro x st2 ⟨pd,rfl,i2,_⟩
   exact wpS_pure (h pd st2 i2)
theorem JK {α β:Type} {f:α->β}:∀{l:List β} {qs:List α},l.Perm (qs.map f)->∃rs:List α,l=rs.map f/\rs.Perm qs:=by
 intro l qs h
 generalize e:qs.map f=m at h
 induction h generalizing qs with
 | nil=>cases qs with
   | nil=>exact ⟨[],rfl,List.Perm.refl _⟩
   | cons _ _=>cases e
 | cons x _ ih=>cases qs with
   | nil=>cases e
   | cons q qs =>
     injection e with e1 e2
     obtain ⟨rs,a,b⟩:=ih e2
     exact ⟨q :: rs,by rw [a,<- e1];rfl,b.cons _⟩
 | swap x y l=>match qs,e with
   | q :: p :: qs,e =>
     injection e with e1 e2
     injection e2 with e2 e3
     exact ⟨p :: q :: qs,by rw [<- e1,<- e2,<- e3];rfl,List.Perm.swap ..⟩
 | trans _ _ ih1 ih2 =>
   obtain ⟨rs,a,b⟩:=ih2 e
   obtain ⟨ts,c,d⟩:=ih1 a.symm
   exact ⟨ts,c,d.trans b⟩
theorem Hs {R:Value->List Int->Prop}:∀{xs:List Value} {ys:List (List Int)},Paired R xs ys->∀{x:Value},x∈xs->∃y,R x y
 | _,_,.nil,_,h=>nomatch h
 | _,_,.cons r t,x,h=>by
   rcases List.mem_cons.mp h with e | e
   ·exact ⟨_,e ▸ r⟩
   ·exact Hs t e
theorem Nh {a:Addr} {vs:List Value} {rows:List (List Int)} {n:Nat} {P:PySem.Fin->Shared->Prop} (ho:s.heap.get? a=some (seqObj "list" vs.toArray n)) (hp:Paired (Cw s.heap) vs rows) (hz:vs.length<=1000) (hu:A.units < cLine)
 (h:∀out:Array Value,out.toList.Perm vs->P (.done (.ret .none)) { s with heap:=sortedHeap s.heap a vs out }) :
 wpAny (model prog w) A (Builtin.«list.sort» ⟨[.ref a],[]⟩) P E s:=by
 rw [list_sort_plain]
 have ha:a < s.heap.objs.size:=Heap.lt_size ho
 refine wpAny_bind (listItems_at ho rfl ?_)
 refine wpAny_bind (listUpdate_at ho rfl ?_ (hsz:=by rw [List.size_toArray,sizeLine_eq];omega))
 obtain ⟨e1,ho1⟩:∃e1,(s.heap.update a (Obj.mapSeq fun _=>#[])).get? a=some (seqObj "list" #[] e1):=⟨_,get?_update_seq ho (fun _=>#[])⟩
 refine wpAny_bind (seqEpoch_at ho1 rfl ?_)
 refine wpAny_bind (wpAny_newTuple ?_ (by rw [sizeLine_eq];show vs.length<=_;omega))
 refine wpAny_bind (wpAny_newList ?_)
 refine wpAny_holding ?_
 have keep:∀{v:Value} {ns:List Int},Cw s.heap v ns->Cw (((s.heap.update a (Obj.mapSeq fun _=>#[])).push (seqObj "tuple" vs.toArray 0)).push (seqObj "list" #[] 0)) v ns:=fun x=>x.keep fun b o hc e=>by
  have hb:b≠a:=fun z=>by
   rw [z,ho] at e
   cases e
   exact absurd (show Value.type "list"=Value.type "tuple" from hc) (by decide)
  exact Heap.get?_push_of_some _ (Heap.get?_push_of_some _ ((Heap.get?_update_other _ _ (Ne.symm hb)).trans e))
 have ho6:(((s.heap.update a (Obj.mapSeq fun _=>#[])).push (seqObj "tuple" vs.toArray 0)).push (seqObj "list" #[] 0)).get? a=some (seqObj "list" #[] e1):=by
  rw [Heap.get?_push_ne _ _ _ (by rw [size_push',Heap.size_update];exact Nat.ne_of_lt (Nat.lt_succ_of_lt ha)),Heap.get?_push_ne _ _ _ (by rw [Heap.size_update];exact Nat.ne_of_lt ha)]
  exact ho1
 show wpAny (model prog w) A _ P E { s with heap:=((s.heap.update a (Obj.mapSeq fun _=>#[])).push (seqObj "tuple" vs.toArray 0)).push (seqObj "list" #[] 0) }
 dsimp only
 have hsz:vs.toArray.size=vs.length:=by simp
 have ez:(vs.toArray.zip vs.toArray).map (·.2)=vs.toArray:=by
  apply Array.ext
  ·simp
  ·intro i h1 h2
   simp
 by_cases h2:vs.toArray.size < 2
 ·rw [if_pos h2,if_pos h2]
  refine wpAny_bind (wpAny_pure ?_)
  rw [StateT.run_pure]
  refine wpAny_bind (wpAny_pure ?_)
  dsimp only
  refine wpAny_bind (seqEpoch_at ho6 rfl ?_)
  refine wpAny_bind (listUpdate_at ho6 rfl ?_ (hsz2:=by rw [Array.size_map];show (pairsOf vs).size<=_;rw [pairsOf_size,sizeLine_eq];omega))
  simp only [bne_self_eq_false,Bool.false_eq_true,if_false]
  have hh:=h ((arrOf (SortSt.mk' general' (vs.toArray.zip vs.toArray) #[] 7 none)).map (·.2)) (by show ((vs.toArray.zip vs.toArray).map (·.2)).toList.Perm vs;rw [ez])
  exact wpAny_pure hh
 ·rw [if_neg h2,if_neg h2]
  refine wpAny_bind (KC (Paired.mapP hp fun v ns x=>keep x) fun κ hκ=>?_)
  have mem:∀x∈vs.toArray.zip vs.toArray,∃ns,Cw s.heap x.1 ns:=fun x m=>by
   have m1:x.1∈(vs.toArray.zip vs.toArray).map (·.1):=Array.mem_map.mpr ⟨x,m,rfl⟩
   rw [show (vs.toArray.zip vs.toArray).map (·.1)=vs.toArray from by
    apply Array.ext
    ·simp
    ·intro i h1 h2
     simp] at m1
   exact Hs hp (List.mem_toArray.mp m1)
  have cmp:GO prog w A E { s with heap:=((s.heap.update a (Obj.mapSeq fun _=>#[])).push (seqObj "tuple" vs.toArray 0)).push (seqObj "list" #[] 0) } κ (vs.toArray.zip vs.toArray):=fun x mx y my E' Q q=>by
   obtain ⟨ns,hx⟩:=mem x mx
   obtain ⟨ms,hy⟩:=mem y my
   exact Oz hκ (keep hx) (keep hy) hu (q _)
  refine wpAny_bind (wpAny_mono (Q6 cmp (st:=SortSt.mk' κ (vs.toArray.zip vs.toArray) #[] 7 none) ⟨rfl,Array.Perm.refl _,rfl,rfl⟩ (Q:=fun _ st'=>∃pd,Bw κ (vs.toArray.zip vs.toArray) pd st') fun pd st' i=>⟨pd,i⟩) ?_ fun _ _ e=>e)
  rintro ⟨⟨⟩,st'⟩ s' ⟨rfl,pd,i⟩
  dsimp only
  have pm:((arrOf st').map (·.2)).toList.Perm vs:=by
   have:=(Array.perm_iff_toList_perm.mp i.p).map (·.2)
   rw [<- Array.toList_map,<- Array.toList_map,ez] at this
   exact this
  refine wpAny_bind (seqEpoch_at ho6 rfl ?_)
  refine wpAny_bind (listUpdate_at ho6 rfl ?_ (hsz2:=by have:=pm.length_eq;rw [Array.length_toList] at this;rw [this,sizeLine_eq];omega))
  rw [i.f]
  simp only [bne_self_eq_false,Bool.false_eq_true,if_false]
  exact wpAny_pure (h _ pm)
end
section
variable {X:Cx}
theorem ER (hc:X.calm=true) (hu:X.A.units+64 < cLine):CP X (.builtin "sorted") (fun xs H Q=>∃(d:Addr) (kvs:List (List Key × V)) (ks:List (List Int)),xs=[.ref d]/\Rd H d (.dT kvs)/\kvs.map (·.1)=ks.map (List.map Sum.inl)/\ks.length<=1000 /\
 ∀(l:Addr) (rs:List (Addr × List Int)),(∀q∈rs,H q.1=some (.tup (q.2.map V.int)))->(rs.map (·.2)).Perm ks->H l=none->Q (.ref l) (upd H l (.lst (rs.map fun q=>V.ref q.1)))):=by
 intro pins s σ H xs us Q I r h
 obtain ⟨d,kvs,ks,rfl,hd,hks,hz,q⟩:=h
 obtain ⟨u,rfl,rx⟩:=Dv r
 cases rx
 obtain ⟨_,lo,xs,kt,o,es,ep,h1,h2,h3,h4,_,_⟩:=GT I.hok hd
 obtain ⟨qs,b1,b2,b3⟩:=Mh kt hks
 have hv:es.toList.map (·.key)=(qs.map (·.1)).map Value.ref:=by
  rw [h4,List.map_map,<- b1]
  rfl
 have hql:qs.length=ks.length:=by rw [<- b2,List.length_map]
 have hes:es.size=qs.length:=by
  have:=congrArg List.length hv
  simpa using this
 have hp:Paired (Cw s.heap) ((qs.map (·.1)).map Value.ref) (qs.map (·.2)):=by
  clear hv hql hes b1 b2
  induction qs with
  | nil=>exact .nil
  | cons q0 qr ih =>
    refine .cons ?_ (ih fun q m=>b3 q (List.mem_cons_of_mem _ m))
    obtain ⟨jts,rj,tj,_⟩:=I.tuple (SqT.of (b3 q0 (List.mem_cons_self ..)))
    exact ⟨q0.1,jts.toArray,rfl,tj,by simpa using BN rj⟩
 refine G4 lo ⟨o,h1,h2,h3⟩ (by omega) (I.ok.hd hc) hv fun h' tk a kp ge ho=>?_
 have hp':Paired (Cw h') ((qs.map (·.1)).map Value.ref) (qs.map (·.2)):=Paired.mapP hp fun v ns x=>x.keep fun b o _ e=>(kp b o e).1
 have ll:((qs.map (·.1)).map Value.ref).length=qs.length:=by rw [List.length_map,List.length_map]
 refine Nh (s:={ s with heap:=h',toks:=tk }) ho hp' (by omega) (by show X.A.units+1+1 < cLine;omega) fun out pm=>⟨_,rfl,?_⟩
 obtain ⟨e,he⟩:=sortedHeap_at (out:=out) ho
 have hfr:H a=none:=I.hok.fresh ge
 rw [List.map_map] at pm
 obtain ⟨rs,er,pr⟩:∃rs:List (Addr × List Int),out.toList=rs.map (fun q=>Value.ref q.1)/\rs.Perm qs:=JK pm
 have eo:out=((rs.map (·.1)).map Value.ref).toArray:=by
  apply Array.toList_inj.mp
  rw [er,List.map_map]
  rfl
 subst eo
 refine ⟨.ref _,_,I.laid (t':=tk) (fun b o hb=>?_) ge (show Bx X.prog X.w _ _ _ (.lst (rs.map fun q=>V.ref q.1)) from ⟨?_,(rs.map (·.1)).map Value.ref,e,?_,he⟩),rfl,q _ rs (fun q m=>b3 q (pr.mem_iff.mp m)) (by rw [<- b2];exact pr.map _) hfr⟩
 ·obtain ⟨k1,k2⟩:=kp b o hb
  rw [sortedHeap_old k2 (Heap.lt_size k1)]
  exact k1
 ·rw [List.length_map,pr.length_eq,sizeLine_eq]
  omega
 ·have:=EO (rs.map (·.1))
  rw [List.map_map] at this
  exact this
theorem MD (hc:X.calm=true):CP X (.builtin "min") (fun xs H Q=>∃i j k,xs=[.int i,.int j,.int k]/\∀z,z<=i->z<=j->z<=k->(z=i\/z=j\/z=k)->Q (.int z) H):=by
 intro pins s σ H xs us Q I r h
 obtain ⟨i,j,k,rfl,q⟩:=h
 cases r with
 | cons r1 r2 =>
   obtain ⟨_,_,rfl,⟨t',rfl⟩,⟨t'',rfl⟩⟩:=M8 r2
   obtain ⟨t,rfl⟩:=r1
   refine min_three_ints (I.ok.hd hc) fun h' tk kp=>⟨.int (if j < i then (if k < j then k else j) else (if k < i then k else i)),H,I.kept kp,?_,q _ ?_ ?_ ?_ ?_⟩
   ·by_cases c1:j < i
    ·rw [if_pos c1,if_pos c1]
     by_cases c2:k < j
     ·rw [if_pos c2,if_pos c2];exact ⟨_,rfl⟩
     ·rw [if_neg c2,if_neg c2];exact ⟨_,rfl⟩
    ·rw [if_neg c1,if_neg c1]
     by_cases c2:k < i
     ·rw [if_pos c2,if_pos c2];exact ⟨_,rfl⟩
     ·rw [if_neg c2,if_neg c2];exact ⟨_,rfl⟩
   all_goals (repeat' split) <;> omega
end
end L2
set_option maxHeartbeats 4000000
namespace Law
open PySem L2
inductive KR (K:PySem.W.Frag) (vs:List V) (H:Hp) (Q:VK) (E:XK):Prop
 | mk (p:Addr) (ns:List Int):vs=[.ref p]->SqL K H p (ns.map V.int)->ns.length<=63->(∀H',Q (.bl true) H')->KR K vs H Q E
noncomputable def M4:Sp:=fun vs H Q _=>∃c:Int,vs=[.int c]/\Q (.bl true) H
theorem Ag {H:Hp} {p:Addr} (h:H p=none) (o:HO):A0 H (upd H p o):=fun b u q=>by rw [Ay (B7 q h)];exact q
theorem AR (x:Int) {y:Int} (h:0 < y):0<=x.fmod y/\x.fmod y < y:=⟨Int.fmod_nonneg_of_pos x h,Int.fmod_lt_of_pos x h⟩
theorem Py (x:Int) {y:Int} {n:Nat} (h:0 < y) (k:Sz n y):Sz n (x.fmod y):=by
 have e:=AR x h
 unfold Sz at k ⊢
 omega
noncomputable def Cy (a b:Int):Int:=(Int.gcd a b:Nat)
theorem MA (a:Int):(if a < 0 then -a else a)=(a.natAbs:Int):=by
 by_cases h:a < 0
 ·rw [if_pos h];omega
 ·rw [if_neg h];omega
theorem Mb (a b:Int):Int.gcd (if a < 0 then -a else a) (if b < 0 then -b else b)=Int.gcd a b:=by
 rw [MA,MA]
 unfold Int.gcd
 rw [Int.natAbs_natCast,Int.natAbs_natCast]
theorem Km {x y:Int} (hx:0<=x) (hy:0 < y):Int.gcd y (x.fmod y)=Int.gcd x y:=by
 rw [Int.fmod_eq_emod_of_nonneg x (Int.le_of_lt hy)]
 obtain ⟨m,rfl⟩:=Int.eq_ofNat_of_zero_le hx
 obtain ⟨n,rfl⟩:=Int.eq_ofNat_of_zero_le (Int.le_of_lt hy)
 have e:((m:Int) % (n:Int))=((m % n:Nat):Int):=(Int.natCast_emod m n).symm
 rw [e]
 unfold Int.gcd
 rw [Int.natAbs_natCast,Int.natAbs_natCast,Int.natAbs_natCast]
 rw [Nat.gcd_comm m n,Nat.gcd_rec n m,Nat.gcd_comm]
theorem Mc {x y:Int} (hx:0<=x) (hy:0<=y) (h:¬ 0 < y):x=Cy x y:=by
 have e:y=0:=by omega
 subst e
 unfold Cy
 rw [Int.gcd_zero]
 omega
theorem Kl (a b:Int):0<=Cy a b:=Int.natCast_nonneg _
theorem LZ {a b:Int} (h:b≠0):Cy a b≠0:=by
 intro e
 have z:Int.gcd a b=0:=by unfold Cy at e;omega
 exact h (Int.gcd_eq_zero_iff.mp z).2
noncomputable def DO (t b:Int):Int:=if b < 0 then -(Cy t b) else Cy t b
noncomputable def DX (t b:Int):Int:=t.fdiv (DO t b)
noncomputable def DE (t b:Int):Int:=b.fdiv (DO t b)
theorem Jq {t b:Int} (h:b≠0):DO t b≠0:=by
 have e:=LZ (a:=t) h
 unfold DO
 by_cases c:b < 0
 ·rw [if_pos c];omega
 ·rw [if_neg c];exact e
theorem He {t b:Int} (h:b≠0):0 < DE t b:=by
 have g0:Cy t b≠0:=LZ h
 have gn:=Kl t b
 have d:Cy t b ∣ b:=Int.gcd_dvd_right ..
 obtain ⟨k,hk⟩:=d
 unfold DE DO
 by_cases c:b < 0
 ·rw [if_pos c]
  have e:b=-(Cy t b)*(-k):=by rw [Int.neg_mul_neg];exact hk
  have e2:b.fdiv (-(Cy t b))=-k:=by
   conv=>lhs;arg 1;rw [e]
   exact Int.mul_fdiv_cancel_left (-k) (by omega)
  rw [e2]
  rcases (by omega:k < 0\/0<=k) with z | z
  ·omega
  ·have:=Int.mul_nonneg gn z
   omega
 ·rw [if_neg c]
  have e2:b.fdiv (Cy t b)=k:=by
   conv=>lhs;arg 1;rw [hk]
   exact Int.mul_fdiv_cancel_left k g0
  rw [e2]
  rcases (by omega:0 < k\/k<=0) with z | z
  ·exact z
  ·have:=Int.mul_nonpos_of_nonneg_of_nonpos gn z
   omega
theorem Ny {x y:Int}:DO x y ∣ x:=by
 have d:Cy x y ∣ x:=Int.gcd_dvd_left ..
 unfold DO
 by_cases c:y < 0
 ·rw [if_pos c];exact Int.neg_dvd.mpr d
 ·rw [if_neg c];exact d
noncomputable def Jd:Sp:=fun vs H Q _=>∃a b:Int,vs=[.int a,.int b]/\Q (.int (Cy a b)) H
inductive Ik (vs:List V) (H:Hp) (Q:VK) (E:XK):Prop
 | mk (t b:Int):vs=[.int t,.int b]->b≠0->Sz 13500 t->Sz 13500 b->(∀(p:Addr) (H':Hp),A0 H H'->H' p=some (.tup [.int (DX t b),.int (DE t b)])->Q (.ref p) H')->Ik vs H Q E
theorem GB {i:Nat} {c:Int} {g:Int->Int->V}:∀(σ:St) (H:Hp) (Q Q':Bool->Hp->Prop),(∀b H1,Q b H1->Q' b H1)->OE (tOp (rI0 g) (P1 i) (tC (.int c))) σ H Q->OE (tOp (rI0 g) (P1 i) (tC (.int c))) σ H Q':=by
 rintro σ H Q Q' hq ⟨v,e,i,j,e1,e2,k,ek,h⟩
 exact ⟨v,e,i,j,e1,e2,k,ek,hq _ _ h⟩
inductive O4 (vs:List V) (H:Hp) (Q:VK) (E:XK):Prop
 | mk (t b:Int):vs=[.int t,.int b]->0 < b->Sz 9000 b->Q (.int (t.fdiv b)) H->O4 vs H Q E
inductive Rq (vs:List V) (H:Hp) (Q:VK) (E:XK):Prop
 | mk (t b:Int):vs=[.int t,.int b]->0 < b->Sz 9000 b->Q (.int (-((-t).fdiv b))) H->Rq vs H Q E
theorem NR {t b:Int} (h:0 < b):t.fdiv b*b<=t/\t < (t.fdiv b+1)*b:=by
 have e:=Int.fmod_def t b
 have m:=AR t h
 have d:(t.fdiv b+1)*b=b*t.fdiv b+b:=by rw [Int.add_mul,Int.one_mul,Int.mul_comm]
 have c:t.fdiv b*b=b*t.fdiv b:=Int.mul_comm _ _
 rw [d,c]
 omega
theorem OR {t b:Int} (h:0 < b):(-((-t).fdiv b) - 1)*b < t/\t<=-((-t).fdiv b)*b:=by
 have l:=NR (t:=-t) h
 have d:(-((-t).fdiv b) - 1)*b=-(((-t).fdiv b+1)*b):=by rw [<- Int.neg_mul];congr 1;omega
 have c:-((-t).fdiv b)*b=-((-t).fdiv b*b):=Int.neg_mul _ _
 rw [d,c]
 omega
noncomputable def Hid (u v:TS):Prop:=u=v
theorem O2 {t u:TS} {D:Fp} {σ:St} {H:Hp} (h:∀v,Hid v u->t { D with nx:=v D } σ H):R5 t u D σ H:=h u rfl
theorem M6 {u v:TS} {D:Fp} {σ:St} {H:Hp} (h:Hid u v) (g:v D σ H):u D σ H:=by rw [show u=v from h];exact g
theorem P2 {u v:TS} {D:Fp} {r:VK} {b c:St->Hp->Prop} {σ:St} {H:Hp} (h:Hid u v) (g:v D σ H):(Fp.mk (u D) r b c).nx σ H:=by show u D σ H;exact M6 h g
noncomputable def bit (m:Int) (i:Nat):Bool:=decide (m / 2 ^ i % 2=1)
noncomputable def FZ:Nat->(Nat->Bool)->Int
 | 0,_=>0
 | n+1,f=>(if f 0=true then 1 else 0)+2*FZ n (fun i=>f (i+1))
theorem Nt (s:Int) (i:Nat):bit (s / 2) i=bit s (i+1):=by
 unfold bit
 rw [Int.ediv_ediv_of_nonneg (by decide:(0:Int)<=2)]
 have e:(2:Int)*2 ^ i=2 ^ (i+1):=by rw [Int.pow_succ,Int.mul_comm]
 rw [e]
theorem Nv (s:Int):bit s 0=decide (s % 2=1):=by
 unfold bit
 rw [Int.pow_zero,Int.ediv_one]
theorem Hg:∀n {f g:Nat->Bool},(∀i,i < n->f i=g i)->FZ n f=FZ n g
 | 0,_,_,_=>rfl
 | n+1,f,g,h=>by
   show (if f 0=true then (1:Int) else 0)+2*FZ n (fun i=>f (i+1))=(if g 0=true then (1:Int) else 0)+2*FZ n (fun i=>g (i+1))
   rw [h 0 (by omega),Hg n (f:=fun i=>f (i+1)) (g:=fun i=>g (i+1)) fun i hi=>h (i+1) (by omega)]
theorem IW:∀n f,FZ (n+1) f=FZ n f+(if f n=true then 2 ^ n else 0)
 | 0,f=>by
   show (if f 0=true then (1:Int) else 0)+2*0=0+(if f 0=true then (1:Int) else 0)
   split <;> decide
 | n+1,f=>by
   show (if f 0=true then (1:Int) else 0)+2*FZ (n+1) (fun i=>f (i+1))=(if f 0=true then (1:Int) else 0)+2*FZ n (fun i=>f (i+1))+(if f (n+1)=true then 2 ^ (n+1) else 0)
   rw [IW n (fun i=>f (i+1)),Int.pow_succ]
   split <;> split <;> omega
noncomputable def hands (n:Nat) (f:Nat->Bool):List Int:=((List.range n).filter f).map fun i:Nat=>(i:Int)
theorem Fd (n:Nat) (f:Nat->Bool):hands (n+1) f=if f n=true then hands n f++[(n:Int)] else hands n f:=by
 unfold hands
 rw [List.range_succ,List.filter_append,List.map_append]
 by_cases h:f n=true
 ·rw [if_pos h];simp [h]
 ·rw [if_neg h]
  have h':f n=false:=by simpa using h
  simp [h']
theorem ML (n:Nat) (f:Nat->Bool):(hands n f).length<=n:=by
 unfold hands
 rw [List.length_map]
 exact Nat.le_trans (List.length_filter_le _ _) (by simp)
theorem MM {n:Nat} {f:Nat->Bool} {z:Int}:z∈hands n f↔∃i:Nat,i < n/\f i=true/\z=(i:Int):=by
 unfold hands
 rw [List.mem_map]
 constructor
 ·rintro ⟨i,hi,rfl⟩
  obtain ⟨h1,h2⟩:=List.mem_filter.mp hi
  exact ⟨i,List.mem_range.mp h1,h2,rfl⟩
 ·rintro ⟨i,h1,h2,rfl⟩
  exact ⟨i,List.mem_filter.mpr ⟨List.mem_range.mpr h1,h2⟩,rfl⟩
noncomputable def Qb (hs:List Int):Int:=(hs.map fun h=>(1:Int)*2 ^ h.toNat).sum
theorem EY:∀n f,Qb (hands n f)=FZ n f
 | 0,f=>rfl
 | n+1,f=>by
   rw [Fd,IW]
   by_cases h:f n=true
   ·rw [if_pos h,if_pos h]
    unfold Qb
    rw [List.map_append,List.sum_append]
    have:=EY n f
    unfold Qb at this
    rw [this]
    simp
   ·rw [if_neg h,if_neg h,EY n f]
    omega
noncomputable def ins (x:Int):List Int->List Int
 | []=>[x]
 | y :: r=>if x < y then x :: y :: r else if x=y then y :: r else y :: ins x r
inductive PP (K:PySem.W.Frag) (vs:List V) (H:Hp) (Q:VK) (E:XK):Prop
 | mk (p:Addr) (ns:List Int) (k:Int):vs=[.ref p,.int k]->SqL K H p (ns.map V.int)->ns.length<=63->0<=k->k<=1000->(∀z:Int,0<=z->z < 10 ^ 40->Q (.int z) H)->PP K vs H Q E
inductive Mz (vs:List V) (H:Hp) (Q:VK) (E:XK):Prop
 | mk (c b:Int):vs=[.int c,.int b]->Sz 200 c->Sz 64 b->(∀z:Int,0<=z->z < 10 ^ 18->Q (.int z) H)->Mz vs H Q E
theorem OC {c:Int} (h0:0<=c) (h:c < 10 ^ 40):Sz 200 c:=Bp (by omega) (by omega)
theorem QB {c:Int} (h0:0<=c) (h:c < 10 ^ 18):Sz 64 c:=Bp (by omega) (by omega)
theorem Mn (x:Int):0<=(x.fmod ((10:Int) ^ (18:Int).toNat+3)).fdiv 7/\(x.fmod ((10:Int) ^ (18:Int).toNat+3)).fdiv 7 < 10 ^ 18:=by
 have h:=AR x (show (0:Int) < (10:Int) ^ (18:Int).toNat+3 by decide)
 generalize x.fmod ((10:Int) ^ (18:Int).toNat+3)=y at h ⊢
 rw [Int.fdiv_eq_ediv_of_nonneg y (by decide)]
 have e:(10:Int) ^ (18:Int).toNat=1000000000000000000:=by decide
 rw [e] at h
 omega
theorem AB {H H':Hp} {l:Addr} {o:HO} (s:A0 H H') (n:H l=none):A0 H (upd H' l o):=fun b u e=>by
 rw [Ay (B7 e n)]
 exact s b u e
theorem ifT {c:Bool} {A B:Prop} (e:c=true) (h:A):if c=true then A else B:=by rw [if_pos e];exact h
theorem ifF {c:Bool} {A B:Prop} (e:c=false) (h:B):if c=true then A else B:=by rw [if_neg (by rw [e];decide)];exact h
theorem Ra {a b:Int} (h:a≠b):(!decide (V.int a=V.int b))=true:=by rw [decide_eq_false (fun e=>h (V.int.inj e))];rfl
theorem MY {a b:Int} (h:a=b):(!decide (V.int a=V.int b))=false:=by rw [h,decide_eq_true rfl];rfl
theorem Kj {a b:Int} (h:a=b):decide (V.int a=V.int b)=true:=by rw [h];exact decide_eq_true rfl
theorem Ki {a b:Int} (h:a≠b):decide (V.int a=V.int b)=false:=decide_eq_false fun e=>h (V.int.inj e)
theorem Jz {ns:List Int} {i:Nat} {x:V} (h:(ns.map V.int)[i]?=some x):∃z,ns[i]?=some z/\x=.int z:=by
 rw [List.getElem?_map] at h
 cases e:ns[i]? with
 | none=>rw [e] at h;cases h
 | some z=>rw [e] at h;exact ⟨z,rfl,(Option.some.inj h).symm⟩
theorem atN {ns:List Int} {i:Nat} {z:Int} (h:ns[i]?=some z):atI (ns.map V.int) (i:Int)=some (.int z):=Dk (by rw [List.getElem?_map,h];rfl)
theorem RD (x:Int):Builtin.bitAnd x 1=x % 2:=PySem.W.kbt_mask x 1
theorem MO (m:Int) (h:Int):decide (V.int (Builtin.bitAnd (m / 2 ^ h.toNat) 1)=V.int 1)=bit m h.toNat:=by
 unfold bit
 rw [RD]
 by_cases c:m / 2 ^ h.toNat % 2=1
 ·rw [decide_eq_true c,decide_eq_true (congrArg V.int c)]
 ·rw [decide_eq_false c,decide_eq_false fun e=>c (V.int.inj e)]
theorem OU (m:Int) (i:Nat):m / 2 ^ i % 2=if bit m i=true then 1 else 0:=by
 have e:m / 2 ^ i % 2=0\/m / 2 ^ i % 2=1:=by omega
 unfold bit
 rcases e with e | e
 ·rw [e];rfl
 ·rw [e];rfl
theorem OV (m:Int) (h:Nat):Builtin.bitOr m (1*2 ^ h)=m+2 ^ h*(if (!bit m h)=true then 1 else 0):=by
 rw [Int.one_mul,PyProof.Rows.bitOr_and,PySem.W.kbt_bit,OU]
 cases bit m h <;> simp
inductive O9 (vs:List V) (H:Hp) (Q:VK) (E:XK):Prop
 | mk (m h:Int):vs=[.int m,.int h]->0<=h->h < 12->Q (.int (Builtin.bitOr m (1*2 ^ h.toNat))) H->O9 vs H Q E
noncomputable def Nl:Sp:=fun vs H Q _=>∃m:Int,vs=[.int m]/\0<=m/\m < 4096/\∀(p:Addr) (H':Hp),H p=none->A0 H H'->H' p=some (.lst ((hands 12 (bit m)).map V.int))->Q (.ref p) H'
theorem u1 {n:Nat} (h:n+64 < cLine):n+1 < cLine:=by omega
theorem Q4 {a h:Int} (ha:0<=a/\a < h):0<=(1:Int)*2 ^ a.toNat/\(1:Int)*2 ^ a.toNat < 2 ^ h.toNat:=by
 have p:2 ^ a.toNat < 2 ^ h.toNat:=Nat.pow_lt_pow_right (by decide) (by omega)
 have e1:((2 ^ a.toNat:Nat):Int)=(2:Int) ^ a.toNat:=by simp
 have e2:((2 ^ h.toNat:Nat):Int)=(2:Int) ^ h.toNat:=by simp
 rw [Int.one_mul,<- e1,<- e2]
 exact ⟨Int.natCast_nonneg _,Int.ofNat_lt.mpr p⟩
theorem J0 {n i:Nat} (h:i < n):ixN n (i:Int)=some i:=by
 unfold ixN
 rw [if_pos (by omega)]
 simp [h]
theorem QH {a b h:Int} (ha:0<=a/\a < h) (hb:0<=b/\b < h) (n:b≠a):0<=(1:Int)*2 ^ a.toNat+1*2 ^ b.toNat/\(1:Int)*2 ^ a.toNat+1*2 ^ b.toNat < 2 ^ h.toNat:=by
 have key:∀{x y:Nat},x < y->y < h.toNat->2 ^ x+2 ^ y < 2 ^ h.toNat:=fun {x y} l1 l2=>by
  have p1:2 ^ x < 2 ^ y:=Nat.pow_lt_pow_right (by decide) l1
  have p2:2 ^ (y+1)<=2 ^ h.toNat:=Nat.pow_le_pow_right (by decide) l2
  rw [Nat.pow_succ] at p2
  omega
 have k:2 ^ a.toNat+2 ^ b.toNat < 2 ^ h.toNat:=by
  rcases (by omega:a.toNat < b.toNat\/b.toNat < a.toNat) with c | c
  ·exact key c (by omega)
  ·rw [Nat.add_comm];exact key c (by omega)
 have e1:((2 ^ a.toNat:Nat):Int)=(2:Int) ^ a.toNat:=by simp
 have e2:((2 ^ h.toNat:Nat):Int)=(2:Int) ^ h.toNat:=by simp
 have e3:((2 ^ b.toNat:Nat):Int)=(2:Int) ^ b.toNat:=by simp
 rw [Int.one_mul,Int.one_mul,<- e1,<- e2,<- e3]
 have k':=Int.ofNat_lt.mpr k
 rw [Int.natCast_add] at k'
 exact ⟨Int.add_nonneg (Int.natCast_nonneg _) (Int.natCast_nonneg _),k'⟩
theorem NA {h:Int} (h1:1<=h):(1:Int)<=1*2 ^ h.toNat - 1/\(1:Int)*2 ^ h.toNat=2 ^ h.toNat:=by
 have p:2 ^ 1<=2 ^ h.toNat:=Nat.pow_le_pow_right (by decide) (by omega)
 have e2:((2 ^ h.toNat:Nat):Int)=(2:Int) ^ h.toNat:=by simp
 rw [Int.one_mul,<- e2]
 exact ⟨by omega,rfl⟩
theorem PK {x0 x1 x2 x3:Int} (P:Int->Prop) (m:Int) (h0:0<=m) (h4:m < 4) (p0:P x0) (p1:P x1) (p2:P x2) (p3:P x3):∃v,atI [V.int x0,V.int x1,V.int x2,V.int x3] m=some (.int v)/\P v:=by
 rcases (by omega:m=0\/m=1\/m=2\/m=3) with rfl | rfl | rfl | rfl
 ·exact ⟨x0,rfl,p0⟩
 ·exact ⟨x1,rfl,p1⟩
 ·exact ⟨x2,rfl,p2⟩
 ·exact ⟨x3,rfl,p3⟩
theorem Nu {m:Int} {i:Nat} (h0:0<=m) (h:m < 2 ^ i):bit m i=false:=by
 unfold bit
 rw [Int.ediv_eq_zero_of_lt h0 h]
 decide
theorem GX {m:Int} {k:Nat} (h0:0<=m) (h:m < 2 ^ k):∀d:Nat,hands (k+d) (bit m)=hands k (bit m)
 | 0=>rfl
 | d+1=>by
   have p:(2:Int) ^ k<=2 ^ (k+d):=by
    have q:2 ^ k<=2 ^ (k+d):=Nat.pow_le_pow_right (by decide) (by omega)
    have e1:((2 ^ k:Nat):Int)=(2:Int) ^ k:=by simp
    have e2:((2 ^ (k+d):Nat):Int)=(2:Int) ^ (k+d):=by simp
    omega
   show hands ((k+d)+1) (bit m)=hands k (bit m)
   rw [Fd,Nu h0 (by omega),if_neg (by decide),GX h0 h d]
theorem Nw {m:Int} (h0:0<=m) (h:m < 4096):hands (Builtin.Int.intBits m) (bit m)=hands 12 (bit m):=by
 have b:Builtin.Int.intBits m<=12:=intBits_le_iff.mpr (by show m.natAbs < 4096;omega)
 have l:m.natAbs < 2 ^ Builtin.Int.intBits m:=intBits_le_iff.mp (Nat.le_refl _)
 have l':m < (2:Int) ^ Builtin.Int.intBits m:=by
  have e:((2 ^ Builtin.Int.intBits m:Nat):Int)=(2:Int) ^ Builtin.Int.intBits m:=by simp
  omega
 obtain ⟨d,hd⟩:∃d,12=Builtin.Int.intBits m+d:=⟨12 - Builtin.Int.intBits m,by omega⟩
 rw [hd,GX h0 l' d]
abbrev Ls:=List (Addr × Addr × List Int × Int)
noncomputable def vls (ls:Ls):List V:=ls.map fun q=>.ref q.1
noncomputable def DG (h:Nat) (ts:List Int):Prop:=ts=[]\/∃t r,ts=t :: r/\0<=t/\t < 2 ^ h
noncomputable def BA (h:Nat) (H:Hp) (ls:Ls):Prop:=∀q∈ls,H q.1=some (.tup [.ref q.2.1,.int q.2.2.2])/\H q.2.1=some (.tup (q.2.2.1.map V.int))/\DG h q.2.2.1
theorem BA.same {h:Nat} {H H':Hp} {ls:Ls} (s:A0 H H') (g:BA h H ls):BA h H' ls:=fun q m=>⟨s _ _ (g q m).1,s _ _ (g q m).2.1,(g q m).2.2⟩
theorem BA.sub {h:Nat} {H:Hp} {a b:Ls} (g:BA h H a) (k:∀q∈b,q∈a):BA h H b:=fun q m=>g q (k q m)
theorem JW {ls:Ls} {i:Nat} {x:V} (h:(vls ls)[i]?=some x):∃q,ls[i]?=some q/\x=.ref q.1/\q∈ls/\ls.take (i+1)=ls.take i++[q]:=by
 unfold vls at h
 rw [List.getElem?_map] at h
 cases e:ls[i]? with
 | none=>rw [e] at h;cases h
 | some q =>
   rw [e] at h
   refine ⟨q,rfl,(Option.some.inj h).symm,List.mem_of_getElem? e,?_⟩
   rw [List.take_succ,e]
   rfl
theorem DN (ls:Ls):(vls ls).length=ls.length:=List.length_map ..
noncomputable def ld (q:Addr × Addr × List Int × Int):PyData:=.tuple [.tuple (q.2.2.1.map .int),.int q.2.2.2]
theorem GL {K:PySem.W.Frag} {h:Nat} {H:Hp}:∀{ls:Ls},BA h H ls->Reps K H (vls ls) (ls.map ld)
 | [],_=>.nil
 | q :: _,g=>by
   obtain ⟨g1,g2,_⟩:=g q (List.mem_cons_self ..)
   exact .cons (.tup (SqT.of g1) (.cons (.tup (SqT.of g2) (.ints _)) (.cons (.int _) .nil))) (GL (g.sub fun _ m=>List.mem_cons_of_mem _ m))
theorem NO:∀ls:Ls,PyData.canLayAll0 (ls.map ld)=true/\PyData.depthAll (ls.map ld)<=2
 | []=>⟨rfl,Nat.zero_le _⟩
 | q :: r=>by
   obtain ⟨h1,h2⟩:=NO r
   obtain ⟨i1,i2⟩:=Ha q.2.2.1
   refine ⟨?_,?_⟩
   ·show ((PyData.canLayAll0 (q.2.2.1.map .int) && (true && true)) && PyData.canLayAll0 (r.map ld))=true
    rw [h1,i1];rfl
   ·show max (max (PyData.depthAll (q.2.2.1.map .int)+1) (max 0 0)+1) (PyData.depthAll (r.map ld))<=2
    omega
theorem Ei (ls:Ls):SeqAt.shaped (.list (ls.map ld))=true:=by
 obtain ⟨h1,h2⟩:=NO ls
 unfold SeqAt.shaped
 rw [Bool.and_eq_true]
 refine ⟨h1,decide_eq_true ?_⟩
 show PyData.depthAll (ls.map ld)+1<=64
 omega
theorem none_of {H H':Hp} {a:Addr} (s:A0 H H') (h:H' a=none):H a=none:=by
 cases e:H a with
 | none=>rfl
 | some u=>rw [s _ _ e] at h;cases h
noncomputable def plK (t:Int) (h:Nat):Nat->Nat
 | 0=>h
 | k+1=>if t=2 ^ k then k else plK t h k
noncomputable def pl (h:Nat):List Int->Nat
 | []=>h
 | t :: _=>plK t h h
theorem On (t:Int) (h:Nat):∀k,k<=h->plK t h k<=h
 | 0,_=>Nat.le_refl _
 | k+1,hk=>by
   show (if t=2 ^ k then k else plK t h k)<=h
   split
   ·omega
   ·exact On t h k (by omega)
theorem Op (h:Nat):∀ts,pl h ts<=h
 | []=>Nat.le_refl _
 | t :: _=>On t h h (Nat.le_refl _)
theorem Pf {a b:Nat} (h:(2:Int) ^ a=2 ^ b):a=b:=by
 have e:((2 ^ a:Nat):Int)=((2 ^ b:Nat):Int):=by simpa using h
 have f:2 ^ a=2 ^ b:=by omega
 exact Nat.pow_right_inj (by decide) |>.mp f
theorem Om {t:Int} {h:Nat}:∀k {j:Nat},j < k->t=2 ^ j->plK t h k=j
 | k+1,j,hj,e=>by
   show (if t=2 ^ k then k else plK t h k)=j
   by_cases c:t=2 ^ k
   ·rw [if_pos c];exact Pf (c.symm.trans e)
   ·rw [if_neg c]
    have:j≠k:=fun z=>c (by rw [<- z];exact e)
    exact Om k (by omega) e
theorem Oo {t:Int} {h:Nat}:∀k,(∀j,j < k->t≠2 ^ j)->plK t h k=h
 | 0,_=>rfl
 | k+1,n=>by
   show (if t=2 ^ k then k else plK t h k)=h
   rw [if_neg (n k (by omega))]
   exact Oo k fun j hj=>n j (by omega)
theorem Kr:∀(n:Nat) (t:Int),0<=t->t < 2 ^ n->FZ n (bit t)=t
 | 0,t,h0,h1=>by
   have:t < 1:=h1
   show (0:Int)=t
   omega
 | n+1,t,h0,h1=>by
   rw [Int.pow_succ] at h1
   show (if bit t 0=true then (1:Int) else 0)+2*FZ n (fun i=>bit t (i+1))=t
   have e:FZ n (fun i=>bit t (i+1))=t / 2:=by
    rw [<- Kr n (t / 2) (by omega) (by omega)]
    exact Hg n fun i _=>(Nt t i).symm
   rw [e,Nv]
   by_cases c:t % 2=1
   ·rw [decide_eq_true c,if_pos rfl];omega
   ·rw [decide_eq_false c,if_neg (by decide)];omega
theorem Od:∀k:_root_.Fin 12,hands 12 (bit (2 ^ k.val))=[(k.val:Int)]:=by decide +kernel
theorem Q3 {t:Int} {r:List Int} {h:Nat} {z:Int} (h12:h<=12) (t0:0<=t) (t1:t < 2 ^ h) (e:hands 12 (bit t)=[z]):(pl h (t :: r):Int)=z/\pl h (t :: r) < h:=by
 have lt:t < 2 ^ 12:=by
  have:(2:Int) ^ h<=2 ^ 12:=by
   have q:2 ^ h<=2 ^ 12:=Nat.pow_le_pow_right (by decide) h12
   have e1:((2 ^ h:Nat):Int)=(2:Int) ^ h:=by simp
   omega
  omega
 have m:=EY 12 (bit t)
 rw [e,Kr 12 t t0 lt] at m
 obtain ⟨k,k12,_,rfl⟩:=MM.mp (show z∈hands 12 (bit t) by rw [e];exact List.mem_cons_self ..)
 have et:t=2 ^ k:=by
  rw [<- m]
  show (1:Int)*2 ^ (k:Int).toNat+0=2 ^ k
  rw [Int.one_mul,Int.add_zero,Int.toNat_natCast]
 have kh:k < h:=by
  rcases (by omega:k < h\/h<=k) with c | c
  ·exact c
  ·have q:2 ^ h<=2 ^ k:=Nat.pow_le_pow_right (by decide) c
   have e1:((2 ^ h:Nat):Int)=(2:Int) ^ h:=by simp
   have e2:((2 ^ k:Nat):Int)=(2:Int) ^ k:=by simp
   omega
 have:pl h (t :: r)=k:=Om h kh et
 rw [this]
 exact ⟨rfl,kh⟩
theorem Pe {t:Int} {r:List Int} {h:Nat} (h12:h<=12) (e:(hands 12 (bit t)).length≠1):pl h (t :: r)=h:=by
 refine Oo h fun j hj z=>e ?_
 rw [z]
 have:=Od ⟨j,by omega⟩
 rw [show (2:Int) ^ j=2 ^ (⟨j,by omega⟩:_root_.Fin 12).val from rfl,this]
 rfl
noncomputable def Fq (h:Nat) (vs:List Int) (q:Addr × Addr × List Int × Int):List Int:=vs.set (pl h q.2.2.1) (vs.getD (pl h q.2.2.1) 0+q.2.2.2)
noncomputable def Gn (h:Nat) (kvs:List (List Key × V)):Prop:=∀q∈kvs,∃(ts:List Int) (n:Int),q=(ts.map Sum.inl,.int n)/\DG h ts
theorem C7 (ts:List Int):(ts.map Sum.inl:List Key).map kV=ts.map V.int:=by rw [List.map_map];rfl
theorem IS {h:Nat} {kvs:List (List Key × V)} {ts:List Int} {n:Int} (g:Gn h kvs) (f:DG h ts):Gn h (Bj kvs (ts.map Sum.inl) (.int n)):=by
 intro q m
 unfold Bj at m
 split at m
 ·obtain ⟨p,pm,rfl⟩:=List.mem_map.mp m
  split
  ·rename_i e
   exact ⟨ts,n,by rw [e],f⟩
  ·exact g p pm
 ·rcases List.mem_append.mp m with m | m
  ·exact g q m
  ·rw [List.mem_singleton.mp m];exact ⟨ts,n,rfl,f⟩
theorem HQ {κ:Type} [DecidableEq κ] (kvs:List (κ × V)) (k:κ) (v:V):(Bj kvs k v).length<=kvs.length+1:=by
 unfold Bj
 split
 ·rw [List.length_map];omega
 ·rw [List.length_append];exact Nat.le_refl _
theorem Dy {h:Nat} {kvs:List (List Key × V)} {k:List Key} {v:V} (g:Gn h kvs) (e:Bn kvs k=some v):∃n:Int,v=.int n:=by
 unfold Bn at e
 cases c:kvs.find? fun kv=>decide (kv.1=k) with
 | none=>rw [c] at e;cases e
 | some q =>
   rw [c] at e
   obtain ⟨ts,n,rfl,_⟩:=g q (List.mem_of_find?_eq_some c)
   exact ⟨n,(Option.some.inj e).symm⟩
theorem Fc {h:Nat}:∀{kvs:List (List Key × V)},Gn h kvs->∃ks:List (List Int),kvs.map (·.1)=ks.map (List.map Sum.inl)/\ks.length=kvs.length/\∀ts∈ks,DG h ts/\∃n:Int,Bn kvs (ts.map Sum.inl)=some (.int n)
 | kvs,g=>by
   have key:∀{l:List (List Key × V)},(∀q∈l,q∈kvs)->∃ks:List (List Int),l.map (·.1)=ks.map (List.map Sum.inl)/\ks.length=l.length/\∀ts∈ks,DG h ts/\(ts.map Sum.inl:List Key)∈kvs.map (·.1):=by
    intro l
    induction l with
    | nil=>intro _;exact ⟨[],rfl,rfl,fun _ m=>nomatch m⟩
    | cons q r ih =>
      intro sub
      obtain ⟨ks,e1,e2,e3⟩:=ih fun p m=>sub p (List.mem_cons_of_mem _ m)
      obtain ⟨ts,n,eq,f⟩:=g q (sub q (List.mem_cons_self ..))
      refine ⟨ts :: ks,by rw [List.map_cons,List.map_cons,e1,eq],by rw [List.length_cons,List.length_cons,e2],fun us m=>?_⟩
      rcases List.mem_cons.mp m with z | z
      ·subst z
       exact ⟨f,List.mem_map.mpr ⟨q,sub q (List.mem_cons_self ..),by rw [eq]⟩⟩
      ·exact e3 us z
   obtain ⟨ks,e1,e2,e3⟩:=key fun q m=>m
   refine ⟨ks,e1,e2,fun ts m=>⟨(e3 ts m).1,?_⟩⟩
   cases c:Bn kvs (ts.map Sum.inl:List Key) with
   | none=>exact absurd (e3 ts m).2 (OI c)
   | some v =>
     obtain ⟨n,rfl⟩:=Dy g c
     exact ⟨n,rfl⟩
noncomputable def Au (h:Nat) (ls:Ls):List Int:=ls.foldl (Fq h) (List.replicate (h+1) 0)
theorem EM (h:Nat) (ls:Ls):(Au h ls).length=h+1:=by
 have:∀(ls:Ls) (vs:List Int),(ls.foldl (Fq h) vs).length=vs.length:=by
  intro ls
  induction ls with
  | nil=>intro vs;rfl
  | cons q r ih=>intro vs;rw [List.foldl_cons,ih];unfold Fq;rw [List.length_set]
 unfold Au
 rw [this,List.length_replicate]
theorem LL (h:Nat) (ls:Ls) (q:Addr × Addr × List Int × Int):Au h (ls++[q])=Fq h (Au h ls) q:=by
 unfold Au
 rw [List.foldl_append]
 rfl
theorem M5:∀(vs:List Int) (i:Nat) (n:Int),i < vs.length->(vs.set i (vs.getD i 0+n)).sum=vs.sum+n
 | v :: vs,0,n,_=>by
   show (v+n)+vs.sum=v+vs.sum+n
   omega
 | v :: vs,i+1,n,h=>by
   show v+(vs.set i (vs.getD i 0+n)).sum=v+vs.sum+n
   rw [M5 vs i n (Nat.lt_of_succ_lt_succ h)]
   omega
theorem Nn (h:Nat):∀ls:Ls,(Au h ls).sum=(ls.map fun q=>q.2.2.2).sum:=by
 have:∀(ls:Ls) (vs:List Int),vs.length=h+1->(ls.foldl (Fq h) vs).sum=vs.sum+(ls.map fun q=>q.2.2.2).sum:=by
  intro ls
  induction ls with
  | nil=>intro vs _;show vs.sum=vs.sum+0;omega
  | cons q r ih =>
    intro vs hv
    have l:(Fq h vs q).length=h+1:=by unfold Fq;rw [List.length_set];exact hv
    rw [List.foldl_cons,ih _ l]
    unfold Fq
    rw [M5 _ _ _ (by have:=Op h q.2.2.1;omega),List.map_cons,List.sum_cons]
    omega
 intro ls
 have z:∀n:Nat,(List.replicate n (0:Int)).sum=0:=by
  intro n
  induction n with
  | zero=>rfl
  | succ n ih=>rw [List.replicate_succ,List.sum_cons,ih];rfl
 unfold Au
 rw [this ls _ (List.length_replicate ..),z]
 omega
inductive Lb (vs:List V) (H:Hp) (Q:VK) (E:XK):Prop
 | mk (c h:Int):vs=[.int c,.int h]->Sz 200 c->1<=h->h<=12->(∀(t:Addr) (ts:List Int) (H':Hp),A0 H H'->H' t=some (.tup (ts.map V.int))->DG h.toNat ts->Q (.ref t) H')->Lb vs H Q E
inductive M1 (K:PySem.W.Frag) (vs:List V) (H:Hp) (Q:VK) (E:XK):Prop
 | mk (l:Addr) (ls:Ls) (h:Int):vs=[.ref l,.int h]->H l=some (.lst (vls ls))->BA h.toNat H ls->1<=h->h<=12->(∀(a:Addr) (H':Hp),H a=none->A0 H H'->H' a=some (.lst ((Au h.toNat ls).map V.int))->Q (.ref a) H')->M1 K vs H Q E
inductive O8 (K:PySem.W.Frag) (vs:List V) (H:Hp) (Q:VK) (E:XK):Prop
 | mk (t:Addr) (ts:List Int) (h:Nat):vs=[.ref t]->H t=some (.tup (ts.map V.int))->DG h ts->h<=12->(pl h ts=h->∀H',A0 H H'->Q .non H')->(pl h ts < h->∀H',A0 H H'->Q (.int (pl h ts:Nat)) H')->O8 K vs H Q E
noncomputable def off (H:Hp) (D:Addr):Hp:=fun b=>if b=D then none else H b
theorem Hi (H:Hp) (D:Addr):A0 (off H D) H:=fun b o e=>by
 unfold off at e
 split at e
 ·cases e
 ·exact e
theorem Fg {H:Hp} {D b:Addr} {o:HO} (e:H b=some o) (n:b≠D):off H D b=some o:=by
 unfold off
 rw [if_neg n]
 exact e
theorem Oa {H:Hp} {D:Addr}:off H D D=none:=by unfold off;rw [if_pos rfl]
theorem Dw {H H':Hp} {D:Addr} {o:HO} (s:A0 (off H D) H'):A0 (off H D) (upd H' D o):=fun b u e=>by
 rw [Ay (fun z=>by rw [z,Oa] at e;cases e)]
 exact s _ _ e
theorem Fh {H0 H:Hp} {D:Addr} (s:A0 H0 H) (n:H0 D=none):A0 H0 (off H D):=fun b o e=>Fg (s _ _ e) fun z=>by rw [z,n] at e;cases e
theorem GJ {H:Hp} {D:Addr} {o:HO}:off (upd H D o) D=off H D:=funext fun b=>by
 unfold off
 by_cases c:b=D
 ·rw [if_pos c,if_pos c]
 ·rw [if_neg c,if_neg c,Ay c]
theorem Pd {x0 x1:Int} (P:Int->Prop) (c:Bool) (p0:P x0) (p1:P x1):∃v,atI [V.int x0,V.int x1] (if c=true then 1 else 0)=some (.int v)/\P v:=by
 cases c
 ·exact ⟨x0,rfl,p0⟩
 ·exact ⟨x1,rfl,p1⟩
theorem Q2 {x0 x1 x2:Int} (P:Int->Prop) (m:Int) (h0:0<=m) (h3:m < 3) (p0:P x0) (p1:P x1) (p2:P x2):∃v,atI [V.int x0,V.int x1,V.int x2] m=some (.int v)/\P v:=by
 rcases (by omega:m=0\/m=1\/m=2) with rfl | rfl | rfl
 ·exact ⟨x0,rfl,p0⟩
 ·exact ⟨x1,rfl,p1⟩
 ·exact ⟨x2,rfl,p2⟩
noncomputable def ups (n:Nat):List Int:=(List.range n).map fun i:Nat=>(i:Int)
theorem P3 (n:Nat):(ups n).Pairwise (·<=·):=List.pairwise_map.mpr (List.pairwise_lt_range.imp fun h=>by omega)
theorem R7 (n:Nat):(ups n).map V.int=(List.range n).map fun i:Nat=>V.int (i:Int):=by unfold ups;rw [List.map_map];rfl
theorem M7 (n:Nat):(ups n).length=n:=by unfold ups;rw [List.length_map,List.length_range]
theorem QI {ms ns:List Int} {n:Nat} (p:ms.Perm ns) (s:ms.Pairwise (·<=·)) (h:ns.Perm (ups n)):ms=ups n:=(p.trans h).eq_of_pairwise (fun a b _ _ x y=>Int.le_antisymm x y) s (P3 n)
noncomputable def Pt:Sp:=fun vs H Q _=>∃n:Int,vs=[.int n]/\1<=n/\n<=12/\Q (.bl true) H
noncomputable def Pu:Sp:=fun vs H Q _=>∃n:Int,vs=[.int n]/\1<=n/\n<=60/\Q (.bl true) H
noncomputable def QA:Sp:=fun vs H Q _=>∃n:Int,vs=[.int n]/\1<=n/\n<=9/\Q (.bl true) H
noncomputable def Q9 (K:PySem.W.Frag):Sp:=fun vs H Q _=>∃(l:Addr) (ns:List Int) (n:Nat),vs=[.ref l,.int (n:Int)]/\H l=some (.lst (ns.map V.int))/\ns.Perm (ups n)/\n<=12/\∀H':Hp,A0 H H'->Q (.bl true) H'
inductive KQ (vs:List V) (H:Hp) (Q:VK) (E:XK):Prop
 | mk (t:Addr) (u v:Int):vs=[.ref t]->H t=some (.tup [.int u,.int v])->0<=u->u<=v->Cy u v=1->Q (.bl true) H->KQ vs H Q E
abbrev fsW (h s:Int) (l:Addr):List (Str × V):=[("hands",.int h),("seats",.int s),("lots",.ref l)]
abbrev fsL (h s:Int) (l t:Addr) (st:Int):List (Str × V):=[("hands",.int h),("seats",.int s),("lots",.ref l),("hurdle",.ref t),("step",.int st)]
theorem RJ (x:V):C0 "hands" x []=([("hands",x)]:List (Str × V)):=rfl
theorem RK (x y:V):C0 "seats" y [("hands",x)]=([("hands",x),("seats",y)]:List (Str × V)):=by
 unfold C0;rw [if_neg (by decide)];rfl
theorem RL (x y z:V):C0 "lots" z [("hands",x),("seats",y)]=([("hands",x),("seats",y),("lots",z)]:List (Str × V)):=by
 unfold C0;rw [if_neg (by decide)];unfold C0;rw [if_neg (by decide)];rfl
theorem RM (x y z u:V):C0 "hurdle" u [("hands",x),("seats",y),("lots",z)]=([("hands",x),("seats",y),("lots",z),("hurdle",u)]:List (Str × V)):=by
 unfold C0;rw [if_neg (by decide)];unfold C0;rw [if_neg (by decide)];unfold C0;rw [if_neg (by decide)];rfl
theorem RN (x y z u v:V):C0 "step" v [("hands",x),("seats",y),("lots",z),("hurdle",u)]=([("hands",x),("seats",y),("lots",z),("hurdle",u),("step",v)]:List (Str × V)):=by
 unfold C0;rw [if_neg (by decide)];unfold C0;rw [if_neg (by decide)];unfold C0;rw [if_neg (by decide)];unfold C0;rw [if_neg (by decide)];rfl
inductive Ji (K:PySem.W.Frag) (vs:List V) (H:Hp) (Q:VK) (E:XK):Prop
 | mk (a C dx l:Addr) (h s:Int) (ns:List Int):vs=[.ref a,.int h,.int s,.ref l]->H a=some (.ins C dx [])->Cls K C->B6 K C "hands"->B6 K C "seats"->B6 K C "lots"->1<=h->h<=12->1<=s->s<=60->H l=some (.lst (ns.map V.int))->ns.Perm (ups h.toNat)->(∀(l':Addr) (H':Hp),l'≠a->H l'=none->A0 (off H a) H'->H' a=some (.ins C dx (fsW h s l'))->H' l'=some (.lst (ns.map V.int))->Q .non H')->Ji K vs H Q E
inductive G7 (K:PySem.W.Frag) (vs:List V) (H:Hp) (Q:VK) (E:XK):Prop
 | mk (a C dx l t:Addr) (h s u v st:Int) (ns:List Int):vs=[.ref a,.int h,.int s,.ref l,.ref t,.int st]->H a=some (.ins C dx [])->Cls K C->B6 K C "hands"->B6 K C "seats"->B6 K C "lots"->B6 K C "hurdle"->B6 K C "step"->1<=h->h<=12->1<=s->s<=60->H l=some (.lst (ns.map V.int))->ns.Perm (ups h.toNat)->H t=some (.tup [.int u,.int v])->0<=u->u<=v->Cy u v=1->1<=st->st<=9->(∀(l':Addr) (H':Hp),A0 (off H a) H'->H' a=some (.ins C dx (fsL h s l' t st))->H' l'=some (.lst (ns.map V.int))->Q .non H')->G7 K vs H Q E
noncomputable def IsL (C:Addr) (H:Hp) (a:Addr) (h s st u v:Int) (ns:List Int):Prop:=∃dx l t,H a=some (.ins C dx (fsL h s l t st))/\H l=some (.lst (ns.map V.int))/\H t=some (.tup [.int u,.int v])
theorem IsL.same {C:Addr} {H H':Hp} {a:Addr} {h s st u v:Int} {ns:List Int} (e:A0 H H') (k:IsL C H a h s st u v ns):IsL C H' a h s st u v ns:=by
 obtain ⟨dx,l,t,k1,k2,k3⟩:=k
 exact ⟨dx,l,t,e _ _ k1,e _ _ k2,e _ _ k3⟩
inductive My (C:Addr) (vs:List V) (H:Hp) (Q:VK) (E:XK):Prop
 | mk (a:Addr) (h s st u v:Int) (ns:List Int) (n:Int):vs=[.ref a,.int n]->IsL C H a h s st u v ns->0 < v->Sz 64 u->Sz 64 v->Sz 64 n->Q (.int (max 1 (-((-(u*n)).fdiv v)))) H->My C vs H Q E
inductive O6 (C:Addr) (vs:List V) (H:Hp) (Q:VK) (E:XK):Prop
 | mk (a:Addr) (h s st u v:Int) (ns:List Int) (n k:Int):vs=[.ref a,.int n,.int k]->IsL C H a h s st u v ns->1<=st->st<=9->0<=k->Sz 64 n->Sz 64 k->(∀(p:Addr) (H':Hp),A0 H H'->H' p=some (.tup [.int (DX n (1+st*k)),.int (DE n (1+st*k))])->Q (.ref p) H')->O6 C vs H Q E
inductive KW (vs:List V) (H:Hp) (Q:VK) (E:XK):Prop
 | mk (c h:Int):vs=[.int c,.int h]->Sz 200 c->1<=h->h<=12->(∀(l:Addr) (ns:List Int) (H':Hp),A0 H H'->H' l=some (.lst (ns.map V.int))->ns.Perm (ups h.toNat)->Q (.ref l) H')->KW vs H Q E
inductive Ii (vs:List V) (H:Hp) (Q:VK) (E:XK):Prop
 | mk (c:Int):vs=[.int c]->Sz 200 c->(∀(t:Addr) (u v:Int) (H':Hp),A0 H H'->H' t=some (.tup [.int u,.int v])->0<=u->u<=v->Cy u v=1->v<=1000000000->Q (.ref t) H')->Ii vs H Q E
noncomputable def RB (H:Hp) (p:Addr) (s st u v:Int) (ns:List Int):Prop:=∃l t,H p=some (.tup [.int s,.ref l,.ref t,.int st])/\H l=some (.lst (ns.map V.int))/\H t=some (.tup [.int u,.int v])
inductive M3 (K:PySem.W.Frag) (vs:List V) (H:Hp) (Q:VK) (E:XK):Prop
 | mk (p:Addr) (xs:List Int) (h:Int):vs=[.ref p,.int h]->SqL K H p (xs.map V.int)->xs.length<=63->1<=h->h<=12->(∀(r:Addr) (s st u v:Int) (ns:List Int) (H':Hp),A0 H H'->RB H' r s st u v ns->1<=s->s<=60->1<=st->st<=9->0<=u->u<=v->Cy u v=1->v<=1000000000->ns.Perm (ups h.toNat)->Q (.ref r) H')->M3 K vs H Q E
theorem FX {t b:Int} (h:b≠0):∃d,d≠0/\t=DX t b*d/\b=DE t b*d/\d.natAbs=Int.gcd t b:=by
 have n:=Jq (t:=t) h
 obtain ⟨k,hk⟩:=Ny (x:=t) (y:=b)
 have d2:DO t b ∣ b:=by
  have d:Cy t b ∣ b:=Int.gcd_dvd_right ..
  unfold DO
  by_cases c:b < 0
  ·rw [if_pos c];exact Int.neg_dvd.mpr d
  ·rw [if_neg c];exact d
 obtain ⟨l,hl⟩:=d2
 refine ⟨DO t b,n,?_,?_,?_⟩
 ·unfold DX
  conv=>rhs;arg 1;arg 1;rw [hk]
  rw [Int.mul_fdiv_cancel_left k n,Int.mul_comm]
  exact hk
 ·unfold DE
  conv=>rhs;arg 1;arg 1;rw [hl]
  rw [Int.mul_fdiv_cancel_left l n,Int.mul_comm]
  exact hl
 ·unfold DO Cy
  by_cases c:b < 0
  ·rw [if_pos c,Int.natAbs_neg,Int.natAbs_natCast]
  ·rw [if_neg c,Int.natAbs_natCast]
theorem OT {t b:Int} (h:b≠0):Cy (DX t b) (DE t b)=1:=by
 obtain ⟨d,d0,e1,e2,e3⟩:=FX (t:=t) h
 generalize DX t b=x at *
 generalize DE t b=y at *
 rw [e1,e2,Int.gcd_mul_right] at e3
 have dp:0 < d.natAbs:=by omega
 have z:Int.gcd x y=1:=by
  have f:Int.gcd x y*d.natAbs=1*d.natAbs:=by rw [Nat.one_mul];exact e3.symm
  exact Nat.eq_of_mul_eq_mul_right dp f
 unfold Cy
 rw [z]
 rfl
theorem Qs {t b:Int} (t0:0<=t) (tb:t<=b) (b0:0 < b):0<=DX t b/\DX t b<=DE t b/\DE t b<=b:=by
 obtain ⟨d,d0,e1,e2,_⟩:=FX (t:=t) (b:=b) (by omega)
 have lb:=He (t:=t) (b:=b) (by omega)
 generalize DX t b=x at e1 ⊢
 generalize DE t b=y at e2 lb ⊢
 have dp:0 < d:=by
  rcases (by omega:0 < d\/d<=0) with h | h
  ·exact h
  ·have:=Int.mul_nonpos_of_nonneg_of_nonpos (Int.le_of_lt lb) h
   omega
 refine ⟨?_,?_,?_⟩
 ·rcases (by omega:0<=x\/x < 0) with h | h
  ·exact h
  ·have:=Int.mul_neg_of_neg_of_pos h dp
   omega
 ·refine Int.le_of_mul_le_mul_right ?_ dp
  omega
 ·have:=Int.mul_le_mul_of_nonneg_left (show 1<=d by omega) (Int.le_of_lt lb)
  omega
theorem JA {v d:Int} (h:0 < d):∃g,0 < g/\v=DX v d*g/\d=DE v d*g:=by
 obtain ⟨g,g0,e1,e2,_⟩:=FX (t:=v) (b:=d) (by omega)
 have lb:=He (t:=v) (b:=d) (by omega)
 refine ⟨g,?_,e1,e2⟩
 rcases (by omega:0 < g\/g<=0) with h' | h'
 ·exact h'
 ·have:=Int.mul_nonpos_of_nonneg_of_nonpos (Int.le_of_lt lb) h'
  omega
theorem MW {v1 d1 v2 d2:Int} (h1:0 < d1) (h2:0 < d2):decide (DX v1 d1*DE v2 d2 < DX v2 d2*DE v1 d1)=decide (v1*d2 < v2*d1):=by
 obtain ⟨g,g0,e1,e2⟩:=JA (v:=v1) h1
 obtain ⟨k,k0,e3,e4⟩:=JA (v:=v2) h2
 generalize DX v1 d1=a at e1 ⊢
 generalize DE v1 d1=b at e2 ⊢
 generalize DX v2 d2=c at e3 ⊢
 generalize DE v2 d2=e at e4 ⊢
 subst e1 e2 e3 e4
 have gk:0 < g*k:=Int.mul_pos g0 k0
 have x1:a*g*(e*k)=a*e*(g*k):=by ac_rfl
 have x2:c*k*(b*g)=c*b*(g*k):=by ac_rfl
 rw [x1,x2]
 refine decide_eq_decide.mpr ⟨fun h=>Int.mul_lt_mul_of_pos_right h gk,fun h=>Int.lt_of_mul_lt_mul_right h (Int.le_of_lt gk)⟩
theorem NS {v d:Int} (h:0 < d):-(if v < 0 then -v else v)<=DX v d/\DX v d<=(if v < 0 then -v else v)/\0 < DE v d/\DE v d<=d:=by
 obtain ⟨g,g0,e1,e2⟩:=JA (v:=v) h
 have lb:=He (t:=v) (b:=d) (by omega)
 generalize DX v d=a at e1 ⊢
 generalize DE v d=b at e2 lb ⊢
 refine ⟨?_,?_,lb,?_⟩
 ·rcases (by omega:0<=a\/a < 0) with c | c
  ·split <;> omega
  ·have:=Int.mul_le_mul_of_nonpos_left (Int.le_of_lt c) (show 1<=g by omega)
   split <;> omega
 ·rcases (by omega:0<=a\/a < 0) with c | c
  ·have:=Int.mul_le_mul_of_nonneg_left (show 1<=g by omega) c
   split <;> omega
  ·split <;> omega
 ·have:=Int.mul_le_mul_of_nonneg_left (show 1<=g by omega) (Int.le_of_lt lb)
  omega
noncomputable def GE (vs had:List Int) (st b x:Int):Bool:=decide (vs.getD b.toNat 0*(1+st*had.getD x.toNat 0) < vs.getD x.toNat 0*(1+st*had.getD b.toNat 0))
noncomputable def A6 (vs ns:List Int) (l:Int):List Int:=ns.filter fun i=>decide (l<=vs.getD i.toNat 0)
noncomputable def BM (vs had:List Int) (st b:Int) (xs:List Int):Int:=xs.foldl (fun b x=>if GE vs had st b x=true then x else b) b
noncomputable def Br (vs ns had:List Int) (l st:Int):Int:=match A6 vs ns l with
 | []=>0
 | b :: r=>BM vs had st b (b :: r)
noncomputable def GQ (xs:List Int) (i:Int):List Int:=xs.set i.toNat (xs.getD i.toNat 0+1)
noncomputable def Av (vs ns:List Int) (l st:Int) (h:Nat):Nat->List Int
 | 0=>List.replicate h 0
 | k+1=>GQ (Av vs ns l st h k) (Br vs ns (Av vs ns l st h k) l st)
noncomputable def Dt (vs ns:List Int) (l st:Int) (h k:Nat):List Int:=(List.range k).map fun i=>Br vs ns (Av vs ns l st h i) l st
theorem EX (vs had:List Int) (st:Int):∀(xs:List Int) (b:Int),BM vs had st b xs=b\/BM vs had st b xs∈xs
 | [],b=>.inl rfl
 | x :: xs,b=>by
   show BM vs had st (if GE vs had st b x=true then x else b) xs=b\/_
   have ih:=EX vs had st xs (if GE vs had st b x=true then x else b)
   rcases ih with e | e
   ·by_cases c:GE vs had st b x=true
    ·rw [if_pos c] at e
     refine .inr ?_
     show BM vs had st (if GE vs had st b x=true then x else b) xs∈x :: xs
     rw [if_pos c,e]
     exact List.mem_cons_self ..
    ·rw [if_neg c] at e ⊢
     exact .inl e
   ·exact .inr (List.mem_cons_of_mem _ e)
theorem Ed {vs ns had:List Int} {l st:Int} (h:A6 vs ns l≠[]):Br vs ns had l st∈A6 vs ns l:=by
 unfold Br
 split
 ·rename_i e;exact absurd e h
 ·rename_i b r e
  rw [e]
  rcases EX vs had st (b :: r) b with z | z
  ·rw [z];exact List.mem_cons_self ..
  ·exact z
theorem Nx (xs:List Int) (i:Int):(GQ xs i).length=xs.length:=List.length_set ..
theorem BG (vs ns:List Int) (l st:Int) (h:Nat):∀k,(Av vs ns l st h k).length=h
 | 0=>List.length_replicate ..
 | k+1=>by
   show (GQ _ _).length=h
   rw [Nx]
   exact BG vs ns l st h k
theorem Hv (vs ns:List Int) (l st:Int) (h k:Nat):Dt vs ns l st h (k+1)=Dt vs ns l st h k++[Br vs ns (Av vs ns l st h k) l st]:=by
 unfold Dt
 rw [List.range_succ,List.map_append]
 rfl
theorem IZ (vs ns:List Int) (l st:Int) (h k:Nat):(Dt vs ns l st h k).length=k:=by
 unfold Dt
 rw [List.length_map,List.length_range]
theorem GV {xs:List Int} {i j:Nat} {v:Int} (h:i < xs.length):(xs.set i v).getD j 0=if i=j then v else xs.getD j 0:=by
 rw [List.getD_eq_getElem?_getD,List.getD_eq_getElem?_getD,List.getElem?_set]
 by_cases c:i=j
 ·rw [if_pos c,if_pos c,if_pos (by omega)];rfl
 ·rw [if_neg c,if_neg c]
theorem EE {vs ns:List Int} {l st:Int} {h:Nat} (ih:∀k,0<=Br vs ns (Av vs ns l st h k) l st/\Br vs ns (Av vs ns l st h k) l st < h):∀(k:Nat) (j:Nat),j < h->(Av vs ns l st h k).getD j 0=((Dt vs ns l st h k).count (j:Int):Nat)
 | 0,j,hj=>by
   show (List.replicate h (0:Int)).getD j 0=_
   rw [List.getD_eq_getElem?_getD,List.getElem?_replicate,if_pos hj]
   rfl
 | k+1,j,hj=>by
   obtain ⟨p0,p1⟩:=ih k
   rw [Hv,List.count_append]
   show (GQ _ _).getD j 0=_
   unfold GQ
   rw [GV (by rw [BG];omega),EE ih k j hj,EE ih k _ (by omega)]
   generalize Br vs ns (Av vs ns l st h k) l st=p at p0 p1 ⊢
   have e:List.count (j:Int) [p]=if p=(j:Int) then 1 else 0:=by
    rw [List.count_singleton]
    by_cases c:p=(j:Int)
    ·simp [c]
    ·simp [c]
   rw [e]
   by_cases c:p=(j:Int)
   ·have c2:p.toNat=j:=by omega
    rw [if_pos c,if_pos c2,c2]
    omega
   ·have c2:¬ p.toNat=j:=by omega
    rw [if_neg c,if_neg c2]
    omega
theorem Fv {vs ns:List Int} {l st:Int} {h:Nat} (ih:∀k,0<=Br vs ns (Av vs ns l st h k) l st/\Br vs ns (Av vs ns l st h k) l st < h) (k j:Nat):0<=(Av vs ns l st h k).getD j 0/\(Av vs ns l st h k).getD j 0<=k:=by
 by_cases c:j < h
 ·rw [EE ih k j c]
  have:=List.count_le_length (a:=(j:Int)) (l:=Dt vs ns l st h k)
  rw [IZ] at this
  omega
 ·rw [List.getD_eq_getElem?_getD,List.getElem?_eq_none (by rw [BG];omega)]
  exact ⟨Int.le_refl _,Int.natCast_nonneg _⟩
theorem Cr {vs ns:List Int} {l p:Int} (m:p∈A6 vs ns l):p∈ns/\l<=vs.getD p.toNat 0:=by
 obtain ⟨m1,m2⟩:=List.mem_filter.mp m
 exact ⟨m1,of_decide_eq_true m2⟩
theorem G8 (vs ns:List Int) (z l:Int):A6 vs (ns++[z]) l=A6 vs ns l++(if l<=vs.getD z.toNat 0 then [z] else []):=by
 unfold A6
 rw [List.filter_append]
 by_cases c:l<=vs.getD z.toNat 0
 ·rw [if_pos c,List.filter_cons_of_pos (by exact decide_eq_true c)];rfl
 ·rw [if_neg c,List.filter_cons_of_neg (by rw [decide_eq_false c];exact Bool.false_ne_true)];rfl
noncomputable def Bt (vs had:List Int) (st:Int) (R:Int->Int->Prop) (m y:Int):Prop :=
 vs.getD y.toNat 0*(1+st*had.getD m.toNat 0) < vs.getD m.toNat 0*(1+st*had.getD y.toNat 0)\/(vs.getD y.toNat 0*(1+st*had.getD m.toNat 0)=vs.getD m.toNat 0*(1+st*had.getD y.toNat 0)/\R m y)
theorem N3 {va da vb db vc dc:Int} (hb:0 < db) (hc:0 < dc) (ha:0 < da) (h1:va*db<=vb*da) (h2:vb*dc < vc*db):va*dc < vc*da:=by
 have e1:va*db*dc<=vb*da*dc:=Int.mul_le_mul_of_nonneg_right h1 (Int.le_of_lt hc)
 have e2:vb*dc*da < vc*db*da:=Int.mul_lt_mul_of_pos_right h2 ha
 have e3:vb*da*dc=vb*dc*da:=Int.mul_right_comm ..
 have e4:va*db*dc=va*dc*db:=Int.mul_right_comm ..
 have e5:vc*db*da=vc*da*db:=Int.mul_right_comm ..
 refine Int.lt_of_mul_lt_mul_right (a:=db) ?_ (Int.le_of_lt hb)
 omega
theorem Go {vs had:List Int} {st:Int} {R:Int->Int->Prop} (pos:∀x:Int,0 < 1+st*had.getD x.toNat 0):∀(xs:List Int) (b:Int) (S:List Int),b∈S->(∀y∈S,y≠b->Bt vs had st R b y)->(∀y∈S,∀x∈xs,R y x)->xs.Pairwise R ->
 ∀y,(y∈S\/y∈xs)->y≠BM vs had st b xs->Bt vs had st R (BM vs had st b xs) y
 | [],b,S,bm,hb,_,_,y,m,n=>by
   rcases m with m | m
   ·exact hb y m n
   ·exact nomatch m
 | x :: xs,b,S,bm,hb,hR,pw,y,m,n=>by
   have step:BM vs had st b (x :: xs)=BM vs had st (if GE vs had st b x=true then x else b) xs:=rfl
   rw [step] at n ⊢
   have pw':=List.pairwise_cons.mp pw
   refine Go pos xs _ (S++[x]) ?_ ?_ ?_ pw'.2 y ?_ n
   ·by_cases c:GE vs had st b x=true
    ·rw [if_pos c];exact List.mem_append_right _ (List.mem_singleton_self _)
    ·rw [if_neg c];exact List.mem_append_left _ bm
   ·intro z zm zn
    by_cases c:GE vs had st b x=true
    ·rw [if_pos c] at zn ⊢
     have c':=of_decide_eq_true c
     rcases List.mem_append.mp zm with zm | zm
     ·refine .inl ?_
      by_cases e:z=b
      ·rw [e];exact c'
      ·refine N3 (pos b) (pos x) (pos z) ?_ c'
       rcases hb z zm e with k | k
       ·omega
       ·omega
     ·exact absurd (List.mem_singleton.mp zm) zn
    ·rw [if_neg c] at zn ⊢
     rcases List.mem_append.mp zm with zm | zm
     ·exact hb z zm zn
     ·rw [List.mem_singleton.mp zm]
      have c':¬ (vs.getD b.toNat 0*(1+st*had.getD x.toNat 0) < vs.getD x.toNat 0*(1+st*had.getD b.toNat 0)):=fun e=>c (decide_eq_true e)
      unfold Bt
      rcases (by omega:vs.getD x.toNat 0*(1+st*had.getD b.toNat 0) < vs.getD b.toNat 0*(1+st*had.getD x.toNat 0)\/vs.getD x.toNat 0*(1+st*had.getD b.toNat 0)=vs.getD b.toNat 0*(1+st*had.getD x.toNat 0)) with k | k
      ·exact .inl k
      ·exact .inr ⟨k,hR b bm x (List.mem_cons_self ..)⟩
   ·intro z zm w wm
    rcases List.mem_append.mp zm with zm | zm
    ·exact hR z zm w (List.mem_cons_of_mem _ wm)
    ·rw [List.mem_singleton.mp zm];exact pw'.1 w wm
   ·rcases m with m | m
    ·exact .inl (List.mem_append_left _ m)
    ·rcases List.mem_cons.mp m with m | m
     ·exact .inl (List.mem_append_right _ (by rw [m];exact List.mem_singleton_self _))
     ·exact .inr m
theorem Nb {vs ns had:List Int} {l st:Int} {R:Int->Int->Prop} (pos:∀x:Int,0 < 1+st*had.getD x.toNat 0) (pw:ns.Pairwise R) {y:Int} (m:y∈A6 vs ns l) (n:y≠Br vs ns had l st):Bt vs had st R (Br vs ns had l st) y:=by
 have pt:(A6 vs ns l).Pairwise R:=pw.sublist List.filter_sublist
 unfold Br at n ⊢
 split at n
 ·rename_i e;rw [e] at m;exact nomatch m
 ·rename_i b r e
  have eb:BM vs had st b (b :: r)=BM vs had st b r:=by
   show BM vs had st (if GE vs had st b b=true then b else b) r=_
   rw [ite_self]
  rw [e] at m pt
  rw [eb] at n ⊢
  have pt':=List.pairwise_cons.mp pt
  refine Go pos r b [b] (List.mem_singleton_self _) (fun z zm zn=>absurd (List.mem_singleton.mp zm) zn) (fun z zm x xm=>by rw [List.mem_singleton.mp zm];exact pt'.1 x xm) pt'.2 y ?_ n
  rcases List.mem_cons.mp m with m | m
  ·exact .inl (by rw [m];exact List.mem_singleton_self _)
  ·exact .inr m
theorem NJ {ns:List Int} (nd:ns.Nodup):ns.Pairwise fun x y=>ns.idxOf x < ns.idxOf y:=by
 rw [List.pairwise_iff_getElem]
 intro i j hi hj ij
 rw [nd.idxOf_getElem i hi,nd.idxOf_getElem j hj]
 exact ij
theorem GZ {vs ns:List Int} {l st:Int} {h:Nat} {R:Int->Int->Prop} (st1:1<=st) (l1:1<=l) (pw:ns.Pairwise R) (inr:∀x∈ns,0<=x/\x < h) (ne:A6 vs ns l≠[]) :
 ∀(k:Nat) (one other:Int),one∈A6 vs ns l->other∈A6 vs ns l->one≠other->0 < (Av vs ns l st h k).getD one.toNat 0 ->
  vs.getD other.toNat 0*(1+st*((Av vs ns l st h k).getD one.toNat 0 - 1)) < vs.getD one.toNat 0*(1+st*(Av vs ns l st h k).getD other.toNat 0) \/
  (vs.getD other.toNat 0*(1+st*((Av vs ns l st h k).getD one.toNat 0 - 1))=vs.getD one.toNat 0*(1+st*(Av vs ns l st h k).getD other.toNat 0)/\R one other):=by
 have ih:∀k,0<=Br vs ns (Av vs ns l st h k) l st/\Br vs ns (Av vs ns l st h k) l st < h:=fun k=>inr _ (Cr (Ed ne)).1
 have pos:∀k,∀x:Int,0 < 1+st*(Av vs ns l st h k).getD x.toNat 0:=fun k x=>by
  have:=Int.mul_nonneg (show 0<=st by omega) (Fv ih k x.toNat).1
  omega
 intro k
 induction k with
 | zero =>
   intro one other _ _ _ z
   have e:(Av vs ns l st h 0).getD one.toNat 0=0:=by
    show (List.replicate h (0:Int)).getD one.toNat 0=0
    rw [List.getD_eq_getElem?_getD,List.getElem?_replicate]
    split <;> rfl
   omega
 | succ k hk =>
   intro one other om tm ne' z
   have pm:=Ed (had:=Av vs ns l st h k) (st:=st) ne
   have best:=fun (y:Int) (m:y∈A6 vs ns l) (n:y≠Br vs ns (Av vs ns l st h k) l st)=>Nb (pos k) pw m n
   have pr:=ih k
   have e:∀x:Int,0<=x->(Av vs ns l st h (k+1)).getD x.toNat 0=if Br vs ns (Av vs ns l st h k) l st=x then (Av vs ns l st h k).getD x.toNat 0+1 else (Av vs ns l st h k).getD x.toNat 0:=fun x x0=>by
    show (GQ _ _).getD x.toNat 0=_
    unfold GQ
    rw [GV (by rw [BG];omega)]
    by_cases c:Br vs ns (Av vs ns l st h k) l st=x
    ·rw [if_pos (by rw [c]),if_pos c,c]
    ·rw [if_neg (by omega),if_neg c]
   have o0:=(inr _ (Cr om).1).1
   have t0:=(inr _ (Cr tm).1).1
   have v1:1<=vs.getD one.toNat 0:=by have:=(Cr om).2;omega
   rw [e one o0] at z ⊢
   rw [e other t0]
   have hk':=hk one other om tm ne'
   generalize Br vs ns (Av vs ns l st h k) l st=p at pm best pr z hk' ⊢
   by_cases c1:p=one
   ·subst c1
    rw [if_pos rfl,if_neg (fun w=>ne' w)]
    have b:=best other tm (Ne.symm ne')
    unfold Bt at b
    rw [Int.add_sub_cancel]
    exact b
   ·rw [if_neg c1] at z ⊢
    have h2:=hk' z
    by_cases c2:p=other
    ·rw [if_pos c2]
     refine .inl ?_
     have s:vs.getD one.toNat 0*(1+st*(Av vs ns l st h k).getD other.toNat 0) < vs.getD one.toNat 0*(1+st*((Av vs ns l st h k).getD other.toNat 0+1)):=by
      refine Int.mul_lt_mul_of_pos_left ?_ (by omega)
      rw [Int.mul_add,Int.mul_one]
      omega
     rcases h2 with h2 | h2
     ·omega
     ·omega
    ·rw [if_neg c2]
     exact h2
theorem C5 {n:Nat} {x:Int}:x∈ups n↔0<=x/\x < n:=by
 unfold ups
 rw [List.mem_map]
 constructor
 ·rintro ⟨i,m,rfl⟩
  have:=List.mem_range.mp m
  omega
 ·rintro ⟨h0,h1⟩
  exact ⟨x.toNat,List.mem_range.mpr (by omega),by omega⟩
theorem OH (n:Nat):(ups n).Nodup:=by
 unfold ups
 rw [List.nodup_iff_pairwise_ne,List.pairwise_map]
 exact List.nodup_range.imp fun h e=>h (by omega)
theorem DY {vs ns:List Int} {l:Int} {n:Nat} (pm:ns.Perm (ups n)):A6 vs ns l=[]↔∀j < n,vs.getD j 0 < l:=by
 unfold A6
 rw [List.filter_eq_nil_iff]
 constructor
 ·intro h j hj
  have:=h (j:Int) (pm.mem_iff.mpr (C5.mpr ⟨by omega,by omega⟩))
  rw [Int.toNat_natCast] at this
  have:=of_decide_eq_false (by simpa using this:decide (l<=vs.getD j 0)=false)
  omega
 ·intro h x m
  obtain ⟨x0,x1⟩:=C5.mp (pm.mem_iff.mp m)
  have:=h x.toNat (by omega)
  rw [decide_eq_false (by omega)]
  decide
theorem Qk {vs ns:List Int} {l st:Int} {h:Nat} (ih:∀k,0<=Br vs ns (Av vs ns l st h k) l st/\Br vs ns (Av vs ns l st h k) l st < h) (k:Nat):((List.range h).map fun j:Nat=>(((Dt vs ns l st h k).count (j:Int):Nat):Int))=Av vs ns l st h k:=by
 refine List.ext_getElem? fun j=>?_
 rw [List.getElem?_map]
 by_cases c:j < h
 ·rw [List.getElem?_range c]
  have e:=EE ih k j c
  rw [List.getD_eq_getElem?_getD] at e
  have hl:j < (Av vs ns l st h k).length:=by rw [BG];exact c
  rw [List.getElem?_eq_getElem hl] at e ⊢
  exact congrArg some e.symm
 ·rw [List.getElem?_eq_none (by rw [List.length_range];omega),List.getElem?_eq_none (by rw [BG];omega)]
  rfl
theorem NF {vs ns:List Int} {l st:Int} {h:Nat}:((List.range h).map fun j:Nat=>(((Dt vs ns l st h 0).count (j:Int):Nat):Int))=Av vs ns l st h 0:=by
 show _=List.replicate h 0
 refine List.eq_replicate_iff.mpr ⟨by rw [List.length_map,List.length_range],fun b m=>?_⟩
 obtain ⟨j,_,rfl⟩:=List.mem_map.mp m
 rfl
noncomputable def FP (H:Hp) (ys:List V) (vs had:List Int) (l st:Int) (j:Nat):Prop:=(vs.getD j 0 < l/\ys[j]?=some .non) \/
 (l<=vs.getD j 0/\∃p,ys[j]?=some (.ref p)/\H p=some (.tup [.int (DX (vs.getD j 0) (1+st*had.getD j 0)),.int (DE (vs.getD j 0) (1+st*had.getD j 0))]))
theorem FP.push {H H':Hp} {ys:List V} {y:V} {vs had:List Int} {l st:Int} {j:Nat} (keep:∀p xs,H p=some (.tup xs)->H' p=some (.tup xs)) (hj:j < ys.length) (m:FP H ys vs had l st j):FP H' (ys++[y]) vs had l st j:=by
 unfold FP at m ⊢
 rw [List.getElem?_append_left hj]
 exact m.imp id fun ⟨z,p,k1,k2⟩=>⟨z,p,k1,keep _ _ k2⟩
noncomputable def E2 (H:Hp) (a:Addr) (vs had:List Int) (l st:Int) (h:Nat):Prop:=∃ys:List V,H a=some (.lst ys)/\ys.length=h/\∀j < h,FP H ys vs had l st j
theorem E2.same {H H':Hp} {a:Addr} {vs had:List Int} {l st:Int} {h:Nat} (e:A0 H H') (m:E2 H a vs had l st h):E2 H' a vs had l st h:=by
 obtain ⟨ys,m1,m2,m3⟩:=m
 exact ⟨ys,e _ _ m1,m2,fun j hj=>(m3 j hj).imp id fun ⟨z,p,k1,k2⟩=>⟨z,p,k1,e _ _ k2⟩⟩
theorem E2.upd {H:Hp} {a D:Addr} {o:HO} {zs:List V} {vs had:List Int} {l st:Int} {h:Nat} (e:H D=some (.lst zs)) (n:a≠D) (m:E2 H a vs had l st h):E2 (L2.upd H D o) a vs had l st h:=by
 obtain ⟨ys,m1,m2,m3⟩:=m
 refine ⟨ys,by rw [Ay n];exact m1,m2,fun j hj=>(m3 j hj).imp id fun ⟨z,p,k1,k2⟩=>⟨z,p,k1,?_⟩⟩
 rw [Ay (Ds k2 e (fun z=>nomatch z))]
 exact k2
noncomputable def GP (H:Hp) (r:Addr) (vs ns:List Int) (l st:Int) (h k:Nat):Prop:=∃ms:List (Addr × Addr),H r=some (.lst (ms.map fun q=>V.ref q.1))/\ms.length=k /\
 ∀i q,ms[i]?=some q->H q.1=some (.tup [.ref q.2,.int (Br vs ns (Av vs ns l st h i) l st)])/\E2 H q.2 vs (Av vs ns l st h i) l st h
theorem GP.same {H H':Hp} {r:Addr} {vs ns:List Int} {l st:Int} {h k:Nat} (e:A0 H H') (m:GP H r vs ns l st h k):GP H' r vs ns l st h k:=by
 obtain ⟨ms,m1,m2,m3⟩:=m
 exact ⟨ms,e _ _ m1,m2,fun i q hq=>⟨e _ _ (m3 i q hq).1,(m3 i q hq).2.same e⟩⟩
noncomputable def many (vs ns:List Int) (l:Int) (s:Nat):Nat:=if A6 vs ns l=[] then 0 else s
noncomputable def P7 (H:Hp) (p:Addr) (vs ns:List Int) (l st:Int) (h s:Nat):Prop:=∃v r,H p=some (.tup [.ref v,.int l,.ref r])/\H v=some (.lst (vs.map V.int))/\GP H r vs ns l st h (many vs ns l s)
structure GC (vs ns:List Int) (l st:Int) (h s:Nat):Prop where
 perm:ns.Perm (ups h)
 len:vs.length=h+1
 h1:1<=h
 h12:h<=12
 s1:1<=s
 s60:s<=60
 st1:1<=st
 st9:st<=9
 l1:1<=l
 big:∀j,0<=vs.getD j 0/\vs.getD j 0 < 10 ^ 18
theorem GC.pk {vs ns:List Int} {l st:Int} {h s:Nat} (S:GC vs ns l st h s) (ne:A6 vs ns l≠[]) (k:Nat):0<=Br vs ns (Av vs ns l st h k) l st/\Br vs ns (Av vs ns l st h k) l st < h:=C5.mp (S.perm.mem_iff.mp (Cr (Ed ne)).1)
inductive PQ (C:Addr) (vs:List V) (H:Hp) (Q:VK) (E:XK):Prop
 | mk (a:Addr) (h s st u v:Int) (ns:List Int) (n l k:Int):vs=[.ref a,.int n,.int l,.int k]->IsL C H a h s st u v ns->1<=st->st<=9->0<=k->Sz 64 n->Sz 64 k->(n < l->Q .non H)->(l<=n->∀(p:Addr) (H':Hp),A0 H H'->H' p=some (.tup [.int (DX n (1+st*k)),.int (DE n (1+st*k))])->Q (.ref p) H')->PQ C vs H Q E
inductive Jf (C:Addr) (vs:List V) (H:Hp) (Q:VK) (E:XK):Prop
 | mk (a b d:Addr) (h s:Nat) (st u v:Int) (ns xs had:List Int) (l:Int):vs=[.ref a,.ref b,.int l,.ref d]->IsL C H a h s st u v ns->GC xs ns l st h s->H b=some (.lst (xs.map V.int))->H d=some (.lst (had.map V.int))->had.length=h->(∀j,0<=had.getD j 0/\had.getD j 0<=60)->(∀(m:Addr) (H':Hp),H m=none->A0 H H'->E2 H' m xs had l st h->Q (.ref m) H')->Jf C vs H Q E
inductive Ih (C:Addr) (vs:List V) (H:Hp) (Q:VK) (E:XK):Prop
 | mk (a m:Addr) (h s:Nat) (st u v:Int) (ns xs had:List Int) (l:Int):vs=[.ref a,.ref m]->IsL C H a h s st u v ns->GC xs ns l st h s->E2 H m xs had l st h->(∀j,0<=had.getD j 0/\had.getD j 0<=60)->A6 xs ns l≠[]->(∀H':Hp,A0 H H'->Q (.int (Br xs ns had l st)) H')->Ih C vs H Q E
inductive KY (C:Addr) (vs:List V) (H:Hp) (Q:VK) (E:XK):Prop
 | mk (a b:Addr) (h s:Nat) (st u v:Int) (ns xs:List Int) (l:Int):vs=[.ref a,.ref b,.int l]->IsL C H a h s st u v ns->GC xs ns l st h s->H b=some (.lst (xs.map V.int))->A6 xs ns l≠[]->(∀(r:Addr) (H':Hp),H r=none->A0 H H'->GP H' r xs ns l st h s->Q (.ref r) H')->KY C vs H Q E
inductive Lc (C:Addr) (vs:List V) (H:Hp) (Q:VK) (E:XK):Prop
 | mk (a p:Addr) (h s:Nat) (st u v:Int) (ns xs:List Int) (l:Int):vs=[.ref a,.ref p]->IsL C H a h s st u v ns->GC xs ns l st h s->P7 H p xs ns l st h s->(∀(r:Addr) (H':Hp),H r=none->A0 H H'->H' r=some (.lst ((Av xs ns l st h (many xs ns l s)).map V.int))->Q (.ref r) H')->Lc C vs H Q E
inductive M0 (K:PySem.W.Frag) (vs:List V) (H:Hp) (Q:VK) (E:XK):Prop
 | mk (p r:Addr) (t b u c:Int):vs=[.ref p,.ref r]->SqT K H p [.int t,.int b]->SqT K H r [.int u,.int c]->Sz 2000 t->Sz 2000 b->Sz 2000 u->Sz 2000 c->Q (.bl (decide (t*c < u*b))) H->M0 K vs H Q E
inductive Jg (vs:List V) (H:Hp) (Q:VK) (E:XK):Prop
 | mk (c k m:Int):vs=[.int c,.int k,.int m]->Sz 200 c->0<=k->k<=100->0<=m->m < 4->(∀(z:Int) (H':Hp),A0 H H'->1<=z->z<=1000000000->Q (.int z) H')->Jg vs H Q E
noncomputable def Ll (B:Int) (kvs:List (List Key × V)):Prop:=∀q∈kvs,∀n:Int,q.2=.int n->1<=n/\n<=B
theorem Ll.put {B B':Int} {kvs:List (List Key × V)} {k:List Key} {n:Int} (g:Ll B kvs) (h:B<=B') (n0:1<=n) (n1:n<=B'):Ll B' (Bj kvs k (.int n)):=by
 intro q m z e
 unfold Bj at m
 split at m
 ·obtain ⟨p,pm,rfl⟩:=List.mem_map.mp m
  split at e
  ·cases e;exact ⟨n0,n1⟩
  ·have:=g p pm z e
   omega
 ·rcases List.mem_append.mp m with m | m
  ·have:=g q m z e
   omega
  ·rw [List.mem_singleton.mp m] at e
   cases e
   exact ⟨n0,n1⟩
theorem Ll.val {B:Int} {kvs:List (List Key × V)} {k:List Key} {n:Int} (g:Ll B kvs) (e:Bn kvs k=some (.int n)):1<=n/\n<=B:=by
 unfold Bn at e
 obtain ⟨q,hq,e⟩:=Option.map_eq_some_iff.mp e
 exact g q (List.mem_of_find?_eq_some hq) n e
noncomputable def JZ (ls:Ls):Prop:=∀q∈ls,1<=q.2.2.2/\q.2.2.2<=60000000000
noncomputable def EV (ls:Ls):Prop:=∀q∈ls,0<=q.2.2.2/\q.2.2.2<=100000000000000
theorem JZ.l {ls:Ls} (n:JZ ls):EV ls:=fun q m=>⟨by have:=(n q m).1;omega,by have:=(n q m).2;omega⟩
inductive La (K:PySem.W.Frag) (vs:List V) (H:Hp) (Q:VK) (E:XK):Prop
 | mk (p:Addr) (ns:List Int) (k h:Int):vs=[.ref p,.int k,.int h]->SqL K H p (ns.map V.int)->ns.length<=63->k=3->1<=h->h<=12->(∀(l:Addr) (ls:Ls) (H':Hp),A0 H H'->H' l=some (.lst (vls ls))->BA h.toNat H' ls->ls.length<=60->JZ ls->(ls.map fun q=>q.2.2.1).Nodup->Q (.ref l) H')->La K vs H Q E
noncomputable def total (ls:Ls):Int:=(ls.map fun q=>q.2.2.2).sum
theorem Ja {h:Nat}:∀{ls:Ls} {vs:List Int},EV ls->(∀v∈vs,0<=v)->∀v∈ls.foldl (Fq h) vs,0<=v
 | [],_,_,p=>p
 | q :: r,vs,n,p=>by
   refine Ja (ls:=r) (fun x m=>n x (List.mem_cons_of_mem _ m)) fun v m=>?_
   unfold Fq at m
   rcases List.mem_or_eq_of_mem_set m with m | m
   ·exact p v m
   ·rw [m]
    have a:=(n q (List.mem_cons_self ..)).1
    have b:0<=vs.getD (pl h q.2.2.1) 0:=by
     rw [List.getD_eq_getElem?_getD]
     cases e:vs[pl h q.2.2.1]? with
     | none=>exact Int.le_refl _
     | some z=>exact p z (List.mem_of_getElem? e)
    omega
theorem NP:∀{vs:List Int},(∀v∈vs,0<=v)->∀v∈vs,v<=vs.sum
 | x :: r,p,v,m=>by
   have s:0<=r.sum:=by
    have:∀{l:List Int},(∀v∈l,0<=v)->0<=l.sum:=by
     intro l
     induction l with
     | nil=>intro _;exact Int.le_refl _
     | cons y l ih=>intro k;rw [List.sum_cons];have:=k y (List.mem_cons_self ..);have:=ih fun z m=>k z (List.mem_cons_of_mem _ m);omega
    exact this fun z m=>p z (List.mem_cons_of_mem _ m)
   rw [List.sum_cons]
   rcases List.mem_cons.mp m with m | m
   ·omega
   ·have:=NP (fun z m=>p z (List.mem_cons_of_mem _ m)) v m
    have:=p x (List.mem_cons_self ..)
    omega
theorem FN:∀{ls:Ls},EV ls->0<=total ls/\total ls<=100000000000000*(ls.length:Int)
 | [],_=>⟨Int.le_refl _,Int.le_refl _⟩
 | q :: r,n=>by
   have ih:=FN (ls:=r) fun x m=>n x (List.mem_cons_of_mem _ m)
   have a:=n q (List.mem_cons_self ..)
   unfold total at ih ⊢
   rw [List.map_cons,List.sum_cons,List.length_cons]
   push_cast
   omega
theorem Lf {h:Nat} {ls:Ls} (n:EV ls) (l60:ls.length<=125) (j:Nat):0<=(Au h ls).getD j 0/\(Au h ls).getD j 0 < 10 ^ 18:=by
 have p:∀v∈Au h ls,0<=v:=Ja n fun v m=>by rw [(List.mem_replicate.mp m).2];exact Int.le_refl _
 have t:=FN n
 have s:(Au h ls).sum=total ls:=Nn h ls
 rw [List.getD_eq_getElem?_getD]
 cases e:(Au h ls)[j]? with
 | none=>exact ⟨Int.le_refl _,by decide⟩
 | some z =>
   have a:=p z (List.mem_of_getElem? e)
   have b:=NP p z (List.mem_of_getElem? e)
   refine ⟨a,?_⟩
   show z < 10 ^ 18
   omega
noncomputable def Aj (u v:Int) (ls:Ls):Int:=max 1 (-((-(u*total ls)).fdiv v))
theorem Pm {ns:List Int} {ls:Ls} {h s:Nat} {u v st:Int} (pm:ns.Perm (ups h)) (h1:1<=h) (h12:h<=12) (s1:1<=s) (s60:s<=60) (st1:1<=st) (st9:st<=9) (n:EV ls) (l60:ls.length<=125):GC (Au h ls) ns (Aj u v ls) st h s :=
 ⟨pm,EM h ls,h1,h12,s1,s60,st1,st9,Int.le_max_left ..,Lf n l60⟩
structure E1 (C:Addr) (H:Hp) (a:Addr) (h s:Nat) (st u v:Int) (ns:List Int):Prop where
 is:IsL C H a h s st u v ns
 pm:ns.Perm (ups h)
 h1:1<=h
 h12:h<=12
 s1:1<=s
 s60:s<=60
 st1:1<=st
 st9:st<=9
 u0:0<=u
 uv:u<=v
 v0:0 < v
 v9:v<=1000000000
theorem E1.same {C:Addr} {H H':Hp} {a:Addr} {h s:Nat} {st u v:Int} {ns:List Int} (e:A0 H H') (m:E1 C H a h s st u v ns):E1 C H' a h s st u v ns :=
 ⟨m.is.same e,m.pm,m.h1,m.h12,m.s1,m.s60,m.st1,m.st9,m.u0,m.uv,m.v0,m.v9⟩
theorem E1.sane {C:Addr} {H:Hp} {a:Addr} {h s:Nat} {st u v:Int} {ns:List Int} (m:E1 C H a h s st u v ns) {ls:Ls} (n:EV ls) (l60:ls.length<=125):GC (Au h ls) ns (Aj u v ls) st h s:=Pm m.pm m.h1 m.h12 m.s1 m.s60 m.st1 m.st9 n l60
inductive Ie (vs:List V) (H:Hp) (Q:VK) (E:XK):Prop
 | mk (l:Addr) (ls:Ls) (h:Nat):vs=[.ref l]->H l=some (.lst (vls ls))->BA h H ls->ls.length<=125->(∀H':Hp,A0 H H'->Q (.int (total ls)) H')->Ie vs H Q E
inductive Ig (C:Addr) (vs:List V) (H:Hp) (Q:VK) (E:XK):Prop
 | mk (a l:Addr) (h s:Nat) (st u v:Int) (ns:List Int) (ls:Ls):vs=[.ref a,.ref l]->E1 C H a h s st u v ns->H l=some (.lst (vls ls))->BA h H ls->ls.length<=125->EV ls->(∀(p:Addr) (H':Hp),H p=none->A0 H H'->P7 H' p (Au h ls) ns (Aj u v ls) st h s->Q (.ref p) H')->Ig C vs H Q E
noncomputable def A8 (ls:Ls) (ns:List Int) (u v st:Int) (h s:Nat):List Int:=Av (Au h ls) ns (Aj u v ls) st h (many (Au h ls) ns (Aj u v ls) s)
inductive Jh (C:Addr) (vs:List V) (H:Hp) (Q:VK) (E:XK):Prop
 | mk (a l:Addr) (h s:Nat) (st u v:Int) (ns:List Int) (ls:Ls):vs=[.ref a,.ref l]->E1 C H a h s st u v ns->H l=some (.lst (vls ls))->BA h H ls->ls.length<=125->EV ls->(∀(r:Addr) (H':Hp),H r=none->A0 H H'->H' r=some (.lst ((A8 ls ns u v st h s).map V.int))->Q (.ref r) H')->Jh C vs H Q E
noncomputable def BB (f:Nat->Int):Nat->Int
 | 0=>0
 | m+1=>BB f m+f m
theorem DL {f g:Nat->Int}:∀{m},(∀j < m,f j=g j)->BB f m=BB g m
 | 0,_=>rfl
 | m+1,h=>by
   show BB f m+f m=BB g m+g m
   rw [DL (m:=m) fun j hj=>h j (by omega),h m (by omega)]
theorem Jk {f:Nat->Int} {n:Nat}:∀m,BB (fun j=>if n=j then f j+1 else f j) m=BB f m+if n < m then 1 else 0
 | 0=>by show (0:Int)=0+_;rw [if_neg (by omega)];rfl
 | m+1=>by
   show BB _ m+(if n=m then f m+1 else f m)=BB f m+f m+_
   rw [Jk m]
   by_cases c:n=m
   ·rw [if_pos c,if_neg (by omega),if_pos (by omega)];omega
   ·rw [if_neg c]
    by_cases d:n < m
    ·rw [if_pos d,if_pos (by omega)];omega
    ·rw [if_neg d,if_neg (by omega)];omega
theorem Kn {vs ns:List Int} {l st:Int} {h:Nat} (ih:∀k,0<=Br vs ns (Av vs ns l st h k) l st/\Br vs ns (Av vs ns l st h k) l st < h) (k j:Nat):(Av vs ns l st h (k+1)).getD j 0=if (Br vs ns (Av vs ns l st h k) l st).toNat=j then (Av vs ns l st h k).getD j 0+1 else (Av vs ns l st h k).getD j 0:=by
 show (GQ _ _).getD j 0=_
 unfold GQ
 have:=ih k
 rw [GV (by rw [BG];omega)]
 by_cases c:(Br vs ns (Av vs ns l st h k) l st).toNat=j
 ·rw [if_pos c,if_pos c,c]
 ·rw [if_neg c,if_neg c]
theorem GG {vs ns:List Int} {l st:Int} {h:Nat} (ih:∀k,0<=Br vs ns (Av vs ns l st h k) l st/\Br vs ns (Av vs ns l st h k) l st < h):∀k,BB (fun j=>(Av vs ns l st h k).getD j 0) h=k
 | 0=>by
   have:∀m,BB (fun j=>(Av vs ns l st h 0).getD j 0) m=0:=fun m=>by
    induction m with
    | zero=>rfl
    | succ m hm =>
      show BB _ m+(List.replicate h (0:Int)).getD m 0=0
      rw [hm,List.getD_eq_getElem?_getD,List.getElem?_replicate]
      split <;> rfl
   exact this h
 | k+1=>by
   rw [DL fun j _=>Kn ih k j,Jk,GG ih k,if_pos (by have:=ih k;omega)]
   push_cast
   rfl
theorem never {vs ns:List Int} {l st:Int} {h:Nat} (ne:A6 vs ns l≠[]) (ih:∀k,0<=Br vs ns (Av vs ns l st h k) l st/\Br vs ns (Av vs ns l st h k) l st < h) {x:Int} (x0:0<=x) (out:vs.getD x.toNat 0 < l):∀k,(Av vs ns l st h k).getD x.toNat 0=0
 | 0=>by
   show (List.replicate h (0:Int)).getD x.toNat 0=0
   rw [List.getD_eq_getElem?_getD,List.getElem?_replicate]
   split <;> rfl
 | k+1=>by
   rw [Kn ih k,if_neg,never ne ih x0 out k]
   intro e
   have m:=(Cr (Ed (had:=Av vs ns l st h k) (st:=st) ne)).2
   rw [e] at m
   omega
theorem Me (vs ns:List Int) (l st:Int) (h j:Nat):(Av vs ns l st h 0).getD j 0=0:=by
 show (List.replicate h (0:Int)).getD j 0=0
 rw [List.getD_eq_getElem?_getD,List.getElem?_replicate]
 split <;> rfl
abbrev Cs:=Fin 4 × Option Int × Option Int × Int
noncomputable def wd (i:Fin 4):Str:=if i=0 then "fall" else if i=1 then "pass" else if i=2 then "rise" else "open"
theorem R8:∀a b:Fin 4,(wd a == wd b)=decide (a=b):=by decide +kernel
noncomputable def ov:Option Int->V
 | none=>.non
 | some n=>.int n
noncomputable def cv (c:Cs):List V:=[.str (wd c.1),ov c.2.1,ov c.2.2.1,.int c.2.2.2]
noncomputable def mnI (a b:Int):Int:=if b < a then b else a
noncomputable def mxI (a b:Int):Int:=if b > a then b else a
noncomputable def DW (vs out:List Int) (st:Int) (b a:Nat):Int:=vs.getD b 0*(1+st*out.getD a 0) - vs.getD a 0*(1+st*(out.getD b 0 - 1))
noncomputable def CZ (out:List Int) (st:Int) (b a:Nat):Int:=(1+st*out.getD a 0)+(1+st*(out.getD b 0 - 1))
noncomputable def D7 (vs out xs:List Int) (st:Int) (b a:Nat):Int:=if xs.idxOf (a:Int) < xs.idxOf (b:Int) then -((-DW vs out st b a).fdiv (CZ out st b a)) else (DW vs out st b a).fdiv (CZ out st b a)+1
noncomputable def D8 (vs out xs:List Int) (st l:Int) (b a:Nat):Cs:=(1,some (b:Int),some (a:Int),mxI (l - vs.getD a 0) (mnI (vs.getD b 0 - l+1) (D7 vs out xs st b a)))
noncomputable def EH (h b:Nat):List Nat:=(List.range h).filter fun a=>decide (a≠b)
noncomputable def ES (vs out xs:List Int) (st l:Int) (h b:Nat):List Cs:=(0,some (b:Int),none,vs.getD b 0 - l+1) :: (EH h b).map (D8 vs out xs st l b)
noncomputable def Jc (vs:List Int) (l:Int) (h:Nat):List Cs:=(List.range h).map fun a:Nat=>(2,none,some (a:Int),l - vs.getD a 0)
noncomputable def AV (out:List Int) (h:Nat):List Nat:=(List.range h).filter fun b=>decide (0 < out.getD b 0)
noncomputable def AF (vs out xs:List Int) (st l:Int) (h:Nat):List Cs:=if AV out h=[] then Jc vs l h else (AV out h).flatMap (ES vs out xs st l h)
theorem Gz (h b:Nat):EH (h+1) b=EH h b++(if h≠b then [h] else []):=by
 unfold EH
 rw [List.range_succ,List.filter_append]
 by_cases c:h≠b
 ·rw [if_pos c,List.filter_cons_of_pos (by exact decide_eq_true c)];rfl
 ·rw [if_neg c,List.filter_cons_of_neg (by rw [decide_eq_false c];exact Bool.false_ne_true)];rfl
theorem G3 (out:List Int) (h:Nat):AV out (h+1)=AV out h++(if 0 < out.getD h 0 then [h] else []):=by
 unfold AV
 rw [List.range_succ,List.filter_append]
 by_cases c:0 < out.getD h 0
 ·rw [if_pos c,List.filter_cons_of_pos (by exact decide_eq_true c)];rfl
 ·rw [if_neg c,List.filter_cons_of_neg (by rw [decide_eq_false c];exact Bool.false_ne_true)];rfl
theorem Hr (h b:Nat):(EH h b).length<=h:=Nat.le_trans (List.length_filter_le ..) (by rw [List.length_range];exact Nat.le_refl _)
theorem Ia (out:List Int) (h:Nat):(AV out h).length<=h:=Nat.le_trans (List.length_filter_le ..) (by rw [List.length_range];exact Nat.le_refl _)
theorem FT (vs out xs:List Int) (st l:Int) (h b:Nat):(ES vs out xs st l h b).length<=h+1:=by
 unfold ES
 rw [List.length_cons,List.length_map]
 exact Nat.succ_le_succ (Hr h b)
theorem GU {f:Nat->List Cs} {m:Nat}:∀{bs:List Nat},(∀b∈bs,(f b).length<=m)->(bs.flatMap f).length<=m*bs.length
 | [],_=>Nat.zero_le _
 | b :: r,k=>by
   rw [List.flatMap_cons,List.length_append,List.length_cons,Nat.mul_succ]
   have:=k b (List.mem_cons_self ..)
   have:=GU (bs:=r) fun x m=>k x (List.mem_cons_of_mem _ m)
   omega
theorem N1 {vs out xs:List Int} {st l:Int} {h:Nat} (h1:1<=h):AF vs out xs st l h≠[]:=by
 unfold AF
 split
 ·unfold Jc
  intro z
  have:=congrArg List.length z
  rw [List.length_map,List.length_range] at this
  exact absurd this (by show ¬ h=0;omega)
 ·rename_i c
  obtain ⟨b,r,e⟩:=List.exists_cons_of_ne_nil c
  rw [e,List.flatMap_cons]
  intro z
  have:=congrArg List.length z
  rw [List.length_append] at this
  unfold ES at this
  rw [List.length_cons] at this
  exact absurd this (by show ¬ _+1+_=0;omega)
theorem Of {vs out xs:List Int} {st:Int} {b a:Nat} (d:0 < CZ out st b a)
 (k:vs.getD a 0*(1+st*(out.getD b 0 - 1)) < vs.getD b 0*(1+st*out.getD a 0)\/(vs.getD a 0*(1+st*(out.getD b 0 - 1))=vs.getD b 0*(1+st*out.getD a 0)/\xs.idxOf (b:Int) < xs.idxOf (a:Int))):1<=D7 vs out xs st b a:=by
 have L0:0<=DW vs out st b a:=by unfold DW;omega
 unfold D7
 split
 ·rename_i c
  have L1:0 < DW vs out st b a:=by
   rcases k with k | k
   ·unfold DW;omega
   ·omega
  generalize DW vs out st b a=L at L1 ⊢
  generalize CZ out st b a=D at d ⊢
  have e:=Int.fmod_def (-L) D
  have m:=AR (-L) d
  rcases (by omega:(-L).fdiv D<=-1\/0<=(-L).fdiv D) with z | z
  ·omega
  ·have:=Int.mul_nonneg (Int.le_of_lt d) z
   omega
 ·generalize DW vs out st b a=L at L0 ⊢
  generalize CZ out st b a=D at d ⊢
  rw [Int.fdiv_eq_ediv_of_nonneg L (by omega)]
  have:=Int.ediv_nonneg L0 (Int.le_of_lt d)
  omega
theorem JH {ls:Ls} {xs:List Int} {u v st:Int} {h s:Nat} (sn:GC (Au h ls) xs (Aj u v ls) st h s) (j:Nat):0<=(A8 ls xs u v st h s).getD j 0/\(A8 ls xs u v st h s).getD j 0<=60:=by
 unfold A8 many
 by_cases c:A6 (Au h ls) xs (Aj u v ls)=[]
 ·rw [if_pos c,Me];exact ⟨by decide,by decide⟩
 ·rw [if_neg c]
  have a:=Fv (sn.pk c) s j
  have b:=sn.s60
  omega
theorem Pb {ls:Ls} {xs:List Int} {u v st:Int} {h s:Nat} (sn:GC (Au h ls) xs (Aj u v ls) st h s) {j:Nat} (lo:(Au h ls).getD j 0 < Aj u v ls):(A8 ls xs u v st h s).getD j 0=0:=by
 unfold A8 many
 by_cases c:A6 (Au h ls) xs (Aj u v ls)=[]
 ·rw [if_pos c,Me]
 ·rw [if_neg c]
  exact never c (sn.pk c) (x:=(j:Int)) (by omega) lo s
theorem LJ {ls:Ls} {xs:List Int} {u v st:Int} {h s:Nat} (sn:GC (Au h ls) xs (Aj u v ls) st h s) (e:AV (A8 ls xs u v st h s) h=[]):A6 (Au h ls) xs (Aj u v ls)=[]:=by
 by_cases c:A6 (Au h ls) xs (Aj u v ls)=[]
 ·exact c
 ·exfalso
  have z:∀j < h,(A8 ls xs u v st h s).getD j 0=0:=fun j hj=>by
   have a:=JH sn j
   have b:¬ 0 < (A8 ls xs u v st h s).getD j 0:=fun p=>by
    have:j∈AV (A8 ls xs u v st h s) h:=List.mem_filter.mpr ⟨List.mem_range.mpr hj,decide_eq_true p⟩
    rw [e] at this
    cases this
   omega
  have t:BB (fun j=>(A8 ls xs u v st h s).getD j 0) h=(s:Int):=by
   unfold A8 many
   rw [if_neg c]
   exact GG (sn.pk c) s
  rw [DL (g:=fun _=>0) z] at t
  have:∀m,BB (fun _=>(0:Int)) m=0:=fun m=>by
   induction m with
   | zero=>rfl
   | succ m ih=>show BB _ m+0=0;rw [ih];rfl
  rw [this] at t
  have:=sn.s1
  omega
theorem ME {ls:Ls} {xs:List Int} {u v st:Int} {h s:Nat} (sn:GC (Au h ls) xs (Aj u v ls) st h s):∀c∈AF (Au h ls) (A8 ls xs u v st h s) xs st (Aj u v ls) h,1<=c.2.2.2:=fun c m=>by
 unfold AF at m
 split at m
 ·rename_i e
  obtain ⟨a,am,rfl⟩:=List.mem_map.mp m
  have:=(DY sn.perm).mp (LJ sn e) a (List.mem_range.mp am)
  show 1<=_ - _
  omega
 ·obtain ⟨b,bm,cm⟩:=List.mem_flatMap.mp m
  obtain ⟨bh,bp⟩:=List.mem_filter.mp bm
  have bh:=List.mem_range.mp bh
  have bp:=of_decide_eq_true bp
  have bt:Aj u v ls<=(Au h ls).getD b 0:=by
   rcases (by omega:Aj u v ls<=(Au h ls).getD b 0\/(Au h ls).getD b 0 < Aj u v ls) with z | z
   ·exact z
   ·have:=Pb sn z
    omega
  rcases List.mem_cons.mp cm with rfl | cm
  ·show 1<=_ - _+1
   omega
  obtain ⟨a,am,rfl⟩:=List.mem_map.mp cm
  obtain ⟨ah,an⟩:=List.mem_filter.mp am
  have ah:=List.mem_range.mp ah
  have an:a≠b:=of_decide_eq_true an
  show 1<=mxI _ (mnI _ _)
  have inx:∀j:Nat,j < h->(j:Int)∈xs:=fun j hj=>sn.perm.mem_iff.mpr (C5.mpr ⟨by omega,by omega⟩)
  rcases (by omega:Aj u v ls<=(Au h ls).getD a 0\/(Au h ls).getD a 0 < Aj u v ls) with at_ | at_
  ·have tk:∀j:Nat,j < h->Aj u v ls<=(Au h ls).getD j 0->(j:Int)∈A6 (Au h ls) xs (Aj u v ls):=fun j hj z=>List.mem_filter.mpr ⟨inx j hj,decide_eq_true (by rw [Int.toNat_natCast];exact z)⟩
   have ne:A6 (Au h ls) xs (Aj u v ls)≠[]:=fun z=>by have:=tk b bh bt;rw [z] at this;cases this
   have eo:A8 ls xs u v st h s=Av (Au h ls) xs (Aj u v ls) st h s:=by unfold A8 many;rw [if_neg ne]
   have nd:xs.Nodup:=sn.perm.nodup_iff.mpr (OH h)
   have st1:=sn.st1
   have la:=GZ (R:=fun x y=>xs.idxOf x < xs.idxOf y) st1 sn.l1 (NJ nd) (fun x m=>C5.mp (sn.perm.mem_iff.mp m)) ne s (b:Int) (a:Int) (tk b bh bt) (tk a ah at_) (by omega) (by rw [Int.toNat_natCast,<- eo];exact bp)
   rw [Int.toNat_natCast,Int.toNat_natCast,<- eo] at la
   have p1:=Int.mul_nonneg (show 0<=st by omega) (JH sn a).1
   have p2:=Int.mul_nonneg (show 0<=st by omega) (show 0<=(A8 ls xs u v st h s).getD b 0 - 1 by omega)
   have o:=Of (vs:=Au h ls) (xs:=xs) (by unfold CZ;omega) la
   have f:1<=mnI ((Au h ls).getD b 0 - Aj u v ls+1) (D7 (Au h ls) (A8 ls xs u v st h s) xs st b a):=by unfold mnI;split <;> omega
   unfold mxI
   split <;> omega
  ·unfold mxI
   split <;> omega
theorem KL {n:Nat} (h:n<=900):n<=sizeLine:=Nat.le_of_lt (Be (by omega))
abbrev CL:=List (Addr × Cs)
noncomputable def vcl (cs:CL):List V:=cs.map fun q=>.ref q.1
noncomputable def Db (cs:CL):List Cs:=cs.map (·.2)
noncomputable def BI (H:Hp) (cs:CL):Prop:=∀q∈cs,H q.1=some (.tup (cv q.2))
theorem BI.same {H H':Hp} {cs:CL} (s:A0 H H') (g:BI H cs):BI H' cs:=fun q m=>s _ _ (g q m)
theorem BI.append {H:Hp} {a b:CL} (g:BI H a) (k:BI H b):BI H (a++b):=fun q m=>(List.mem_append.mp m).elim (g q) (k q)
theorem BI.upd {H:Hp} {cs:CL} {l:Addr} {xs:List V} {o:HO} (e:H l=some (.lst xs)) (g:BI H cs):BI (L2.upd H l o) cs:=fun q m=>by rw [Ay (Ds (g q m) e (fun z=>nomatch z))];exact g q m
theorem EQ (cs:CL):(vcl cs).length=cs.length:=List.length_map ..
theorem Fo (a b:CL):vcl (a++b)=vcl a++vcl b:=List.map_append ..
theorem DI (a b:CL):Db (a++b)=Db a++Db b:=List.map_append ..
theorem E3 (a:CL):(Db a).length=a.length:=List.length_map ..
theorem P5 {cs:CL} {i:Nat} {x:V} (h:(vcl cs)[i]?=some x):∃q,cs[i]?=some q/\x=.ref q.1/\q∈cs/\cs.take (i+1)=cs.take i++[q]:=by
 unfold vcl at h
 rw [List.getElem?_map] at h
 obtain ⟨q,e,rfl⟩:=Option.map_eq_some_iff.mp h
 exact ⟨q,e,rfl,List.mem_of_getElem? e,by rw [List.take_succ,e];rfl⟩
noncomputable def od:Option Int->PyData
 | none=>.none
 | some n=>.int n
theorem R9:∀i:Fin 4,PyData.canLay0 (.str (wd i))=true:=by decide +kernel
noncomputable def cd (c:Cs):PyData:=.tuple [.str (wd c.1),od c.2.1,od c.2.2.1,.int c.2.2.2]
theorem PM {K:PySem.W.Frag} {H:Hp}:∀o:Option Int,Rep K H (ov o) (od o)
 | none=>.non
 | some n=>.int n
theorem Oy {K:PySem.W.Frag} {H:Hp}:∀{cs:CL},BI H cs->Reps K H (vcl cs) ((Db cs).map cd)
 | [],_=>.nil
 | q :: r,g=>.cons (.tup (SqT.of (g q (List.mem_cons_self ..))) (.cons (.str _) (.cons (PM _) (.cons (PM _) (.cons (.int _) .nil))))) (Oy fun x m=>g x (List.mem_cons_of_mem _ m))
theorem Mj (o:Option Int):PyData.canLay0 (od o)=true/\PyData.depth (od o)=0:=by cases o <;> exact ⟨rfl,rfl⟩
theorem P9 (a b:Option Int):PyData.eqv (od a) (od b)=decide (a=b):=by
 cases a with
 | none=>cases b with
   | none=>rfl
   | some n=>exact (decide_eq_false (fun e=>nomatch e)).symm
 | some m=>cases b with
   | none=>exact (decide_eq_false (fun e=>nomatch e)).symm
   | some n =>
     show (m == n)=_
     by_cases c:m=n
     ·rw [c,decide_eq_true rfl];exact beq_self_eq_true n
     ·rw [decide_eq_false (fun e=>c (Option.some.inj e))];exact beq_false_of_ne c
theorem NN:∀cs:List Cs,PyData.canLayAll0 (cs.map cd)=true/\PyData.depthAll (cs.map cd)<=1
 | []=>⟨rfl,Nat.zero_le _⟩
 | c :: r=>by
   obtain ⟨h1,h2⟩:=NN r
   rw [List.map_cons]
   refine ⟨?_,?_⟩
   ·show ((PyData.canLay0 (.str (wd c.1)) && (PyData.canLay0 (od c.2.1) && (PyData.canLay0 (od c.2.2.1) && (true && true)))) && _)=true
    rw [R9,(Mj _).1,(Mj _).1,h1];rfl
   ·show max (max 0 (max (PyData.depth (od c.2.1)) (max (PyData.depth (od c.2.2.1)) (max 0 0)))+1) _<=1
    rw [(Mj _).2,(Mj _).2]
    exact Nat.max_le.mpr ⟨by decide,h2⟩
theorem N8:∀as bs:List Cs,PyData.eqv (.list (as.map cd)) (.list (bs.map cd))=decide (as=bs)
 | [],[]=>rfl
 | [],_ :: _=>(decide_eq_false (fun e=>nomatch e)).symm
 | _ :: _,[]=>(decide_eq_false (fun e=>nomatch e)).symm
 | a :: as,b :: bs=>by
   have ih:=N8 as bs
   show (((wd a.1 == wd b.1) && (PyData.eqv (od a.2.1) (od b.2.1) && (PyData.eqv (od a.2.2.1) (od b.2.2.1) && ((a.2.2.2 == b.2.2.2) && true)))) && PyData.eqv (.list (as.map cd)) (.list (bs.map cd)))=_
   rw [R8,P9,P9,ih]
   obtain ⟨a1,a2,a3,a4⟩:=a
   obtain ⟨b1,b2,b3,b4⟩:=b
   rw [Bool.eq_iff_iff]
   simp only [Bool.and_eq_true,beq_iff_eq,decide_eq_true_eq,Bool.and_true,List.cons.injEq,Prod.mk.injEq]
theorem Ox {K:PySem.W.Frag} {H:Hp} {l:Addr} {cs:CL} (e:H l=some (.lst (vcl cs))) (g:BI H cs):Rep K H (.ref l) (.list ((Db cs).map cd)):=.lst (SqL.of e) (Oy g)
noncomputable def IsM (C:Addr) (H:Hp) (g a:Addr):Prop:=∃dx,H g=some (.ins C dx [("way",.ref a)])
theorem IsM.same {C:Addr} {H H':Hp} {g a:Addr} (s:A0 H H') (m:IsM C H g a):IsM C H' g a:=let ⟨dx,h⟩:=m;⟨dx,s _ _ h⟩
theorem RO (x:V):C0 "way" x []=([("way",x)]:List (Str × V)):=rfl
noncomputable def Iw (cs:List Cs) (m:Int):Prop:=m∈cs.map (·.2.2.2)/\∀c∈cs,m<=c.2.2.2
theorem Iw.uniq {cs:List Cs} {m n:Int} (a:Iw cs m) (b:Iw cs n):m=n:=by
 obtain ⟨c,cm,ce⟩:=List.mem_map.mp a.1
 obtain ⟨d,dm,de⟩:=List.mem_map.mp b.1
 have x:=a.2 d dm
 have y:=b.2 c cm
 rw [de] at x
 rw [ce] at y
 omega
inductive FK (K:PySem.W.Frag) (vs:List V) (H:Hp) (Q:VK) (E:XK):Prop
 | mk (g C dx a:Addr):vs=[.ref g,.ref a]->H g=some (.ins C dx [])->Cls K C->B6 K C "way"->(∀H':Hp,A0 (off H g) H'->H' g=some (.ins C dx [("way",.ref a)])->Q .non H')->FK K vs H Q E
inductive KN (C:Addr) (vs:List V) (H:Hp) (Q:VK) (E:XK):Prop
 | mk (a:Addr) (h s st u v:Int) (xs:List Int) (x y:Int):vs=[.ref a,.int x,.int y]->IsL C H a h s st u v xs->x∈xs->y∈xs->Q (.bl (decide (xs.idxOf x < xs.idxOf y))) H->KN C vs H Q E
structure PX (vs out:List Int) (h:Nat):Prop where
 vl:h<=vs.length
 ol:out.length=h
 vb:∀j,0<=vs.getD j 0/\vs.getD j 0 < 10 ^ 18
 ob:∀j,0<=out.getD j 0/\out.getD j 0<=60
inductive Il (M C:Addr) (vs:List V) (H:Hp) (Q:VK) (E:XK):Prop
 | mk (g a vv oo:Addr) (h s:Nat) (st u v:Int) (ns xs out:List Int) (i j:Nat):vs=[.ref g,.ref vv,.ref oo,.int (i:Int),.int (j:Int)]->IsM M H g a->E1 C H a h s st u v ns->H vv=some (.lst (xs.map V.int))->H oo=some (.lst (out.map V.int))->PX xs out h->i < h->j < h->0 < out.getD i 0->Q (.int (D7 xs out ns st i j)) H->Il M C vs H Q E
inductive KO (M C:Addr) (vs:List V) (H:Hp) (Q:VK) (E:XK):Prop
 | mk (g a vv oo:Addr) (h s:Nat) (st u v l:Int) (ns xs out:List Int) (i:Nat):vs=[.ref g,.ref vv,.ref oo,.int l,.int (i:Int)]->IsM M H g a->E1 C H a h s st u v ns->H vv=some (.lst (xs.map V.int))->H oo=some (.lst (out.map V.int))->PX xs out h->i < h->0 < out.getD i 0->(∀(c:Addr) (cs:CL) (H':Hp),H c=none->A0 H H'->H' c=some (.lst (vcl cs))->BI H' cs->Db cs=ES xs out ns st l h i->Q (.ref c) H')->KO M C vs H Q E
inductive Mx (M C:Addr) (vs:List V) (H:Hp) (Q:VK) (E:XK):Prop
 | mk (g a l:Addr) (h s:Nat) (st u v:Int) (ns:List Int) (ls:Ls):vs=[.ref g,.ref l]->IsM M H g a->E1 C H a h s st u v ns->H l=some (.lst (vls ls))->BA h H ls->ls.length<=125->EV ls->(∀(c:Addr) (cs:CL) (H':Hp),H c=none->A0 H H'->H' c=some (.lst (vcl cs))->BI H' cs->Db cs=AF (Au h ls) (A8 ls ns u v st h s) ns st (Aj u v ls) h->Q (.ref c) H')->Mx M C vs H Q E
inductive KS (M C:Addr) (vs:List V) (H:Hp) (Q:VK) (E:XK):Prop
 | mk (g a l:Addr) (h s:Nat) (st u v:Int) (ns:List Int) (ls:Ls):vs=[.ref g,.ref l]->IsM M H g a->E1 C H a h s st u v ns->H l=some (.lst (vls ls))->BA h H ls->ls.length<=125->EV ls->(∀(t c:Addr) (cs:CL) (m:Int) (H':Hp),H c=none->A0 H H'->H' t=some (.tup [.int m,.ref c])->H' c=some (.lst (vcl cs))->BI H' cs->Db cs=AF (Au h ls) (A8 ls ns u v st h s) ns st (Aj u v ls) h->Iw (Db cs) m->1<=m->cs≠[]->cs.length<=156->Q (.ref t) H')->KS M C vs H Q E
theorem atG {xs:List Int} {n:Nat} (h:n < xs.length):atI (xs.map V.int) (n:Int)=some (.int (xs.getD n 0)):=by
 refine atN ?_
 rw [List.getD_eq_getElem?_getD,List.getElem?_eq_getElem h]
 rfl
theorem OA {f g:Nat->Int}:∀{m:Nat},BB f m=BB g m->(∃j,j < m/\f j≠g j)->(∃j,j < m/\g j < f j)/\∃j,j < m/\f j < g j:=by
 have up:∀{f g:Nat->Int} {m:Nat},(∀j,j < m->f j<=g j)->BB f m<=BB g m/\((∃j,j < m/\f j≠g j)->BB f m < BB g m):=by
  intro f g m
  induction m with
  | zero=>intro _;exact ⟨Int.le_refl _,fun ⟨j,h,_⟩=>absurd h (Nat.not_lt_zero _)⟩
  | succ m ih =>
    intro k
    obtain ⟨a,b⟩:=ih fun j h=>k j (by omega)
    have c:=k m (by omega)
    refine ⟨by show BB f m+f m<=BB g m+g m;omega,fun ⟨j,h,ne⟩=>?_⟩
    show BB f m+f m < BB g m+g m
    rcases (by omega:j=m\/j < m) with e | e
    ·rw [e] at ne
     omega
    ·have:=b ⟨j,e,ne⟩
     omega
 intro m e ne
 have n1:¬ ∀j,j < m->f j<=g j:=fun k=>by have:=(up k).2 ne;omega
 have n2:¬ ∀j,j < m->g j<=f j:=fun k=>by have:=(up k).2 (ne.imp fun j h=>⟨h.1,Ne.symm h.2⟩);omega
 refine ⟨?_,?_⟩
 ·refine Classical.byContradiction fun z=>n1 fun j h=>?_
  rcases (by omega:f j<=g j\/g j < f j) with w | w
  ·exact w
  ·exact absurd ⟨j,h,w⟩ z
 ·refine Classical.byContradiction fun z=>n2 fun j h=>?_
  rcases (by omega:g j<=f j\/f j < g j) with w | w
  ·exact w
  ·exact absurd ⟨j,h,w⟩ z
structure Np (vs ns out:List Int) (l st:Int) (h s:Nat):Prop where
 ol:out.length=h
 nn:∀j,0<=out.getD j 0
 sm:BB (fun j=>out.getD j 0) h=(s:Int)
 tk:∀b,b < h->0 < out.getD b 0->l<=vs.getD b 0
 la:∀b a,b < h->a < h->a≠b->0 < out.getD b 0->l<=vs.getD a 0->vs.getD a 0*(1+st*(out.getD b 0 - 1)) < vs.getD b 0*(1+st*out.getD a 0)\/(vs.getD a 0*(1+st*(out.getD b 0 - 1))=vs.getD b 0*(1+st*out.getD a 0)/\ns.idxOf (b:Int) < ns.idxOf (a:Int))
theorem Np.uniq {vs ns X Y:List Int} {l st:Int} {h s:Nat} (st1:1<=st) (l1:1<=l) (x:Np vs ns X l st h s) (y:Np vs ns Y l st h s):X=Y:=by
 have key:∀j,j < h->X.getD j 0=Y.getD j 0:=by
  refine Classical.byContradiction fun z=>?_
  have ne:∃j,j < h/\X.getD j 0≠Y.getD j 0:=Classical.byContradiction fun w=>z fun j hj=>Classical.byContradiction fun v=>w ⟨j,hj,v⟩
  obtain ⟨⟨o,oh,o1⟩,⟨t,th,t1⟩⟩:=OA (x.sm.trans y.sm.symm) ne
  have x0:=x.nn t
  have y0:=y.nn o
  have ot:t≠o:=fun e=>by rw [e] at t1;omega
  have ko:=x.tk o oh (by omega)
  have kt:=y.tk t th (by omega)
  have A:=x.la o t oh th ot (by omega) kt
  have B:=y.la t o th oh (Ne.symm ot) (by omega) ko
  have a1:st*Y.getD o 0<=st*(X.getD o 0 - 1):=Int.mul_le_mul_of_nonneg_left (by omega) (by omega)
  have a2:st*X.getD t 0<=st*(Y.getD t 0 - 1):=Int.mul_le_mul_of_nonneg_left (by omega) (by omega)
  have b1:vs.getD t 0*(1+st*Y.getD o 0)<=vs.getD t 0*(1+st*(X.getD o 0 - 1)):=Int.mul_le_mul_of_nonneg_left (by omega) (by omega)
  have b2:vs.getD o 0*(1+st*X.getD t 0)<=vs.getD o 0*(1+st*(Y.getD t 0 - 1)):=Int.mul_le_mul_of_nonneg_left (by omega) (by omega)
  omega
 refine List.ext_getElem? fun j=>?_
 by_cases c:j < h
 ·have:=key j c
  rw [List.getD_eq_getElem?_getD,List.getD_eq_getElem?_getD,List.getElem?_eq_getElem (by rw [x.ol];exact c),List.getElem?_eq_getElem (by rw [y.ol];exact c)] at this
  rw [List.getElem?_eq_getElem (by rw [x.ol];exact c),List.getElem?_eq_getElem (by rw [y.ol];exact c)]
  exact congrArg some this
 ·rw [List.getElem?_eq_none (by rw [x.ol];omega),List.getElem?_eq_none (by rw [y.ol];omega)]
noncomputable def Cz (vs ns:List Int) (l st:Int) (h s:Nat):List Int:=Av vs ns l st h (many vs ns l s)
theorem Ge (ls:Ls) (ns:List Int) (u v st:Int) (h s:Nat):A8 ls ns u v st h s=Cz (Au h ls) ns (Aj u v ls) st h s:=rfl
theorem EI {vs ns:List Int} {l st:Int} {h s:Nat} (e:A6 vs ns l=[]):Cz vs ns l st h s=List.replicate h 0:=by unfold Cz many;rw [if_pos e];rfl
theorem K8 (h j:Nat):(List.replicate h (0:Int)).getD j 0=0:=by
 rw [List.getD_eq_getElem?_getD,List.getElem?_replicate]
 split <;> rfl
section
variable {ns:List Int} {l st:Int} {h s:Nat}
theorem DV (pm:ns.Perm (ups h)) (st1:1<=st) (l1:1<=l) {vs:List Int} (ne:A6 vs ns l≠[]):Np vs ns (Cz vs ns l st h s) l st h s:=by
 have eo:Cz vs ns l st h s=Av vs ns l st h s:=by unfold Cz many;rw [if_neg ne]
 rw [eo]
 have inr:∀x∈ns,0<=x/\x < h:=fun x m=>C5.mp (pm.mem_iff.mp m)
 have ih:∀k,0<=Br vs ns (Av vs ns l st h k) l st/\Br vs ns (Av vs ns l st h k) l st < h:=fun k=>inr _ (Cr (Ed ne)).1
 have tk:∀j:Nat,j < h->l<=vs.getD j 0->(j:Int)∈A6 vs ns l:=fun j hj z=>List.mem_filter.mpr ⟨pm.mem_iff.mpr (C5.mpr ⟨by omega,by omega⟩),decide_eq_true (by rw [Int.toNat_natCast];exact z)⟩
 have low:∀b,b < h->0 < (Av vs ns l st h s).getD b 0->l<=vs.getD b 0:=fun b bh bp=>by
  rcases (by omega:l<=vs.getD b 0\/vs.getD b 0 < l) with z | z
  ·exact z
  ·have:=never ne ih (x:=(b:Int)) (by omega) (by rw [Int.toNat_natCast];exact z) s
   rw [Int.toNat_natCast] at this
   omega
 refine ⟨BG ..,fun j=>(Fv ih s j).1,GG ih s,low,fun b a bh ah ab bp at_=>?_⟩
 have la:=GZ (R:=fun x y=>ns.idxOf x < ns.idxOf y) st1 l1 (NJ (pm.nodup_iff.mpr (OH h))) inr ne s (b:Int) (a:Int) (tk b bh (low b bh bp)) (tk a ah at_) (by omega) (by rw [Int.toNat_natCast];exact bp)
 rw [Int.toNat_natCast,Int.toNat_natCast] at la
 exact la
theorem G2 (pm:ns.Perm (ups h)) (s1:1<=s) {vs:List Int} (e:AV (Cz vs ns l st h s) h=[]):A6 vs ns l=[]:=by
 by_cases c:A6 vs ns l=[]
 ·exact c
 ·exfalso
  have inr:∀x∈ns,0<=x/\x < h:=fun x m=>C5.mp (pm.mem_iff.mp m)
  have ih:∀k,0<=Br vs ns (Av vs ns l st h k) l st/\Br vs ns (Av vs ns l st h k) l st < h:=fun k=>inr _ (Cr (Ed c)).1
  have eo:Cz vs ns l st h s=Av vs ns l st h s:=by unfold Cz many;rw [if_neg c]
  rw [eo] at e
  have z:∀j,j < h->(Av vs ns l st h s).getD j 0=0:=fun j hj=>by
   have a:=(Fv ih s j).1
   have b:¬ 0 < (Av vs ns l st h s).getD j 0:=fun p=>by
    have:j∈AV (Av vs ns l st h s) h:=List.mem_filter.mpr ⟨List.mem_range.mpr hj,decide_eq_true p⟩
    rw [e] at this
    cases this
   omega
  have t:=GG ih s
  rw [DL (g:=fun _=>0) z] at t
  have:∀m,BB (fun _=>(0:Int)) m=0:=fun m=>by
   induction m with
   | zero=>rfl
   | succ m ih=>show BB _ m+0=0;rw [ih];rfl
  rw [this] at t
  omega
theorem DM {vs:List Int} (e:A6 vs ns l=[]):AV (Cz vs ns l st h s) h=[]:=by
 rw [EI e]
 refine List.filter_eq_nil_iff.mpr fun b _=>?_
 rw [K8]
 decide
noncomputable def Rs (S out ns:List Int) (N l st:Int) (h b:Nat):Prop:=l<=S.getD b 0/\∀a,a < h->a≠b->l<=S.getD a 0+N->¬ (S.getD b 0*(1+st*out.getD a 0) < (S.getD a 0+N)*(1+st*(out.getD b 0 - 1))\/((S.getD a 0+N)*(1+st*(out.getD b 0 - 1))=S.getD b 0*(1+st*out.getD a 0)/\ns.idxOf (a:Int) < ns.idxOf (b:Int)))
noncomputable def NG (S out ns:List Int) (N l st:Int) (h:Nat):Prop:=if AV out h=[] then ∀j,j < h->S.getD j 0+N < l else ∀b,b < h->0 < out.getD b 0->Rs S out ns N l st h b
theorem Nk {out:List Int} (e:AV out h≠[]):∃b,b < h/\0 < out.getD b 0:=by
 obtain ⟨b,r,eb⟩:=List.exists_cons_of_ne_nil e
 have:=List.mem_filter.mp (show b∈AV out h by rw [eb];exact List.mem_cons_self ..)
 exact ⟨b,List.mem_range.mp this.1,of_decide_eq_true this.2⟩
theorem NH (pm:ns.Perm (ups h)) (st1:1<=st) (l1:1<=l) (s1:1<=s) {S V W:List Int} {N:Int} (w0:∀j,j < h->S.getD j 0<=W.getD j 0) (w1:∀j,j < h->W.getD j 0<=S.getD j 0+N)
 (k:NG S (Cz V ns l st h s) ns N l st h):Cz W ns l st h s=Cz V ns l st h s:=by
 unfold NG at k
 split at k
 ·rename_i e
  rw [EI (G2 pm s1 e),EI ((DY pm).mpr fun j hj=>by have:=k j hj;have:=w1 j hj;omega)]
 ·rename_i e
  have nV:A6 V ns l≠[]:=fun z=>e (DM z)
  have fV:=DV (s:=s) pm st1 l1 nV
  generalize Cz V ns l st h s=out at e k fV ⊢
  obtain ⟨b,bh,bp⟩:=Nk e
  have nW:A6 W ns l≠[]:=fun z=>by
   have:=(DY pm).mp z b bh
   have:=(k b bh bp).1
   have:=w0 b bh
   omega
  refine Np.uniq st1 l1 (DV pm st1 l1 nW) ⟨fV.ol,fV.nn,fV.sm,fun b bh bp=>by have:=(k b bh bp).1;have:=w0 b bh;omega,fun b a bh ah ab bp at_=>?_⟩
  have kk:=(k b bh bp).2 a ah ab (by have:=w1 a ah;omega)
  have i1:ns.idxOf (a:Int)≠ns.idxOf (b:Int):=fun z=>by
   have ma:(a:Int)∈ns:=pm.mem_iff.mpr (C5.mpr ⟨by omega,by omega⟩)
   have mb:(b:Int)∈ns:=pm.mem_iff.mpr (C5.mpr ⟨by omega,by omega⟩)
   have e1:=List.getElem_idxOf (List.idxOf_lt_length_of_mem ma)
   have e2:=List.getElem_idxOf (List.idxOf_lt_length_of_mem mb)
   simp only [z] at e1
   omega
  have p1:=Int.mul_nonneg (show 0<=st by omega) (show 0<=out.getD b 0 - 1 by omega)
  have p2:=Int.mul_nonneg (show 0<=st by omega) (fV.nn a)
  have q1:W.getD a 0*(1+st*(out.getD b 0 - 1))<=(S.getD a 0+N)*(1+st*(out.getD b 0 - 1)):=Int.mul_le_mul_of_nonneg_right (w1 a ah) (by omega)
  have q2:S.getD b 0*(1+st*out.getD a 0)<=W.getD b 0*(1+st*out.getD a 0):=Int.mul_le_mul_of_nonneg_right (w0 b bh) (by omega)
  omega
end
theorem JM {j h:Nat}:∀{n:Nat},j < n->plK (2 ^ j) h n=j
 | n+1,l=>by
   unfold plK
   split
   ·rename_i e
    have e':((2 ^ j:Nat):Int)=((2 ^ n:Nat):Int):=by push_cast;exact e
    have e2:2 ^ j=2 ^ n:=Int.ofNat.inj e'
    exact ((Nat.pow_right_inj (by decide)).mp e2).symm
   ·rename_i e
    exact JM (by
     rcases Nat.lt_or_eq_of_le (Nat.le_of_lt_succ l) with z | z
     ·exact z
     ·exact absurd (by rw [z]) e)
noncomputable def A5 (f:List Int->Bool) (ds:List (List Int × Int)):Int:=(ds.map fun q=>if f q.1 then q.2 else 0).sum
noncomputable def dsL (ls:Ls):List (List Int × Int):=ls.map fun q=>(q.2.2.1,q.2.2.2)
theorem Bf (f:List Int->Bool) (q:List Int × Int) (r:List (List Int × Int)):A5 f (q :: r)=(if f q.1 then q.2 else 0)+A5 f r:=by unfold A5;rw [List.map_cons,List.sum_cons]
theorem Jn {h j:Nat} (hj:j<=h):∀{ls:Ls} {vs:List Int},vs.length=h+1->(ls.foldl (Fq h) vs).getD j 0=vs.getD j 0+A5 (fun ts=>pl h ts == j) (dsL ls)
 | [],vs,_=>(Int.add_zero _).symm
 | q :: r,vs,l=>by
   rw [List.foldl_cons,Jn hj (by unfold Fq;rw [List.length_set];exact l)]
   show _=vs.getD j 0+A5 _ ((q.2.2.1,q.2.2.2) :: dsL r)
   rw [Bf]
   unfold Fq
   have lp:=Op h q.2.2.1
   rw [List.getD_eq_getElem?_getD,List.getD_eq_getElem?_getD,List.getD_eq_getElem?_getD,List.getElem?_set]
   by_cases c:pl h q.2.2.1=j
   ·rw [if_pos c,if_pos (by omega),if_pos (by simpa using c),c]
    show vs[j]?.getD 0+_+_=_
    omega
   ·rw [if_neg c,if_neg (by simpa using c)]
    omega
theorem Ck {h j:Nat} (hj:j<=h) (ls:Ls):(Au h ls).getD j 0=A5 (fun ts=>pl h ts == j) (dsL ls):=by
 unfold Au
 rw [Jn hj (by rw [List.length_replicate])]
 rw [List.getD_eq_getElem?_getD,List.getElem?_replicate,if_pos (by omega)]
 exact Int.zero_add _
theorem OB {a b:List Int} (p:a.Perm b):a.sum=b.sum:=by
 induction p with
 | nil=>rfl
 | cons x _ ih=>rw [List.sum_cons,List.sum_cons,ih]
 | swap x y l=>rw [List.sum_cons,List.sum_cons,List.sum_cons,List.sum_cons];omega
 | trans _ _ i j=>rw [i,j]
noncomputable def hv:V->Int
 | .int n=>n
 | _=>0
noncomputable def toI:Key->Int
 | .inl z=>z
 | .inr _=>0
theorem EN (ts:List Int):(ts.map Sum.inl:List Key).map toI=ts:=by rw [List.map_map];exact List.map_id _
noncomputable def dsK (kvs:List (List Key × V)):List (List Int × Int):=kvs.map fun q=>(q.1.map toI,hv q.2)
theorem BL (f:List Int->Bool) (a b:List (List Int × Int)):A5 f (a++b)=A5 f a+A5 f b:=by
 unfold A5;rw [List.map_append,List.sum_append]
theorem Pg {kvs:List (List Key × V)} {ts:List Int} {n:Int} (f:List Int->Bool) (e:Bn kvs (ts.map Sum.inl:List Key)=none):A5 f (dsK (Bj kvs (ts.map Sum.inl) (.int n)))=A5 f (dsK kvs)+if f ts then n else 0:=by
 unfold Bj
 rw [C1,e,if_neg (by decide)]
 unfold dsK
 rw [List.map_append,BL]
 show _+A5 f [((ts.map Sum.inl:List Key).map toI,n)]=_
 rw [EN,Bf]
 show _+((if f ts then n else 0)+0)=_
 rw [Int.add_zero]
theorem Mq {k:List Key} {w:Int} (f:List Int->Bool):∀{kvs:List (List Key × V)},k ∉ kvs.map (·.1)->kvs.map (fun kv=>if kv.1=k then (kv.1,V.int w) else kv)=kvs
 | [],_=>rfl
 | q :: r,m=>by
   rw [List.map_cons,Mq f (fun z=>m (List.mem_cons_of_mem _ z)),if_neg (fun z=>m (List.mem_cons.mpr (.inl z.symm)))]
theorem Mr {ts:List Int} {m n:Int} (f:List Int->Bool):∀{kvs:List (List Key × V)},(kvs.map (·.1)).Nodup->Bn kvs (ts.map Sum.inl:List Key)=some (.int m) ->
 A5 f (dsK (kvs.map fun kv=>if kv.1=(ts.map Sum.inl:List Key) then (kv.1,V.int (m+n)) else kv))=A5 f (dsK kvs)+if f ts then n else 0
 | [],_,e=>by cases e
 | q :: r,nd,e=>by
   rw [List.map_cons,List.nodup_cons] at nd
   unfold Bn at e
   rw [List.find?_cons] at e
   by_cases c:q.1=(ts.map Sum.inl:List Key)
   ·rw [decide_eq_true c] at e
    have eq:q.2=.int m:=Option.some.inj e
    rw [List.map_cons,Mq f (c ▸ nd.1),if_pos c]
    show A5 f ((q.1.map toI,m+n) :: dsK r)=A5 f ((q.1.map toI,hv q.2) :: dsK r)+_
    rw [Bf,Bf,c,EN,eq]
    show (if f ts then m+n else 0)+_=(if f ts then m else 0)+_+_
    cases f ts
    ·simp
    ·simp;omega
   ·rw [decide_eq_false c] at e
    rw [List.map_cons,if_neg c]
    show A5 f ((q.1.map toI,hv q.2) :: dsK _)=A5 f ((q.1.map toI,hv q.2) :: dsK r)+_
    rw [Bf,Bf,Mr f nd.2 e]
    omega
theorem Ph {kvs:List (List Key × V)} {ts:List Int} {m n:Int} (f:List Int->Bool) (nd:(kvs.map (·.1)).Nodup) (e:Bn kvs (ts.map Sum.inl:List Key)=some (.int m)):A5 f (dsK (Bj kvs (ts.map Sum.inl) (.int (m+n))))=A5 f (dsK kvs)+if f ts then n else 0:=by
 unfold Bj
 rw [C1,e,if_pos (show (some (V.int m)).isSome=true from rfl)]
 exact Mr f nd e
theorem NY {kvs:List (List Key × V)} {k:List Key} {v:V} (nd:(kvs.map (·.1)).Nodup):((Bj kvs k v).map (·.1)).Nodup:=by
 unfold Bj
 split
 ·rw [List.map_map,show ((fun x:List Key × V=>x.1) ∘ fun kv=>if kv.1=k then (kv.1,v) else kv)=(·.1) from funext fun q=>by show (if q.1=k then (q.1,v) else q).1=q.1;split <;> rfl]
  exact nd
 ·rename_i c
  rw [List.map_append,List.nodup_append]
  refine ⟨nd,by simp,fun a ha b hb e=>c ?_⟩
  have:b=k:=by simpa using hb
  subst this
  subst e
  obtain ⟨q,qm,eq⟩:=List.mem_map.mp ha
  exact List.any_eq_true.mpr ⟨q,qm,decide_eq_true eq⟩
theorem OJ {kvs:List (List Key × V)} (nd:(kvs.map (·.1)).Nodup) {q:List Key × V} (m:q∈kvs):Bn kvs q.1=some q.2:=by
 induction kvs with
 | nil=>cases m
 | cons p r ih =>
   rw [List.map_cons,List.nodup_cons] at nd
   unfold Bn
   rw [List.find?_cons]
   rcases List.mem_cons.mp m with rfl | m
   ·rw [decide_eq_true rfl];rfl
   ·rw [decide_eq_false (show ¬ p.1=q.1 from fun z=>nd.1 (z ▸ List.mem_map.mpr ⟨q,m,rfl⟩))]
    exact ih nd.2 m
noncomputable def nvK (kvs:List (List Key × V)) (ts:List Int):Int:=match Bn kvs (ts.map Sum.inl:List Key) with
 | some (.int n)=>n
 | _=>0
theorem Id {kvs:List (List Key × V)} {ks:List (List Int)} (nd:(kvs.map (·.1)).Nodup) (e:kvs.map (·.1)=ks.map (List.map Sum.inl)) {us:List (List Int)} (p:us.Perm ks) (f:List Int->Bool) :
 A5 f (us.map fun ts=>(ts,nvK kvs ts))=A5 f (dsK kvs):=by
 have e2:dsK kvs=ks.map fun ts=>(ts,nvK kvs ts):=by
  have key:∀{l:List (List Key × V)} {js:List (List Int)},(∀q∈l,q∈kvs)->l.map (·.1)=js.map (List.map Sum.inl)->dsK l=js.map fun ts=>(ts,nvK kvs ts):=by
   intro l
   induction l with
   | nil=>intro js _ z;cases js with
     | nil=>rfl
     | cons a b=>cases z
   | cons q r ih =>
     intro js sub z
     cases js with
     | nil=>cases z
     | cons a b =>
       rw [List.map_cons,List.map_cons] at z
       injection z with z1 z2
       show (q.1.map toI,hv q.2) :: dsK r=_
       rw [ih (fun q m=>sub q (List.mem_cons_of_mem _ m)) z2,List.map_cons,z1,EN]
       have v:=OJ nd (sub q (List.mem_cons_self ..))
       rw [z1] at v
       unfold nvK
       rw [v]
       cases q.2 <;> rfl
  exact key (fun _ m=>m) e
 rw [e2]
 unfold A5
 exact OB ((p.map _).map _)
theorem CW (ls:Ls):(ls.map fun q=>q.2.2.2).sum=A5 (fun _=>true) (dsL ls):=by
 unfold A5 dsL
 rw [List.map_map]
 rfl
theorem IX:∀{ks:List (List Int)},(ks.map (List.map Sum.inl:List Int->List Key)).Nodup->ks.Nodup
 | [],_=>List.nodup_nil
 | k :: ks,h=>by
   rw [List.map_cons,List.nodup_cons] at h
   rw [List.nodup_cons]
   exact ⟨fun m=>h.1 (List.mem_map.mpr ⟨k,m,rfl⟩),IX h.2⟩
noncomputable def kvL (ls:Ls):List (List Key × V):=ls.map fun q=>(q.2.2.1.map Sum.inl,V.int q.2.2.2)
theorem J6 (f:List Int->Bool) (ls:Ls):A5 f (dsK (kvL ls))=A5 f (dsL ls):=by
 have:dsK (kvL ls)=dsL ls:=by
  unfold dsK kvL dsL
  rw [List.map_map]
  refine List.map_congr_left fun q _=>?_
  show ((q.2.2.1.map Sum.inl:List Key).map toI,q.2.2.2)=_
  rw [EN]
 rw [this]
theorem Fw:∀{a b:List Int},(a.map Sum.inl:List Key)=b.map Sum.inl->a=b
 | a,b,h=>by rw [<- EN a,<- EN b,h]
theorem Ef:∀{ls:Ls} {kvs:List (List Key × V)},(ls.map fun q=>q.2.2.1).Nodup->(∀q∈ls,(q.2.2.1.map Sum.inl:List Key) ∉ kvs.map (·.1))->C9 kvs (ls.map fun q=>((q.1,q.2.1,(q.2.2.1.map Sum.inl:List Key),V.int q.2.2.2):Pr))=kvs++kvL ls
 | [],kvs,_,_=>(List.append_nil _).symm
 | q :: r,kvs,nd,dj=>by
   rw [List.map_cons,List.nodup_cons] at nd
   have none:Bn kvs (q.2.2.1.map Sum.inl:List Key)=none:=by
    cases e:Bn kvs (q.2.2.1.map Sum.inl:List Key) with
    | none=>rfl
    | some v=>exact absurd (P4 e) (dj q (List.mem_cons_self ..))
   show C9 (Bj kvs (q.2.2.1.map Sum.inl) (V.int q.2.2.2)) (r.map _)=_
   rw [Os _ none,Ef nd.2 fun x m z=>?_]
   ·rw [List.append_assoc];rfl
   ·rw [List.map_append] at z
    rcases List.mem_append.mp z with z | z
    ·exact dj x (List.mem_cons_of_mem _ m) z
    ·have:(x.2.2.1.map Sum.inl:List Key)=q.2.2.1.map Sum.inl:=List.mem_singleton.mp z
     exact nd.1 (List.mem_map.mpr ⟨x,m,Fw this⟩)
theorem NL {ls:Ls} (nd:(ls.map fun q=>q.2.2.1).Nodup):((kvL ls).map (·.1)).Nodup:=by
 unfold kvL
 rw [List.map_map]
 have:∀{l:Ls},(l.map fun q=>q.2.2.1).Nodup->(l.map ((fun q:List Key × V=>q.1) ∘ fun q=>((q.2.2.1.map Sum.inl:List Key),V.int q.2.2.2))).Nodup:=by
  intro l
  induction l with
  | nil=>intro _;exact List.nodup_nil
  | cons q r ih =>
    intro k
    rw [List.map_cons,List.nodup_cons] at k ⊢
    refine ⟨fun m=>?_,ih k.2⟩
    obtain ⟨x,xm,e⟩:=List.mem_map.mp m
    exact k.1 (List.mem_map.mpr ⟨x,xm,Fw e⟩)
 exact this nd
theorem Qh {a b:List Int}:PyData.eqv (.tuple (a.map .int)) (.tuple (b.map .int))=decide (a=b):=E4 a b
theorem Gi (a:List Int):SeqAt.shaped (.tuple (a.map .int))=true:=(CD a).1
abbrev Rw:=Fin 4 × Option Int × Option Int
noncomputable def KB (c:Cs):Rw:=(c.1,c.2.1,c.2.2.1)
noncomputable def rv (r:Rw):List V:=[.str (wd r.1),ov r.2.1,ov r.2.2]
noncomputable def soN (vs out xs:List Int) (st l:Int) (r:Rw) (n:Int):Prop :=
 if r.1=0 then vs.getD (r.2.1.getD 0).toNat 0 - n < l else l<=vs.getD (r.2.2.getD 0).toNat 0+n/\(r.1=2\/vs.getD (r.2.1.getD 0).toNat 0 - n < l \/
  ((vs.getD (r.2.1.getD 0).toNat 0 - n)*(1+st*out.getD (r.2.2.getD 0).toNat 0) < (vs.getD (r.2.2.getD 0).toNat 0+n)*(1+st*(out.getD (r.2.1.getD 0).toNat 0 - 1)) \/
    ((vs.getD (r.2.2.getD 0).toNat 0+n)*(1+st*(out.getD (r.2.1.getD 0).toNat 0 - 1))=(vs.getD (r.2.1.getD 0).toNat 0 - n)*(1+st*out.getD (r.2.2.getD 0).toNat 0)/\xs.idxOf (r.2.2.getD 0) < xs.idxOf (r.2.1.getD 0))))
noncomputable def Rb (out:List Int) (h:Nat) (r:Rw):Prop:=(∃i:Nat,i < h/\r=(0,some (i:Int),none))\/(∃j:Nat,j < h/\r=(2,none,some (j:Int)))\/∃i j:Nat,i < h/\j < h/\0 < out.getD i 0/\r=(1,some (i:Int),some (j:Int))
theorem Pc {vs out xs:List Int} {st n:Int} {i j:Nat} (d:0 < CZ out st i j):D7 vs out xs st i j<=n↔((vs.getD i 0 - n)*(1+st*out.getD j 0) < (vs.getD j 0+n)*(1+st*(out.getD i 0 - 1))\/((vs.getD j 0+n)*(1+st*(out.getD i 0 - 1))=(vs.getD i 0 - n)*(1+st*out.getD j 0)/\xs.idxOf (j:Int) < xs.idxOf (i:Int))):=by
 have e:(vs.getD j 0+n)*(1+st*(out.getD i 0 - 1)) - (vs.getD i 0 - n)*(1+st*out.getD j 0)=n*CZ out st i j - DW vs out st i j:=by
  unfold CZ DW
  generalize 1+st*out.getD j 0=p
  generalize 1+st*(out.getD i 0 - 1)=q
  generalize vs.getD i 0=x
  generalize vs.getD j 0=y
  rw [Int.add_mul,Int.sub_mul,Int.mul_add]
  omega
 unfold D7
 generalize (vs.getD j 0+n)*(1+st*(out.getD i 0 - 1))=A at e ⊢
 generalize (vs.getD i 0 - n)*(1+st*out.getD j 0)=B at e ⊢
 generalize CZ out st i j=D at d e ⊢
 generalize DW vs out st i j=L at e ⊢
 by_cases c:xs.idxOf (j:Int) < xs.idxOf (i:Int)
 ·rw [if_pos c]
  have k:=OR (t:=L) d
  generalize -((-L).fdiv D)=z at k ⊢
  constructor
  ·intro zn
   have:=Int.mul_le_mul_of_nonneg_right zn (Int.le_of_lt d)
   omega
  ·intro w
   rcases (by omega:z<=n\/n<=z - 1) with g | g
   ·exact g
   ·have:=Int.mul_le_mul_of_nonneg_right g (Int.le_of_lt d)
    omega
 ·rw [if_neg c]
  have k:=NR (t:=L) d
  generalize L.fdiv D=z at k ⊢
  constructor
  ·intro zn
   have:=Int.mul_le_mul_of_nonneg_right zn (Int.le_of_lt d)
   omega
  ·intro w
   rcases (by omega:z+1<=n\/n<=z) with g | g
   ·exact g
   ·have:=Int.mul_le_mul_of_nonneg_right g (Int.le_of_lt d)
    omega
theorem Pq {vs out xs:List Int} {st l n:Int} {i j:Nat} (d:0 < CZ out st i j):soN vs out xs st l (1,some (i:Int),some (j:Int)) n↔(D8 vs out xs st l i j).2.2.2<=n:=by
 have o:=Pc (vs:=vs) (xs:=xs) (n:=n) d
 unfold soN
 rw [if_neg (by show ¬ (1:Fin 4)=0;decide)]
 show (l<=vs.getD ((j:Int)).toNat 0+n/\((1:Fin 4)=2\/vs.getD ((i:Int)).toNat 0 - n < l\/_))↔mxI (l - vs.getD j 0) (mnI (vs.getD i 0 - l+1) (D7 vs out xs st i j))<=n
 show (l<=vs.getD ((j:Int)).toNat 0+n/\((1:Fin 4)=2\/vs.getD ((i:Int)).toNat 0 - n < l\/((vs.getD ((i:Int)).toNat 0 - n)*(1+st*out.getD ((j:Int)).toNat 0) < (vs.getD ((j:Int)).toNat 0+n)*(1+st*(out.getD ((i:Int)).toNat 0 - 1))\/((vs.getD ((j:Int)).toNat 0+n)*(1+st*(out.getD ((i:Int)).toNat 0 - 1))=(vs.getD ((i:Int)).toNat 0 - n)*(1+st*out.getD ((j:Int)).toNat 0)/\xs.idxOf (j:Int) < xs.idxOf (i:Int)))))↔_
 rw [Int.toNat_natCast,Int.toNat_natCast,<- o]
 have n12:¬ (1:Fin 4)=2:=by decide
 unfold mxI mnI
 split <;> split <;> constructor <;> intro w <;> first | omega | (refine ⟨by omega,?_⟩;first | exact .inr (.inl (by omega)) | exact .inr (.inr (by omega))) | (rcases w with ⟨w1,w2 | w2 | w2⟩ <;> first | exact absurd w2 n12 | omega)
theorem Jt {vs out xs:List Int} {st l:Int} {h:Nat} (st1:1<=st) (ob:∀j,0<=out.getD j 0):∀c∈AF vs out xs st l h,Rb out h (KB c)/\∀n,soN vs out xs st l (KB c) n↔c.2.2.2<=n:=fun c m=>by
 unfold AF at m
 split at m
 ·obtain ⟨a,am,rfl⟩:=List.mem_map.mp m
  refine ⟨.inr (.inl ⟨a,List.mem_range.mp am,rfl⟩),fun n=>?_⟩
  unfold soN
  rw [if_neg (by show ¬ (2:Fin 4)=0;decide)]
  show (l<=vs.getD ((a:Int)).toNat 0+n/\((2:Fin 4)=2\/_))↔l - vs.getD a 0<=n
  rw [Int.toNat_natCast]
  exact ⟨fun w=>by have:=w.1;omega,fun w=>⟨by omega,.inl rfl⟩⟩
 ·obtain ⟨b,bm,cm⟩:=List.mem_flatMap.mp m
  obtain ⟨bh,bp⟩:=List.mem_filter.mp bm
  have bh:=List.mem_range.mp bh
  have bp:=of_decide_eq_true bp
  rcases List.mem_cons.mp cm with rfl | cm
  ·refine ⟨.inl ⟨b,bh,rfl⟩,fun n=>?_⟩
   unfold soN
   rw [if_pos (by rfl)]
   show vs.getD ((b:Int)).toNat 0 - n < l↔vs.getD b 0 - l+1<=n
   rw [Int.toNat_natCast]
   omega
  obtain ⟨a,am,rfl⟩:=List.mem_map.mp cm
  obtain ⟨ah,an⟩:=List.mem_filter.mp am
  have ah:=List.mem_range.mp ah
  refine ⟨.inr (.inr ⟨b,a,bh,ah,bp,rfl⟩),fun n=>?_⟩
  have p1:=Int.mul_nonneg (show 0<=st by omega) (ob a)
  have p2:=Int.mul_nonneg (show 0<=st by omega) (show 0<=out.getD b 0 - 1 by omega)
  exact Pq (by unfold CZ;omega)
inductive Im (M C:Addr) (vs:List V) (H:Hp) (Q:VK) (E:XK):Prop
 | mk (g l:Addr) (h:Nat) (ls:Ls):vs=[.ref g,.ref l]->H l=some (.lst (vls ls))->BA h H ls->ls.length<=125->(∀H':Hp,A0 H H'->Q (.bl (decide (0 < total ls))) H')->Im M C vs H Q E
section
variable {ns:List Int} {l st:Int} {h s:Nat}
theorem Jw {vs out:List Int} {b:Nat} (hb:b < h) (p:0 < out.getD b 0):((0,some (b:Int),none,vs.getD b 0 - l+1):Cs)∈AF vs out ns st l h/\∀a,a < h->a≠b->D8 vs out ns st l b a∈AF vs out ns st l h:=by
 have mb:b∈AV out h:=List.mem_filter.mpr ⟨List.mem_range.mpr hb,decide_eq_true p⟩
 have e:AF vs out ns st l h=(AV out h).flatMap (ES vs out ns st l h):=by
  unfold AF
  exact if_neg (fun z=>by rw [z] at mb;cases mb)
 rw [e]
 refine ⟨List.mem_flatMap.mpr ⟨b,mb,List.mem_cons_self ..⟩,fun a ha ab=>List.mem_flatMap.mpr ⟨b,mb,List.mem_cons_of_mem _ (List.mem_map.mpr ⟨a,List.mem_filter.mpr ⟨List.mem_range.mpr ha,decide_eq_true ab⟩,rfl⟩)⟩⟩
theorem Lw (pm:ns.Perm (ups h)) (st1:1<=st) (l1:1<=l) (s1:1<=s) {V W:List Int} {t low:Int} (lt:t < low) (mc:∀c∈AF V (Cz V ns l st h s) ns st l h,low<=c.2.2.2) (w0:∀j,j < h->V.getD j 0 - t<=W.getD j 0) (w1:∀j,j < h->W.getD j 0<=V.getD j 0+t):Cz W ns l st h s=Cz V ns l st h s:=by
 have eS:∀j,j < h->((List.range h).map fun j=>V.getD j 0 - t).getD j 0=V.getD j 0 - t:=fun j hj=>by
  rw [List.getD_eq_getElem?_getD,List.getElem?_map,List.getElem?_range hj]
  rfl
 refine NH (S:=(List.range h).map fun j=>V.getD j 0 - t) (N:=2*t) pm st1 l1 s1 (fun j hj=>by rw [eS j hj];exact w0 j hj) (fun j hj=>by rw [eS j hj];have:=w1 j hj;omega) ?_
 unfold NG
 split
 ·rename_i e
  intro j hj
  rw [eS j hj]
  have:((2,none,some (j:Int),l - V.getD j 0):Cs)∈AF V (Cz V ns l st h s) ns st l h:=by
   unfold AF
   rw [if_pos e]
   exact List.mem_map.mpr ⟨j,List.mem_range.mpr hj,rfl⟩
  have:=mc _ this
  have:low<=l - V.getD j 0:=this
  omega
 ·rename_i e
  intro b hb bp
  have nn:∀j,0<=(Cz V ns l st h s).getD j 0:=(DV (s:=s) pm st1 l1 (vs:=V) (fun z=>e (DM z))).nn
  obtain ⟨f1,f2⟩:=Jw (vs:=V) (ns:=ns) (st:=st) (l:=l) hb bp
  have f1:low<=V.getD b 0 - l+1:=mc _ f1
  refine ⟨by rw [eS b hb];omega,fun a ha ab la=>?_⟩
  rw [eS a ha] at la ⊢
  rw [eS b hb]
  have m:=f2 a ha ab
  have k:=mc _ m
  obtain ⟨_,so⟩:=Jt (xs:=ns) st1 nn _ m
  have no:¬ soN V (Cz V ns l st h s) ns st l (KB (D8 V (Cz V ns l st h s) ns st l b a)) t:=fun z=>by
   have:=(so t).mp z
   omega
  rw [show KB (D8 V (Cz V ns l st h s) ns st l b a)=(1,some (b:Int),some (a:Int)) from rfl] at no
  intro z
  refine no ?_
  unfold soN
  rw [if_neg (show ¬ (1:Fin 4)=0 by decide)]
  refine ⟨?_,.inr (.inr ?_)⟩
  ·show l<=V.getD a 0+t
   omega
  ·show (V.getD b 0 - t)*(1+st*(Cz V ns l st h s).getD a 0) < (V.getD a 0+t)*(1+st*((Cz V ns l st h s).getD b 0 - 1))\/((V.getD a 0+t)*(1+st*((Cz V ns l st h s).getD b 0 - 1))=(V.getD b 0 - t)*(1+st*(Cz V ns l st h s).getD a 0)/\ns.idxOf (a:Int) < ns.idxOf (b:Int))
   rw [show V.getD a 0 - t+2*t=V.getD a 0+t by omega] at z
   exact z
theorem Lr (pm:ns.Perm (ups h)) (st1:1<=st) (l1:1<=l) (s1:1<=s) {V W:List Int} {c:Cs} (m:c∈AF V (Cz V ns l st h s) ns st l h) (wb:∀b:Nat,c.2.1=some (b:Int)->W.getD b 0=V.getD b 0 - c.2.2.2) (wa:∀a:Nat,c.2.2.1=some (a:Int)->W.getD a 0=V.getD a 0+c.2.2.2):Cz W ns l st h s≠Cz V ns l st h s:=fun eq=>by
 by_cases e:AV (Cz V ns l st h s) h=[]
 ·have m2:=m
  unfold AF at m2
  rw [if_pos e] at m2
  obtain ⟨a,am,ec⟩:=List.mem_map.mp m2
  have:=wa a (by rw [<- ec])
  rw [<- ec] at this
  have:W.getD a 0=V.getD a 0+(l - V.getD a 0):=this
  have nW:A6 W ns l=[]:=G2 pm s1 (by rw [eq];exact e)
  have:=(DY pm).mp nW a (List.mem_range.mp am)
  omega
 ·have fV:=DV (s:=s) pm st1 l1 (vs:=V) (fun z=>e (DM z))
  have fW:=DV (s:=s) pm st1 l1 (vs:=W) (fun z=>e (by rw [<- eq];exact DM z))
  rw [eq] at fW
  have so:=(Jt (xs:=ns) st1 fV.nn c m).2 c.2.2.2 |>.mpr (Int.le_refl _)
  have m2:=m
  unfold AF at m2
  rw [if_neg e] at m2
  obtain ⟨b,mb,mc⟩:=List.mem_flatMap.mp m2
  have hb:=List.mem_range.mp (List.mem_filter.mp mb).1
  have bp:0 < (Cz V ns l st h s).getD b 0:=of_decide_eq_true (List.mem_filter.mp mb).2
  generalize Cz V ns l st h s=out at *
  rcases List.mem_cons.mp mc with ec | mc
  ·have k:=wb b (by rw [ec])
   have:=fW.tk b hb bp
   rw [ec] at k
   have k:W.getD b 0=V.getD b 0 - (V.getD b 0 - l+1):=k
   omega
  ·obtain ⟨a,am,ec⟩:=List.mem_map.mp mc
   obtain ⟨ar,ad⟩:=List.mem_filter.mp am
   have ha:=List.mem_range.mp ar
   have ab:a≠b:=of_decide_eq_true ad
   have kb:=wb b (by rw [<- ec];rfl)
   have ka:=wa a (by rw [<- ec];rfl)
   have er:KB c=(1,some (b:Int),some (a:Int)):=by rw [<- ec];rfl
   rw [er] at so
   generalize c.2.2.2=n at kb ka so
   unfold soN at so
   rw [if_neg (show ¬ (1:Fin 4)=0 by decide)] at so
   obtain ⟨x1,x2⟩:=so
   have x1:l<=V.getD a 0+n:=x1
   have tb:=fW.tk b hb bp
   have la:=fW.la b a hb ha ab bp (by rw [ka];exact x1)
   rw [ka,kb] at la
   rcases x2 with x2 | x2 | x2
   ·exact absurd x2 (by show ¬ (1:Fin 4)=2;decide)
   ·have x2:V.getD b 0 - n < l:=x2
    rw [kb] at tb
    omega
   ·have x2:(V.getD b 0 - n)*(1+st*out.getD a 0) < (V.getD a 0+n)*(1+st*(out.getD b 0 - 1))\/((V.getD a 0+n)*(1+st*(out.getD b 0 - 1))=(V.getD b 0 - n)*(1+st*out.getD a 0)/\ns.idxOf (a:Int) < ns.idxOf (b:Int)):=x2
    generalize (V.getD b 0 - n)*(1+st*out.getD a 0)=X at *
    generalize (V.getD a 0+n)*(1+st*(out.getD b 0 - 1))=Y at *
    omega
end
noncomputable def Du:List (List Int × Int)->Int->List (List Int × Int)
 | [],_=>[]
 | q :: r,m=>(if 0 < mnI q.2 m then [(q.1,mnI q.2 m)] else [])++Du r (m - mnI q.2 m)
noncomputable def DD:List (List Int × Int)->Int->Int
 | [],m=>m
 | q :: r,m=>DD r (m - mnI q.2 m)
theorem Io:∀(ds:List (List Int × Int)) (m:Int) (q:List Int × Int),Du (ds++[q]) m=Du ds m++(if 0 < mnI q.2 (DD ds m) then [(q.1,mnI q.2 (DD ds m))] else [])/\DD (ds++[q]) m=DD ds m - mnI q.2 (DD ds m)
 | [],m,q=>⟨by show (if 0 < mnI q.2 m then [(q.1,mnI q.2 m)] else [])++[]=[]++_;rw [List.append_nil];rfl,rfl⟩
 | p :: r,m,q=>by
   obtain ⟨a,b⟩:=Io r (m - mnI p.2 m) q
   exact ⟨by show _++Du (r++[q]) _=(_++Du r _)++_;rw [a,List.append_assoc];rfl,b⟩
theorem PD (x y:Int):mnI x y<=x/\mnI x y<=y/\(mnI x y=x\/mnI x y=y):=by unfold mnI;split <;> omega
theorem Le:∀(ds:List (List Int × Int)) (m:Int),(∀q∈ds,1<=q.2)->0<=m->0<=DD ds m/\DD ds m<=m/\((Du ds m).map (·.2)).sum=m - DD ds m/\(m<=(ds.map (·.2)).sum->DD ds m=0)
 | [],m,_,m0=>⟨m0,Int.le_refl _,by show (0:Int)=m - m;omega,fun z=>by have z:m<=0:=z;show m=0;omega⟩
 | q :: r,m,h,m0=>by
   have q1:=h q (List.mem_cons_self ..)
   obtain ⟨x1,x2,x3⟩:=PD q.2 m
   obtain ⟨a,b,c,d⟩:=Le r (m - mnI q.2 m) (fun p k=>h p (List.mem_cons_of_mem _ k)) (by omega)
   refine ⟨a,by show DD r _<=m;omega,?_,fun z=>d ?_⟩
   ·show (((if 0 < mnI q.2 m then [(q.1,mnI q.2 m)] else [])++Du r (m - mnI q.2 m)).map (·.2)).sum=m - DD r (m - mnI q.2 m)
    rw [List.map_append,List.sum_append,c]
    by_cases k:0 < mnI q.2 m
    ·rw [if_pos k]
     show mnI q.2 m+0+_=_
     omega
    ·rw [if_neg k]
     show 0+_=_
     omega
   ·have z:m<=q.2+(r.map (·.2)).sum:=z
    have nn:0<=(r.map (·.2)).sum:=by
     have:∀l:List (List Int × Int),(∀p∈l,1<=p.2)->0<=(l.map (·.2)).sum:=fun l=>by
      induction l with
      | nil=>intro _;exact Int.le_refl _
      | cons a l ih =>
        intro k
        have:=k a (List.mem_cons_self ..)
        have:=ih fun p m=>k p (List.mem_cons_of_mem _ m)
        show 0<=a.2+(l.map (·.2)).sum
        omega
     exact this r fun p k=>h p (List.mem_cons_of_mem _ k)
    omega
theorem Gj:∀(ds:List (List Int × Int)) (m:Int),∀p∈Du ds m,1<=p.2/\∃q∈ds,q.1=p.1/\p.2<=q.2
 | [],_,p,h=>nomatch h
 | q :: r,m,p,h=>by
   rcases List.mem_append.mp h with h | h
   ·by_cases k:0 < mnI q.2 m
    ·rw [if_pos k] at h
     rw [List.mem_singleton.mp h]
     exact ⟨by show 1<=mnI q.2 m;omega,q,List.mem_cons_self ..,rfl,(PD q.2 m).1⟩
    ·rw [if_neg k] at h
     cases h
   ·obtain ⟨a,b,c,d⟩:=Gj r _ p h
    exact ⟨a,b,List.mem_cons_of_mem _ c,d⟩
theorem Jl:∀(ds:List (List Int × Int)) (m:Int),((Du ds m).map (·.1)).Sublist (ds.map (·.1))
 | [],_=>List.Sublist.refl _
 | q :: r,m=>by
   show (((if 0 < mnI q.2 m then [(q.1,mnI q.2 m)] else [])++Du r (m - mnI q.2 m)).map (·.1)).Sublist (q.1 :: r.map (·.1))
   have ih:=Jl r (m - mnI q.2 m)
   rw [List.map_append]
   by_cases k:0 < mnI q.2 m
   ·rw [if_pos k]
    exact ih.cons_cons _
   ·rw [if_neg k]
    exact ih.cons _
noncomputable def CrG (H:Hp) (sl:Addr) (rs:Ls):Prop:=∀q∈rs,H q.1=some (.tup [.ref q.2.1,.ref sl,.int q.2.2.2])/\H q.2.1=some (.tup (q.2.2.1.map V.int))
theorem CrG.same {H J:Hp} {sl:Addr} {rs:Ls} (s:A0 H J) (g:CrG H sl rs):CrG J sl rs:=fun q m=>⟨s _ _ (g q m).1,s _ _ (g q m).2⟩
noncomputable def QK (H:Hp) (ls:Ls):Prop:=∀q∈ls,H q.1=some (.tup [.ref q.2.1,.int q.2.2.2])/\H q.2.1=some (.tup (q.2.2.1.map V.int))
inductive KZ (vs:List V) (H:Hp) (Q:VK) (E:XK):Prop
 | mk (l sl:Addr) (ls:Ls) (m:Int):vs=[.ref l,.ref sl,.int m]->H l=some (.lst (vls ls))->QK H ls->ls.length<=125->(∀(r:Addr) (rs:Ls) (H':Hp),H r=none->A0 H H'->H' r=some (.lst (vls rs))->CrG H' sl rs->dsL rs=Du (dsL ls) m->Q (.ref r) H')->KZ vs H Q E
theorem Ob {H J:Hp} {D:Addr} (s:A0 H J):A0 (off H D) (off J D):=fun b o e=>by
 unfold off at e ⊢
 split at e
 ·cases e
 ·rename_i n
  rw [if_neg n]
  exact s b o e
theorem Fs (a b:Ls):dsL (a++b)=dsL a++dsL b:=List.map_append ..
theorem IY (k:Nat):Builtin.bitOr 0 (1*2 ^ k)=2 ^ k:=by
 rw [OV,show bit 0 k=false from by unfold bit;rw [Int.zero_ediv];rfl]
 show 0+2 ^ k*(1:Int)=2 ^ k
 omega
inductive KP (vs:List V) (H:Hp) (Q:VK) (E:XK):Prop
 | mk (g l:Addr) (h:Nat) (ls:Ls) (c:Cs) (m:Int):vs=[.ref g,.ref l,.str (wd c.1),ov c.2.1,ov c.2.2.1,.int m]->H l=some (.lst (vls ls))->BA h H ls->ls.length<=125->h<=12->c.1≠3->(∀b,c.2.1=some b->0<=b/\b < h)->(∀a,c.2.2.1=some a->0<=a/\a < h)->(c.1=0\/c.2.2.1≠none)->(c.1=2\/c.2.1≠none)->(∀(r sl:Addr) (ms:List Int) (rs:Ls) (H':Hp),H r=none->A0 H H'->H' r=some (.lst (vls rs))->CrG H' sl rs->H' sl=some (.tup (ms.map V.int))->ms=(if c.1=0 then [] else [(2:Int) ^ ((c.2.2.1.getD 0).toNat)]) ->
   dsL rs=Du ((dsL ls).filter fun q=>if c.1=2 then !decide (pl h q.1=(c.2.2.1.getD 0).toNat) else decide (pl h q.1=(c.2.1.getD 0).toNat)) m->Q (.ref r) H')->KP vs H Q E
noncomputable def N9 (h:Nat) (c:Cs) (q:List Int × Int):Bool:=if c.1=2 then !decide (pl h q.1=(c.2.2.1.getD 0).toNat) else decide (pl h q.1=(c.2.1.getD 0).toNat)
noncomputable def B5 (c:Cs):List Int:=if c.1=0 then [] else [(2:Int) ^ ((c.2.2.1.getD 0).toNat)]
structure Chg (H:Hp) (h:Nat) (ls:Ls) (c:Cs) (m:Int) (r sl:Addr) (rs:Ls):Prop where
 r:H r=some (.lst (vls rs))
 g:CrG H sl rs
 sl:H sl=some (.tup ((B5 c).map V.int))
 d:dsL rs=Du ((dsL ls).filter (N9 h c)) m
theorem Chg.same {H J:Hp} {h:Nat} {ls:Ls} {c:Cs} {m:Int} {r sl:Addr} {rs:Ls} (s:A0 H J) (k:Chg H h ls c m r sl rs):Chg J h ls c m r sl rs:=⟨s _ _ k.r,k.g.same s,s _ _ k.sl,k.d⟩
theorem Qx {C:Addr} {H:Hp} {a:Addr} {h s:Nat} {st u v:Int} {ns:List Int} {ls:Ls} (md:E1 C H a h s st u v ns) (nl:EV ls) (l125:ls.length<=125) (j:Nat):0<=(A8 ls ns u v st h s).getD j 0:=by
 rw [Ge]
 by_cases c:A6 (Au h ls) ns (Aj u v ls)=[]
 ·rw [EI c,K8]
  exact Int.le_refl _
 ·exact (DV md.pm md.st1 (by unfold Aj;omega) c).nn j
inductive O5 (M C:Addr) (vs:List V) (H:Hp) (Q:VK) (E:XK):Prop
 | mk (g a l:Addr) (h s:Nat) (st u v:Int) (ns:List Int) (ls:Ls):vs=[.ref g,.ref l]->IsM M H g a->E1 C H a h s st u v ns->H l=some (.lst (vls ls))->BA h H ls->ls.length<=125->EV ls->(∀(t r sl:Addr) (c:Cs) (rs:Ls) (m:Int) (H':Hp),H r=none->A0 H H'->H' t=some (.tup [.int m,.ref r,.non])->Chg H' h ls c m r sl rs->Iw (AF (Au h ls) (A8 ls ns u v st h s) ns st (Aj u v ls) h) m->1<=m->c∈AF (Au h ls) (A8 ls ns u v st h s) ns st (Aj u v ls) h->c.2.2.2=m->Q (.ref t) H')->O5 M C vs H Q E
inductive O7 (M C:Addr) (vs:List V) (H:Hp) (Q:VK) (E:XK):Prop
 | mk (g a l:Addr) (h s:Nat) (st u v:Int) (ns:List Int) (ls:Ls):vs=[.ref g,.ref l]->IsM M H g a->E1 C H a h s st u v ns->H l=some (.lst (vls ls))->BA h H ls->ls.length<=125->EV ls->(¬ 0 < total ls->∀H':Hp,A0 H H'->Q .non H')->(0 < total ls->∀(t k r sl:Addr) (cs:CL) (c:Cs) (rs:Ls) (m:Int) (H':Hp),H k=none->H r=none->k≠r->A0 H H'->H' t=some (.tup [.int m,.int m,.ref k,.ref r])->H' k=some (.lst (vcl cs))->BI H' cs->Db cs=AF (Au h ls) (A8 ls ns u v st h s) ns st (Aj u v ls) h->Chg H' h ls c m r sl rs->Iw (AF (Au h ls) (A8 ls ns u v st h s) ns st (Aj u v ls) h) m->1<=m->c∈AF (Au h ls) (A8 ls ns u v st h s) ns st (Aj u v ls) h->c.2.2.2=m->cs.length<=156->Q (.ref t) H')->O7 M C vs H Q E
inductive Ij (vs:List V) (H:Hp) (Q:VK) (E:XK):Prop
 | mk (p:Addr) (xs:List Int) (h:Nat):vs=[.ref p,.int h]->H p=some (.tup (xs.map V.int))->(xs=[]\/∃a:Nat,a < h/\xs=[(2:Int) ^ a])->h<=12->Q (.bl true) H->Ij vs H Q E
theorem HV {h:Nat} {kvs:List (List Key × V)} (k:List Int->Bool) (g:Gn h kvs) (nd:(kvs.map (·.1)).Nodup) (ts:List Int) (d:Int):A5 k (dsK (Bj kvs (ts.map Sum.inl) (.int (nvK kvs ts+d))))=A5 k (dsK kvs)+if k ts then d else 0:=by
 unfold nvK
 cases ev:Bn kvs (ts.map Sum.inl:List Key) with
 | none =>
   show A5 k (dsK (Bj kvs _ (.int (0+d))))=_
   rw [Int.zero_add]
   exact Pg k ev
 | some w =>
   obtain ⟨mm,rfl⟩:=Dy g ev
   exact Ph k nd ev
noncomputable def M9 (B:Int) (kvs:List (List Key × V)):Prop:=∀q∈kvs,∀n:Int,q.2=.int n->0<=n/\n<=B
theorem M9.put {B B':Int} {kvs:List (List Key × V)} {k:List Key} {n:Int} (g:M9 B kvs) (h:B<=B') (n0:0<=n) (n1:n<=B'):M9 B' (Bj kvs k (.int n)):=by
 intro q m z e
 unfold Bj at m
 split at m
 ·obtain ⟨p,pm,rfl⟩:=List.mem_map.mp m
  split at e
  ·cases e;exact ⟨n0,n1⟩
  ·have:=g p pm z e
   omega
 ·rcases List.mem_append.mp m with m | m
  ·have:=g q m z e
   omega
  ·rw [List.mem_singleton.mp m] at e
   cases e
   exact ⟨n0,n1⟩
theorem M9.val {B:Int} {kvs:List (List Key × V)} {k:List Key} {n:Int} (g:M9 B kvs) (e:Bn kvs k=some (.int n)):0<=n/\n<=B:=by
 unfold Bn at e
 obtain ⟨q,hq,e⟩:=Option.map_eq_some_iff.mp e
 exact g q (List.mem_of_find?_eq_some hq) n e
noncomputable def Lm (ls:Ls):Prop:=∀q∈ls,1<=q.2.2.2/\q.2.2.2<=20000000000000
theorem Lm.l {ls:Ls} (n:Lm ls):EV ls:=fun q m=>⟨by have:=(n q m).1;omega,by have:=(n q m).2;omega⟩
theorem Hh {kvs:List (List Key × V)} (a b:List Int) (z:Int):nvK (Bj kvs (a.map Sum.inl) (.int z)) b=if b=a then z else nvK kvs b:=by
 unfold nvK
 rw [Iu]
 by_cases e:b=a
 ·rw [if_pos (by rw [e]),if_pos e]
 ·rw [if_neg (fun z=>e (Fw z)),if_neg e]
theorem Dn {kvs:List (List Key × V)} {k:List Key} {v w:V} (e:Bn kvs k=some w):(Bj kvs k v).length=kvs.length:=by
 unfold Bj
 rw [if_pos (by rw [C1,e];rfl),List.length_map]
structure Bag (h:Nat) (B:Int) (n:Nat) (kvs:List (List Key × V)):Prop where
 g:Gn h kvs
 nd:(kvs.map (·.1)).Nodup
 lw:M9 B kvs
 len:kvs.length<=n
theorem Bag.nv {h n:Nat} {B:Int} {kvs:List (List Key × V)} (b:Bag h B n kvs) (b0:0<=B) (ts:List Int):0<=nvK kvs ts/\nvK kvs ts<=B:=by
 unfold nvK
 cases e:Bn kvs (ts.map Sum.inl:List Key) with
 | none=>exact ⟨Int.le_refl _,b0⟩
 | some w =>
   obtain ⟨m,rfl⟩:=Dy b.g e
   exact b.lw.val e
theorem Bag.has {h n:Nat} {B:Int} {kvs:List (List Key × V)} (b:Bag h B n kvs) {ts:List Int} (p:1<=nvK kvs ts):Bn kvs (ts.map Sum.inl:List Key)=some (.int (nvK kvs ts)):=by
 unfold nvK at p ⊢
 cases e:Bn kvs (ts.map Sum.inl:List Key) with
 | none=>rw [e] at p;exact absurd p (by show ¬ (1:Int)<=0;decide)
 | some w =>
   obtain ⟨m,rfl⟩:=Dy b.g e
   rfl
theorem Bag.getD {h n:Nat} {B:Int} {kvs:List (List Key × V)} (b:Bag h B n kvs) (ts:List Int):(Bn kvs (ts.map Sum.inl:List Key)).getD (.int 0)=.int (nvK kvs ts):=by
 unfold nvK
 cases e:Bn kvs (ts.map Sum.inl:List Key) with
 | none=>rfl
 | some w =>
   obtain ⟨m,rfl⟩:=Dy b.g e
   rfl
theorem Bag.put {h n n':Nat} {B B':Int} {kvs:List (List Key × V)} (b:Bag h B n kvs) {ts:List Int} (f:DG h ts) {z:Int} (z0:0<=z) (z1:z<=B') (bb:B<=B') (nn:(Bj kvs (ts.map Sum.inl) (.int z)).length<=n'):Bag h B' n' (Bj kvs (ts.map Sum.inl) (.int z)) :=
 ⟨IS b.g f,NY b.nd,b.lw.put bb z0 z1,nn⟩
theorem Mi {h:Nat} {H:Hp} {ls:Ls} {B:Int} (g:BA h H ls) (nds:(ls.map fun q=>q.2.2.1).Nodup) (num:∀q∈ls,0<=q.2.2.2/\q.2.2.2<=B):Bag h B ls.length (kvL ls):=⟨fun x m=>by
 obtain ⟨y,ym,rfl⟩:=List.mem_map.mp m
 exact ⟨_,_,rfl,(g y ym).2.2⟩,NL nds,fun x m n e=>by
 obtain ⟨y,ym,rfl⟩:=List.mem_map.mp m
 cases e
 exact num y ym,by unfold kvL;rw [List.length_map];exact Nat.le_refl _⟩
theorem L4 {ls:Ls} (nds:(ls.map fun q=>q.2.2.1).Nodup) {q:Addr × Addr × List Int × Int} (m:q∈ls):nvK (kvL ls) q.2.2.1=q.2.2.2/\Bn (kvL ls) (q.2.2.1.map Sum.inl:List Key)=some (.int q.2.2.2):=by
 have e:Bn (kvL ls) (q.2.2.1.map Sum.inl:List Key)=some (.int q.2.2.2):=OJ (q:=((q.2.2.1.map Sum.inl:List Key),V.int q.2.2.2)) (NL nds) (List.mem_map.mpr ⟨q,m,rfl⟩)
 exact ⟨by unfold nvK;rw [e],e⟩
inductive Je (K:PySem.W.Frag) (vs:List V) (H:Hp) (Q:VK) (E:XK):Prop
 | mk (p l:Addr) (ns:List Int) (h:Nat) (ls:Ls) (m:Int):vs=[.ref p,.ref l,.int (h:Int),.int m]->SqL K H p (ns.map V.int)->ns.length<=63->H l=some (.lst (vls ls))->BA h H ls->ls.length<=60->JZ ls->(ls.map fun q=>q.2.2.1).Nodup->1<=h->h<=12->0<=m->m<=10000000000000->(∀(r:Addr) (ms:Ls) (H':Hp),A0 H H'->H' r=some (.lst (vls ms))->BA h H' ms->ms.length<=120->Lm ms->(ms.map fun q=>q.2.2.1).Nodup->(∀f,A5 f (dsL ls) - m<=A5 f (dsL ms)/\A5 f (dsL ms)<=A5 f (dsL ls)+m)->A5 (fun _=>true) (dsL ms)=A5 (fun _=>true) (dsL ls)->Q (.ref r) H')->Je K vs H Q E
inductive G6 (vs:List V) (H:Hp) (Q:VK) (E:XK):Prop
 | mk (l r sl:Addr) (h:Nat) (ls rs:Ls) (c:Cs) (low:Int):vs=[.ref l,.ref r,.int low,.int (h:Int)]->H l=some (.lst (vls ls))->BA h H ls->ls.length<=124->Lm ls->(ls.map fun q=>q.2.2.1).Nodup->Chg H h ls c low r sl rs->(∀q∈rs,q.2.2.1≠B5 c)->(B5 c=[]\/∃a:Nat,a < h/\B5 c=[(2:Int) ^ a])->(rs.map fun q=>q.2.2.2).sum=low->low<=10000000000000->h<=12->(∀(d:Addr) (ms:Ls) (H':Hp),A0 H H'->H' d=some (.lst (vls ms))->BA h H' ms->ms.length<=125->EV ms->(∀f,A5 f (dsL ms)=A5 f (dsL ls) - A5 f (dsL rs)+if f (B5 c) then low else 0)->Q (.ref d) H')->G6 vs H Q E
theorem N4 (xs:List Int) (lo hi:Option Int):∃us:List Int,Fb (xs.map V.int) lo hi=us.map V.int:=by
 unfold Fb
 rw [<- List.map_drop,<- List.map_take]
 exact ⟨_,rfl⟩
theorem Px {n a b:Nat} (e:a % n=b % n) (le:a<=b) (lt:b < a+n):a=b:=by
 have h:=Nat.sub_mod_eq_zero_of_mod_eq e.symm
 have:=Nat.eq_zero_of_dvd_of_lt (Nat.dvd_of_mod_eq_zero h) (by omega)
 omega
theorem IR {h a:Nat} (ah:a < h):DG h [(2:Int) ^ a]:=.inr ⟨_,[],rfl,Int.le_of_lt (Int.pow_pos (by decide)),by exact_mod_cast Nat.pow_lt_pow_right (by decide) ah⟩
theorem Lx (z:Int) {h:Nat} (h1:1<=h):∃a:Nat,z.fmod (h:Int)=(a:Int)/\a < h:=by
 have p:=Int.fmod_nonneg_of_pos z (b:=(h:Int)) (by omega)
 have q:=Int.fmod_lt_of_pos z (b:=(h:Int)) (by omega)
 exact ⟨(z.fmod (h:Int)).toNat,by omega,by omega⟩
theorem Rr {t:TS} {D:Fp} {σ σ':St} {H:Hp} (e:σ=σ') (h:t D σ' H):t D σ H:=by rw [e];exact h
theorem Chg.rows {H:Hp} {h:Nat} {ls rs:Ls} {c:Cs} {m:Int} {r sl:Addr} (k:Chg H h ls c m r sl rs) (nds:(ls.map fun q=>q.2.2.1).Nodup):(rs.map fun q=>q.2.2.1).Nodup/\∀q∈rs,1<=q.2.2.2/\∃p∈ls,p.2.2.1=q.2.2.1/\q.2.2.2<=p.2.2.2:=by
 have e1:∀l:Ls,(l.map fun q=>q.2.2.1)=(dsL l).map (·.1):=fun l=>by unfold dsL;rw [List.map_map];rfl
 constructor
 ·rw [e1,k.d]
  rw [e1] at nds
  exact ((Jl _ _).trans (List.filter_sublist.map _)).nodup nds
 ·intro q mq
  have mq':(q.2.2.1,q.2.2.2)∈dsL rs:=List.mem_map.mpr ⟨q,mq,rfl⟩
  rw [k.d] at mq'
  obtain ⟨a,p,pm,e,le⟩:=Gj _ _ _ mq'
  obtain ⟨p',pm',rfl⟩:=List.mem_map.mp (List.mem_filter.mp pm).1
  exact ⟨a,p',pm',e,le⟩
theorem Nm (a:Ls) (q:Addr × Addr × List Int × Int):((a++[q]).map fun q=>q.2.2.2).sum=(a.map fun q=>q.2.2.2).sum+q.2.2.2:=by
 rw [List.map_append,List.sum_append]
 show _+(q.2.2.2+0)=_
 omega
theorem Fl {rs:Ls} (p:∀q∈rs,1<=q.2.2.2) (i:Nat):0<=((rs.take i).map fun q=>q.2.2.2).sum/\((rs.take i).map fun q=>q.2.2.2).sum<=(rs.map fun q=>q.2.2.2).sum:=by
 have nn:∀l:Ls,(∀q∈l,1<=q.2.2.2)->0<=(l.map fun q=>q.2.2.2).sum:=fun l=>by
  induction l with
  | nil=>intro _;exact Int.le_refl _
  | cons a l ih =>
    intro k
    have:=k a (List.mem_cons_self ..)
    have:=ih fun p m=>k p (List.mem_cons_of_mem _ m)
    rw [List.map_cons,List.sum_cons]
    omega
 refine ⟨nn _ fun q m=>p q (List.mem_of_mem_take m),?_⟩
 have a:=nn (rs.drop i) fun q m=>p q (List.mem_of_mem_drop m)
 have e:(rs.map fun q=>q.2.2.2).sum=((rs.take i).map fun q=>q.2.2.2).sum+((rs.drop i).map fun q=>q.2.2.2).sum:=by
  rw [<- List.sum_append,<- List.map_append,List.take_append_drop]
 omega
theorem Kb {V out ns:List Int} {st l:Int} {h:Nat} {c:Cs} (m:c∈AF V out ns st l h):(∃j:Nat,j < h/\c=(2,none,some (j:Int),l - V.getD j 0))\/∃b:Nat,b < h/\0 < out.getD b 0/\(c=(0,some (b:Int),none,V.getD b 0 - l+1)\/∃a:Nat,a < h/\a≠b/\c=D8 V out ns st l b a):=by
 unfold AF at m
 split at m
 ·obtain ⟨j,jm,e⟩:=List.mem_map.mp m
  exact .inl ⟨j,List.mem_range.mp jm,e.symm⟩
 ·obtain ⟨b,mb,mc⟩:=List.mem_flatMap.mp m
  refine .inr ⟨b,List.mem_range.mp (List.mem_filter.mp mb).1,of_decide_eq_true (List.mem_filter.mp mb).2,?_⟩
  rcases List.mem_cons.mp mc with e | mc
  ·exact .inl e
  ·obtain ⟨a,am,e⟩:=List.mem_map.mp mc
   exact .inr ⟨a,List.mem_range.mp (List.mem_filter.mp am).1,of_decide_eq_true (List.mem_filter.mp am).2,e.symm⟩
theorem LX (p:List Int->Bool):∀ds:List (List Int × Int),((ds.filter fun q=>p q.1).map (·.2)).sum=A5 p ds
 | []=>rfl
 | q :: r=>by
   rw [Bf,<- LX p r]
   by_cases c:p q.1=true
   ·rw [List.filter_cons_of_pos (p:=fun q:List Int × Int=>p q.1) (a:=q) c,if_pos c]
    rfl
   ·rw [List.filter_cons_of_neg (p:=fun q:List Int × Int=>p q.1) (a:=q) c,if_neg c,Int.zero_add]
theorem Fm {f:List Int->Bool}:∀{rs:Ls},(∀q∈rs,f q.2.2.1=true)->A5 f (dsL rs)=(rs.map fun q=>q.2.2.2).sum
 | [],_=>rfl
 | q :: r,k=>by
   show A5 f ((q.2.2.1,q.2.2.2) :: dsL r)=_
   rw [Bf,if_pos (k q (List.mem_cons_self ..)),Fm fun p m=>k p (List.mem_cons_of_mem _ m)]
   rfl
theorem Fn {f:List Int->Bool}:∀{rs:Ls},(∀q∈rs,f q.2.2.1=false)->A5 f (dsL rs)=0
 | [],_=>rfl
 | q :: r,k=>by
   show A5 f ((q.2.2.1,q.2.2.2) :: dsL r)=_
   rw [Bf,k q (List.mem_cons_self ..),Fn fun p m=>k p (List.mem_cons_of_mem _ m)]
   rfl
theorem Ir (f:List Int->Bool):∀ds:List (List Int × Int),A5 (fun ts=>!f ts) ds=A5 (fun _=>true) ds - A5 f ds
 | []=>rfl
 | q :: r=>by
   rw [Bf,Bf,Bf,Ir f r]
   cases f q.1
   ·show q.2+_=q.2+_ - (0+_)
    omega
   ·show 0+_=q.2+_ - (q.2+_)
    omega
noncomputable def MJ (h:Nat) (c:Cs) (ts:List Int):Bool:=N9 h c (ts,0)
theorem Chg.flt {H:Hp} {h:Nat} {ls rs:Ls} {c:Cs} {m:Int} {r sl:Addr} (k:Chg H h ls c m r sl rs):∀q∈rs,MJ h c q.2.2.1=true:=fun q mq=>by
 have mq':(q.2.2.1,q.2.2.2)∈dsL rs:=List.mem_map.mpr ⟨q,mq,rfl⟩
 rw [k.d] at mq'
 obtain ⟨_,p,pm,e,_⟩:=Gj _ _ _ mq'
 have:=(List.mem_filter.mp pm).2
 have e:p.1=q.2.2.1:=e
 rw [<- e]
 exact this
theorem Chg.sum {H:Hp} {h:Nat} {ls rs:Ls} {c:Cs} {m:Int} {r sl:Addr} (k:Chg H h ls c m r sl rs) (num:∀q∈ls,1<=q.2.2.2) (m0:0<=m) (le:m<=A5 (MJ h c) (dsL ls)):(rs.map fun q=>q.2.2.2).sum=m:=by
 obtain ⟨_,_,a,b⟩:=Le ((dsL ls).filter (N9 h c)) m (fun q mq=>by
  obtain ⟨p,pm,rfl⟩:=List.mem_map.mp (List.mem_filter.mp mq).1
  exact num p pm) m0
 rw [<- k.d,b (by rw [show (dsL ls).filter (N9 h c)=(dsL ls).filter (fun q=>MJ h c q.1) from rfl,LX];exact le),Int.sub_zero] at a
 rw [<- a]
 unfold dsL
 rw [List.map_map]
 rfl
theorem Gs {u v:Int} {ls:Ls} (u0:0<=u) (uv:u<=v) (v0:0 < v) (t:1<=total ls):Aj u v ls<=total ls:=by
 unfold Aj
 have:-(total ls)<=(-(u*total ls)).fdiv v:=by
  rw [Int.fdiv_eq_ediv_of_nonneg _ (by omega),Int.le_ediv_iff_mul_le v0]
  have:=Int.mul_le_mul_of_nonneg_right uv (show 0<=total ls by omega)
  rw [Int.neg_mul,Int.mul_comm (total ls) v]
  omega
 omega
structure Turn (h:Nat) (ls rs:Ls) (c:Cs) (low:Int):Prop where
 fresh:∀q∈rs,q.2.2.1≠B5 c
 sc:B5 c=[]\/∃a:Nat,a < h/\B5 c=[(2:Int) ^ a]
 sum:(rs.map fun q=>q.2.2.2).sum=low
 wb:∀b:Nat,c.2.1=some (b:Int)->b < h/\A5 (fun ts=>pl h ts == b) (dsL rs)=low/\(pl h (B5 c) == b)=false
 wa:∀a:Nat,c.2.2.1=some (a:Int)->a < h/\A5 (fun ts=>pl h ts == a) (dsL rs)=0/\(pl h (B5 c) == a)=true
theorem Chg.turn {H:Hp} {h s:Nat} {ls rs:Ls} {c:Cs} {low u v st:Int} {r sl:Addr} {ns:List Int} (k:Chg H h ls c low r sl rs) (num:∀q∈ls,1<=q.2.2.2) (u0:0<=u) (uv:u<=v) (v0:0 < v) (t:1<=total ls) (l1:1<=low)
 (mc:Iw (AF (Au h ls) (A8 ls ns u v st h s) ns st (Aj u v ls) h) low) (cin:c∈AF (Au h ls) (A8 ls ns u v st h s) ns st (Aj u v ls) h) (cm:c.2.2.2=low):Turn h ls rs c low:=by
 have le1:1<=Aj u v ls:=by unfold Aj;omega
 have fl:=k.flt
 have bq:∀{x y:Nat},(x == y)=true↔x=y:=fun {x y}=>beq_iff_eq
 rcases Kb cin with ⟨j,hj,rfl⟩ | ⟨b,hb,bp,e⟩
 ·have cm:Aj u v ls - (Au h ls).getD j 0=low:=cm
  have f2:MJ h (2,none,some (j:Int),Aj u v ls - (Au h ls).getD j 0)=fun ts=>!(pl h ts == j):=by
   funext ts
   show (!decide (pl h ts=(j:Int).toNat))=_
   rw [Int.toNat_natCast]
   rfl
  have ej:B5 (2,none,some (j:Int),Aj u v ls - (Au h ls).getD j 0)=[(2:Int) ^ j]:=by
   show [(2:Int) ^ (j:Int).toNat]=_
   rw [Int.toNat_natCast]
  have pj:pl h [(2:Int) ^ j]=j:=JM hj
  have no:∀q∈rs,(pl h q.2.2.1 == j)=false:=fun q m=>by
   have:=fl q m
   rw [f2] at this
   simpa using this
  refine ⟨fun q m e=>?_,.inr ⟨j,hj,ej⟩,k.sum num (by omega) ?_,(fun b e=>nomatch e),fun a e=>?_⟩
  ·have:=no q m
   rw [e,ej,pj,beq_self_eq_true] at this
   cases this
  ·rw [f2,Ir,<- Ck (by omega),<- CW]
   have:=Gs u0 uv v0 t
   unfold total at this
   omega
  ·have e:j=a:=by injection e with e;omega
   subst e
   exact ⟨hj,Fn no,by rw [ej,pj];exact beq_self_eq_true _⟩
 ·have fa:=mc.2 _ (Jw (vs:=Au h ls) (ns:=ns) (st:=st) (l:=Aj u v ls) hb bp).1
  have fa:low<=(Au h ls).getD b 0 - Aj u v ls+1:=fa
  have main:∀c:Cs,c.1≠2->c.2.1=some (b:Int)->(MJ h c=fun ts=>pl h ts == b):=fun c c2 cb=>by
   funext ts
   unfold MJ N9
   rw [if_neg c2,cb]
   show decide (pl h ts=(b:Int).toNat)=_
   rw [Int.toNat_natCast]
   rfl
  have low9:low<=A5 (fun ts=>pl h ts == b) (dsL ls):=by
   rw [<- Ck (by omega)]
   omega
  rcases e with rfl | ⟨a,ha,ab,rfl⟩
  ·have f2:=main (0,some (b:Int),none,(Au h ls).getD b 0 - Aj u v ls+1) (by show ¬ (0:Fin 4)=2;decide) rfl
   rw [f2] at fl
   have su:=k.sum num (by omega) (by rw [f2];exact low9)
   have pn:pl h (B5 (0,some (b:Int),none,(Au h ls).getD b 0 - Aj u v ls+1))=h:=rfl
   refine ⟨fun q m e=>?_,.inl rfl,su,fun b' e=>?_,(fun a e=>nomatch e)⟩
   ·have:=bq.mp (fl q m)
    rw [e,pn] at this
    omega
   ·have e:b=b':=by injection e with e;omega
    subst e
    exact ⟨hb,by rw [Fm fl];exact su,by rw [pn];exact beq_eq_false_iff_ne.mpr (by omega)⟩
  ·have f2:=main (D8 (Au h ls) (A8 ls ns u v st h s) ns st (Aj u v ls) b a) (by show ¬ (1:Fin 4)=2;decide) rfl
   rw [f2] at fl
   have su:=k.sum num (by omega) (by rw [f2];exact low9)
   have es:B5 (D8 (Au h ls) (A8 ls ns u v st h s) ns st (Aj u v ls) b a)=[(2:Int) ^ a]:=by
    show [(2:Int) ^ (a:Int).toNat]=_
    rw [Int.toNat_natCast]
   have pa:pl h [(2:Int) ^ a]=a:=JM ha
   refine ⟨fun q m e=>?_,.inr ⟨a,ha,es⟩,su,fun b' e=>?_,fun a' e=>?_⟩
   ·have:=bq.mp (fl q m)
    rw [e,es,pa] at this
    exact ab this
   ·have e:b=b':=by
     have e:some (b:Int)=some (b':Int):=e
     injection e with e
     omega
    subst e
    exact ⟨hb,by rw [Fm fl];exact su,by rw [es,pa];exact beq_eq_false_iff_ne.mpr ab⟩
   ·have e:a=a':=by
     have e:some (a:Int)=some (a':Int):=e
     injection e with e
     omega
    subst e
    exact ⟨ha,Fn fun q m=>by rw [bq.mp (fl q m)];exact beq_eq_false_iff_ne.mpr (Ne.symm ab),by rw [es,pa];exact beq_self_eq_true _⟩
theorem LM {h s:Nat} {ls rs ms:Ls} {c:Cs} {low u v st:Int} {ns:List Int} (tn:Turn h ls rs c low) (pm:ns.Perm (ups h)) (st1:1<=st) (s1:1<=s) (cin:c∈AF (Au h ls) (A8 ls ns u v st h s) ns st (Aj u v ls) h) (cm:c.2.2.2=low) (sm:∀f,A5 f (dsL ms)=A5 f (dsL ls) - A5 f (dsL rs)+if f (B5 c) then low else 0):A8 ms ns u v st h s≠A8 ls ns u v st h s:=by
 have tt:total ms=total ls:=by
  unfold total
  rw [CW,sm,if_pos rfl,<- CW,<- CW,tn.sum]
  omega
 have le:Aj u v ms=Aj u v ls:=by unfold Aj;rw [tt]
 rw [Ge,Ge,le]
 refine Lr pm st1 (by unfold Aj;omega) s1 cin (fun b e=>?_) (fun a e=>?_)
 ·obtain ⟨hb,x,y⟩:=tn.wb b e
  rw [Ck (by omega),Ck (by omega),sm,x,y,cm,if_neg (by decide)]
  omega
 ·obtain ⟨ha,x,y⟩:=tn.wa a e
  rw [Ck (by omega),Ck (by omega),sm,x,y,cm,if_pos rfl]
  omega
inductive G5 (C:Addr) (vs:List V) (H:Hp) (Q:VK) (E:XK):Prop
 | mk (a l r sl so:Addr) (h s:Nat) (st u v low:Int) (ns:List Int) (ls rs:Ls) (c:Cs):vs=[.ref a,.ref l,.ref r,.int low,.ref so]->E1 C H a h s st u v ns->H l=some (.lst (vls ls))->BA h H ls->ls.length<=124->Lm ls->(ls.map fun q=>q.2.2.1).Nodup->Chg H h ls c low r sl rs->1<=total ls->1<=low->low<=10000000000000->Iw (AF (Au h ls) (A8 ls ns u v st h s) ns st (Aj u v ls) h) low->c∈AF (Au h ls) (A8 ls ns u v st h s) ns st (Aj u v ls) h->c.2.2.2=low->H so=some (.lst ((A8 ls ns u v st h s).map V.int))->(∀H':Hp,A0 H H'->Q (.bl true) H')->G5 C vs H Q E
theorem Jv (ls:Ls):PyData.eqv (.list (ls.map ld)) (.list (([]:Ls).map ld))=decide (ls=[]):=by
 cases ls with
 | nil=>rfl
 | cons q r=>exact (decide_eq_false (fun e=>nomatch e)).symm
noncomputable def pd (m:Int) (cs:List Cs):PyData:=.tuple [.int m,.list (cs.map cd)]
theorem Mw (m:Int) (cs:List Cs):SeqAt.shaped (pd m cs)=true:=by
 obtain ⟨h1,h2⟩:=NN cs
 unfold SeqAt.shaped
 rw [Bool.and_eq_true]
 refine ⟨?_,decide_eq_true ?_⟩
 ·show (true && (PyData.canLayAll0 (cs.map cd) && true))=true
  rw [h1];rfl
 ·show max 0 (max (PyData.depthAll (cs.map cd)+1) 0)+1<=64
  omega
theorem QT (m:Int) (cs:List Cs):PyData.eqv (pd m cs) (pd m cs)=true:=by
 show ((m == m) && (PyData.eqv (.list (cs.map cd)) (.list (cs.map cd)) && true))=true
 rw [N8,decide_eq_true rfl,beq_self_eq_true]
 rfl
theorem PN {K:PySem.W.Frag} {H:Hp} {t c:Addr} {m:Int} {cs:CL} (e:H t=some (.tup [.int m,.ref c])) (k:H c=some (.lst (vcl cs))) (g:BI H cs):Rep K H (.ref t) (pd m (Db cs)):=.tup (SqT.of e) (.cons (.int _) (.cons (Ox k g) .nil))
theorem Gk {f:List Int->Bool}:∀{rs:Ls},(∀q∈rs,0<=q.2.2.2)->0<=A5 f (dsL rs)
 | [],_=>Int.le_refl _
 | q :: r,k=>by
   show 0<=A5 f ((q.2.2.1,q.2.2.2) :: dsL r)
   rw [Bf]
   have:=k q (List.mem_cons_self ..)
   have:=Gk (f:=f) fun p m=>k p (List.mem_cons_of_mem _ m)
   split <;> omega
theorem G9 {h j:Nat} (hj:j<=h) {ls:Ls} (num:∀q∈ls,0<=q.2.2.2):0<=(Au h ls).getD j 0/\(Au h ls).getD j 0<=total ls:=by
 rw [Ck hj]
 have a:=Gk (f:=fun ts=>pl h ts == j) num
 have b:=Gk (f:=fun ts=>!(pl h ts == j)) num
 rw [Ir,<- CW] at b
 unfold total
 omega
theorem IV {h s:Nat} {ls:Ls} {c:Cs} {low u v st:Int} {ns:List Int} (num:∀q∈ls,0<=q.2.2.2) (u0:0<=u) (uv:u<=v) (v0:0 < v) (t:1<=total ls) (mc:Iw (AF (Au h ls) (A8 ls ns u v st h s) ns st (Aj u v ls) h) low) (cin:c∈AF (Au h ls) (A8 ls ns u v st h s) ns st (Aj u v ls) h) (cm:c.2.2.2=low):low<=total ls:=by
 have le1:1<=Aj u v ls:=by unfold Aj;omega
 rcases Kb cin with ⟨j,hj,rfl⟩ | ⟨b,hb,bp,e⟩
 ·have cm:Aj u v ls - (Au h ls).getD j 0=low:=cm
  have:=Gs u0 uv v0 t
  have:=G9 (h:=h) (j:=j) (by omega) num
  omega
 ·have fa:=mc.2 _ (Jw (vs:=Au h ls) (ns:=ns) (st:=st) (l:=Aj u v ls) hb bp).1
  have fa:low<=(Au h ls).getD b 0 - Aj u v ls+1:=fa
  have:=G9 (h:=h) (j:=b) (by omega) num
  omega
noncomputable def td (m:Int) (cs:List Cs):PyData:=.tuple [.int m,.int m,.list (cs.map cd)]
theorem Ms {K:PySem.W.Frag} {H:Hp} {t c:Addr} {m:Int} {cs:CL} (e:H t=some (.tup [.int m,.int m,.ref c])) (ec:H c=some (.lst (vcl cs))) (g:BI H cs):Rep K H (.ref t) (td m (Db cs)):=.tup (SqT.of e) (.cons (.int _) (.cons (.int _) (.cons (Ox ec g) .nil)))
theorem GM (m:Int) (cs:List Cs):SeqAt.shaped (td m cs)=true:=by
 obtain ⟨h1,h2⟩:=NN cs
 unfold SeqAt.shaped
 rw [Bool.and_eq_true]
 refine ⟨?_,decide_eq_true ?_⟩
 ·show (true && (true && (PyData.canLayAll0 (cs.map cd) && true)))=true
  rw [h1];rfl
 ·show max 0 (max (PyData.depthAll (cs.map cd)+1) 0)+1<=64
  omega
theorem PB (m:Int) (cs:List Cs):PyData.eqv (td m cs) (td m cs)=true:=by
 show ((m == m) && ((m == m) && (PyData.eqv (.list (cs.map cd)) (.list (cs.map cd)) && true)))=true
 rw [N8,decide_eq_true rfl,beq_self_eq_true]
 rfl
inductive KU (M C:Addr) (vs:List V) (H:Hp) (Q:VK) (E:XK):Prop
 | mk (g a l:Addr) (h s:Nat) (st u v:Int) (ns:List Int) (ls:Ls):vs=[.ref g,.ref a,.ref l]->IsM M H g a->E1 C H a h s st u v ns->H l=some (.lst (vls ls))->BA h H ls->ls.length<=120->Lm ls->(ls.map fun q=>q.2.2.1).Nodup->1<=total ls->total ls<=10000000000000->(∀H':Hp,A0 H H'->Q (.bl true) H')->KU M C vs H Q E
theorem GA {ls:Ls} (nS:JZ ls) (ne:ls≠[]):1<=total ls:=by
 cases ls with
 | nil=>exact absurd rfl ne
 | cons q r =>
   have a:=(nS q (List.mem_cons_self ..)).1
   have b:=(Fl (rs:=r) (fun x m=>(nS x (List.mem_cons_of_mem _ m)).1) r.length).1
   rw [List.take_of_length_le (Nat.le_refl _)] at b
   unfold total
   rw [List.map_cons,List.sum_cons]
   omega
theorem Iq {B:Int} (b0:0<=B):∀{ls:Ls},(∀q∈ls,q.2.2.2<=B)->total ls<=B*(ls.length:Int)
 | [],_=>by show (0:Int)<=B*0;omega
 | q :: r,k=>by
   have a:=k q (List.mem_cons_self ..)
   have b:=Iq b0 (ls:=r) fun x m=>k x (List.mem_cons_of_mem _ m)
   unfold total at b ⊢
   rw [List.map_cons,List.sum_cons,List.length_cons]
   push_cast
   rw [Int.mul_add,Int.mul_one]
   omega
theorem JZ.p {ls:Ls} (n:JZ ls):Lm ls:=fun q m=>⟨(n q m).1,by have:=(n q m).2;omega⟩
theorem MI {h s:Nat} {ls ms:Ls} {low u v st:Int} {ns:List Int} (pm:ns.Perm (ups h)) (st1:1<=st) (s1:1<=s) (mc:Iw (AF (Au h ls) (A8 ls ns u v st h s) ns st (Aj u v ls) h) low) (sm:∀f,A5 f (dsL ls) - (low - 1)<=A5 f (dsL ms)/\A5 f (dsL ms)<=A5 f (dsL ls)+(low - 1)) (tot:A5 (fun _=>true) (dsL ms)=A5 (fun _=>true) (dsL ls)):A8 ms ns u v st h s=A8 ls ns u v st h s:=by
 have tt:total ms=total ls:=by unfold total;rw [CW,CW,tot]
 have le:Aj u v ms=Aj u v ls:=by unfold Aj;rw [tt]
 rw [Ge] at mc
 rw [Ge,Ge,le]
 refine Lw (t:=low - 1) (low:=low) pm st1 (by unfold Aj;omega) s1 (by omega) mc.2 (fun j hj=>?_) (fun j hj=>?_)
 ·rw [Ck (by omega),Ck (by omega)]
  exact (sm _).1
 ·rw [Ck (by omega),Ck (by omega)]
  exact (sm _).2
def top (i:Nat):Stmt:=PySem.Challenge.pw_pollproof_k87_whole_margin_of_lists.main.body.getD i (.Pass ⟨0,0,0,0⟩)
abbrev Dd:Stmt:=top 7
abbrev Dz:Stmt:=top 8
abbrev Gh:Stmt:=top 9
abbrev Ni:Stmt:=top 10
abbrev EL:Stmt:=top 13
abbrev Dh:Stmt:=top 16
abbrev Dg:Stmt:=top 17
abbrev BP:Stmt:=top 21
abbrev D3:Stmt:=top 42
abbrev De:Stmt:=top 50
abbrev CK:Stmt:=top 51
abbrev CM:Stmt:=top 52
abbrev BZ:Stmt:=top 53
abbrev CG:Stmt:=Bm (top 31) 1
abbrev Bg:Stmt:=Bm (top 38) 8
abbrev BV:Stmt:=Bm (top 46) 0
abbrev Dc:Stmt:=top 12
abbrev CH:Stmt:=top 28
abbrev CI:Stmt:=top 29
abbrev CA:Stmt:=top 30
abbrev D4:Stmt:=top 34
abbrev CJ:Stmt:=top 36
abbrev D0:Stmt:=top 37
abbrev Cp:Stmt:=top 54
abbrev Df:Stmt:=top 55
abbrev Cq:Stmt:=top 56
abbrev Ci:Stmt:=top 58
abbrev Ca:Stmt:=top 62
abbrev Bd:Stmt:=Bm (top 38) 1
abbrev AG:Stmt:=Bm (top 38) 5
abbrev AM:Stmt:=Bm (top 48) 0
abbrev A2:Stmt:=Bm (top 48) 1
abbrev CB:Stmt:=top 35
abbrev Cj:Stmt:=top 57
abbrev Co:Stmt:=top 59
abbrev Ch:Stmt:=top 61
abbrev B9:Stmt:=top 63
abbrev BO:Stmt:=Bm (top 31) 0
abbrev Cn:Stmt:=Bm (top 38) 2
abbrev A9:Stmt:=Bm (top 48) 2
abbrev A4:Stmt:=Bm (top 48) 5
abbrev D1:Stmt:=top 60
abbrev Bs:Stmt:=Bm (top 38) 0
abbrev AZ:Stmt:=Bm (top 38) 3
abbrev Bk:Stmt:=Bm (top 38) 4
abbrev Bb:Stmt:=Bm (top 38) 6
abbrev B1:Stmt:=Bm (top 38) 7
abbrev BX:Stmt:=Bm (top 31) 4
abbrev BY:Stmt:=top 64
abbrev AC:Stmt:=Bm (top 48) 3
abbrev AQ:Stmt:=Bm (top 48) 4
abbrev AX:Stmt:=Bm (top 48) 6
abbrev BW:Stmt:=Bm (top 46) 4
abbrev B2:Stmt:=top 65
abbrev FI:Stmt:=top 66
theorem KH:As ["thing"] ["thing"] (Af Dd):=⟨rfl,rfl,rfl,by decide +kernel,rfl,by decide +kernel,by decide +kernel⟩
theorem Dj:As ["one","other","great","small","rest"] ["one","other"] (Af Dz):=⟨rfl,rfl,rfl,by decide +kernel,rfl,by decide +kernel,by decide +kernel⟩
theorem Pn:As ["top","bottom"] ["top","bottom"] (Af Gh):=⟨rfl,rfl,rfl,by decide +kernel,rfl,by decide +kernel,by decide +kernel⟩
theorem Rn:As ["top","bottom"] ["top","bottom"] (Af Ni):=⟨rfl,rfl,rfl,by decide +kernel,rfl,by decide +kernel,by decide +kernel⟩
theorem O1:As ["one","other"] ["one","other"] (Af EL):=⟨rfl,rfl,rfl,by decide +kernel,rfl,by decide +kernel,by decide +kernel⟩
theorem KJ:As ["mask","hand"] ["mask","hand"] (Af Dh):=⟨rfl,rfl,rfl,by decide +kernel,rfl,by decide +kernel,by decide +kernel⟩
theorem LI:As ["mask"] ["mask"] (Af Dg):=⟨rfl,rfl,rfl,by decide +kernel,rfl,by decide +kernel,by decide +kernel⟩
theorem IH:As ["sheet"] ["sheet"] (Af BP):=⟨rfl,rfl,rfl,by decide +kernel,rfl,by decide +kernel,by decide +kernel⟩
theorem CC:As ["lines","slip","many","rows","wanted","old","number","taken"] ["lines","slip","many"] (Af D3):=⟨rfl,rfl,rfl,by decide +kernel,rfl,by decide +kernel,by decide +kernel⟩
theorem KI:As ["_law_script","_law_k"] ["_law_script","_law_k"] (Af De):=⟨rfl,rfl,rfl,by decide +kernel,rfl,by decide +kernel,by decide +kernel⟩
theorem Et:As ["_law_cell_here","_law_by","_law_number_here"] ["_law_cell_here","_law_by"] (Af CK):=⟨rfl,rfl,rfl,by decide +kernel,rfl,by decide +kernel,by decide +kernel⟩
theorem JT:As ["_law_found"] ["_law_found"] (Af CM):=⟨rfl,rfl,rfl,by decide +kernel,rfl,by decide +kernel,by decide +kernel⟩
theorem DC:As ["_law_one","_law_other"] ["_law_one","_law_other"] (Af BZ):=⟨rfl,rfl,rfl,by decide +kernel,rfl,by decide +kernel,by decide +kernel⟩
theorem JP:As ["self","one","other"] ["self","one","other"] (Af CG):=⟨rfl,rfl,rfl,by decide +kernel,rfl,by decide +kernel,by decide +kernel⟩
theorem Eh:As ["self","paper","given"] ["self","paper"] (Af Bg):=⟨rfl,rfl,rfl,by decide +kernel,rfl,by decide +kernel,by decide +kernel⟩
theorem HX:As ["self","way"] ["self","way"] (Af BV):=⟨rfl,rfl,rfl,by decide +kernel,rfl,by decide +kernel,by decide +kernel⟩
theorem EA:As ["top","bottom","common"] ["top","bottom"] (Af Dc):=⟨rfl,rfl,rfl,by decide +kernel,rfl,by decide +kernel,by decide +kernel⟩
theorem JQ:As ["thing"] ["thing"] (Af CH):=⟨rfl,rfl,rfl,by decide +kernel,rfl,by decide +kernel,by decide +kernel⟩
theorem JR:As ["thing"] ["thing"] (Af CI):=⟨rfl,rfl,rfl,by decide +kernel,rfl,by decide +kernel,by decide +kernel⟩
theorem KG:As ["thing","hands"] ["thing","hands"] (Af CA):=⟨rfl,rfl,rfl,by decide +kernel,rfl,by decide +kernel,by decide +kernel⟩
theorem HZ:As ["slip","first"] ["slip"] (Af D4):=⟨rfl,rfl,rfl,by decide +kernel,rfl,by decide +kernel,by decide +kernel⟩
theorem JS:As ["thing"] ["thing"] (Af CJ):=⟨rfl,rfl,rfl,by decide +kernel,rfl,by decide +kernel,by decide +kernel⟩
theorem LH:As ["thing"] ["thing"] (Af D0):=⟨rfl,rfl,rfl,by decide +kernel,rfl,by decide +kernel,by decide +kernel⟩
theorem DR:As ["_law_top","_law_bottom","_law_by"] ["_law_top","_law_bottom"] (Af Cp):=⟨rfl,rfl,rfl,by decide +kernel,rfl,by decide +kernel,by decide +kernel⟩
theorem CN:As ["_law_cell_here","_law_hands","_law_number_here","_law_way_here","_law_first","_law_second","_law_mask"] ["_law_cell_here","_law_hands"] (Af Df):=⟨rfl,rfl,rfl,by decide +kernel,rfl,by decide +kernel,by decide +kernel⟩
theorem EU:As ["_law_cell_here","_law_k","_law_mode","_law_number_here"] ["_law_cell_here","_law_k","_law_mode"] (Af Cq):=⟨rfl,rfl,rfl,by decide +kernel,rfl,by decide +kernel,by decide +kernel⟩
theorem G1:As ["_law_cell_here","_law_hands","_law_order"] ["_law_cell_here","_law_hands"] (Af Ci):=⟨rfl,rfl,rfl,by decide +kernel,rfl,by decide +kernel,by decide +kernel⟩
theorem CV:As ["_law_slip_here","_law_hands","_law_seen","_law_tier"] ["_law_slip_here","_law_hands"] (Af Ca):=⟨rfl,rfl,rfl,by decide +kernel,rfl,by decide +kernel,by decide +kernel⟩
theorem E9:As ["self","ballots"] ["self","ballots"] (Af Bd):=⟨rfl,rfl,rfl,by decide +kernel,rfl,by decide +kernel,by decide +kernel⟩
theorem Bc:As ["self","marks","by_lots","best","hand"] ["self","marks"] (Af AG):=⟨rfl,rfl,rfl,by decide +kernel,rfl,by decide +kernel,by decide +kernel⟩
theorem Eg:As ["self","sheet"] ["self","sheet"] (Af AM):=⟨rfl,rfl,rfl,by decide +kernel,rfl,by decide +kernel,by decide +kernel⟩
theorem AH:As ["self","votes","outcome","b","a","by_b","by_a","lacking"] ["self","votes","outcome","b","a"] (Af A2):=⟨rfl,rfl,rfl,by decide +kernel,rfl,by decide +kernel,by decide +kernel⟩
theorem CO:As ["sheet","hands","votes","slip","number","hand","place"] ["sheet","hands"] (Af CB):=⟨rfl,rfl,rfl,by decide +kernel,rfl,by decide +kernel,by decide +kernel⟩
theorem BQ:As ["_law_script","_law_at","_law_hands","_law_drawn","_law_mode","_law_many","_law_k","_law_cell_here","_law_slip_here"] ["_law_script","_law_at","_law_hands"] (Af Cj):=⟨rfl,rfl,rfl,by decide +kernel,rfl,by decide +kernel,by decide +kernel⟩
theorem DQ:As ["_law_cell_here","_law_number_here","_law_bottom"] ["_law_cell_here"] (Af Co):=⟨rfl,rfl,rfl,by decide +kernel,rfl,by decide +kernel,by decide +kernel⟩
theorem AN:As ["_law_script","_law_sheet_here","_law_hands","_law_most","_law_many","_law_left","_law_drawn","_law_new","_law_room","_law_k","_law_cell_here","_law_slip_here","_law_gone"] ["_law_script","_law_sheet_here","_law_hands","_law_most"] (Af Ch):=⟨rfl,rfl,rfl,by decide +kernel,rfl,by decide +kernel,by decide +kernel⟩
theorem BH:As ["_law_sheet_here","_law_change","_law_low","_law_hands","_law_many","_law_left","_law_moved","_law_row"] ["_law_sheet_here","_law_change","_law_low","_law_hands"] (Af B9):=⟨rfl,rfl,rfl,by decide +kernel,rfl,by decide +kernel,by decide +kernel⟩
theorem KF:As ["self","hands","seats","lots"] ["self","hands","seats","lots"] (Af BO):=⟨rfl,rfl,rfl,by decide +kernel,rfl,by decide +kernel,by decide +kernel⟩
theorem IG:As ["self","many","had"] ["self","many","had"] (Af Cn):=⟨rfl,rfl,rfl,by decide +kernel,rfl,by decide +kernel,by decide +kernel⟩
theorem AD:As ["self","votes","outcome","least","b","to_fall","cases","a","to_pass"] ["self","votes","outcome","least","b"] (Af A9):=⟨rfl,rfl,rfl,by decide +kernel,rfl,by decide +kernel,by decide +kernel⟩
theorem Ct:As ["self","sheet","word","b","a","many","slip"] ["self","sheet","word","b","a","many"] (Af A4):=⟨rfl,rfl,rfl,by decide +kernel,rfl,by decide +kernel,by decide +kernel⟩
theorem Eu:As ["_law_script","_law_hands","_law_cell_here","_law_seats","_law_step"] ["_law_script","_law_hands"] (Af D1):=⟨rfl,rfl,rfl,by decide +kernel,rfl,by decide +kernel,by decide +kernel⟩
theorem IF:As ["self","hands","seats","lots","hurdle","step"] ["self","hands","seats","lots","hurdle","step"] (Af Bs):=⟨rfl,rfl,rfl,by decide +kernel,rfl,by decide +kernel,by decide +kernel⟩
theorem Ey:As ["self","many","least","had"] ["self","many","least","had"] (Af AZ):=⟨rfl,rfl,rfl,by decide +kernel,rfl,by decide +kernel,by decide +kernel⟩
theorem FJ:As ["self","votes","least","had"] ["self","votes","least","had"] (Af Bk):=⟨rfl,rfl,rfl,by decide +kernel,rfl,by decide +kernel,by decide +kernel⟩
theorem Bz:As ["self","votes","least","rounds","had","marks","hand"] ["self","votes","least"] (Af Bb):=⟨rfl,rfl,rfl,by decide +kernel,rfl,by decide +kernel,by decide +kernel⟩
theorem Di:As ["self","sheet","votes","least"] ["self","sheet"] (Af B1):=⟨rfl,rfl,rfl,by decide +kernel,rfl,by decide +kernel,by decide +kernel⟩
theorem HY:As ["self","sheet"] ["self","sheet"] (Af BX):=⟨rfl,rfl,rfl,by decide +kernel,rfl,by decide +kernel,by decide +kernel⟩
theorem EB:As ["_law_way_here","_law_sheet_here","_law_change","_law_low","_law_seats","_law_behind"] ["_law_way_here","_law_sheet_here","_law_change","_law_low","_law_seats"] (Af BY):=⟨rfl,rfl,rfl,by decide +kernel,rfl,by decide +kernel,by decide +kernel⟩
theorem AI:As ["self","sheet","votes","least","outcome","cases","b"] ["self","sheet"] (Af AC):=⟨rfl,rfl,rfl,by decide +kernel,rfl,by decide +kernel,by decide +kernel⟩
theorem Do:As ["self","sheet","cases"] ["self","sheet"] (Af AQ):=⟨rfl,rfl,rfl,by decide +kernel,rfl,by decide +kernel,by decide +kernel⟩
theorem Cv:As ["self","sheet","least","first"] ["self","sheet"] (Af AX):=⟨rfl,rfl,rfl,by decide +kernel,rfl,by decide +kernel,by decide +kernel⟩
theorem DB:As ["self","sheet","least","high"] ["self","sheet"] (Af BW):=⟨rfl,rfl,rfl,by decide +kernel,rfl,by decide +kernel,by decide +kernel⟩
theorem Bv:As ["_law_margin","_law_way_here","_law_other","_law_low","_law_cases","_law_seats","_law_told","_law_found"] ["_law_margin","_law_way_here","_law_other"] (Af B2):=⟨rfl,rfl,rfl,by decide +kernel,rfl,by decide +kernel,by decide +kernel⟩
theorem Dr:As ["_law_script","_law_hands","_law_way_told","_law_sheet_here","_law_way_here","_law_margin","_law_told","_law_low","_law_seats","_law_kept","_law_again","_law_found"] ["_law_script"] (Af FI):=⟨rfl,rfl,rfl,by decide +kernel,rfl,by decide +kernel,by decide +kernel⟩
structure Ads where
 f_is_whole:Addr
 d_is_whole:FuncData
 f_divisor:Addr
 d_divisor:FuncData
 f_down:Addr
 d_down:FuncData
 f_up:Addr
 d_up:FuncData
 f_under:Addr
 d_under:FuncData
 f_with_one:Addr
 d_with_one:FuncData
 f_members:Addr
 d_members:FuncData
 f_ballots_in:Addr
 d_ballots_in:FuncData
 f_rows_to:Addr
 d_rows_to:FuncData
 f_law_cell:Addr
 d_law_cell:FuncData
 f_law_mixed:Addr
 d_law_mixed:FuncData
 f_law_whole:Addr
 d_law_whole:FuncData
 f_law_divisor:Addr
 d_law_divisor:FuncData
 f_Way_ahead:Addr
 d_Way_ahead:FuncData
 f_Lists_told_by:Addr
 d_Lists_told_by:FuncData
 f_Margin_init:Addr
 d_Margin_init:FuncData
 f_fraction:Addr
 d_fraction:FuncData
 f_are_hands:Addr
 d_are_hands:FuncData
 f_are_seats:Addr
 d_are_seats:FuncData
 f_are_lots:Addr
 d_are_lots:FuncData
 f_vote_of:Addr
 d_vote_of:FuncData
 f_is_hurdle:Addr
 d_is_hurdle:FuncData
 f_is_step:Addr
 d_is_step:FuncData
 f_law_lowest:Addr
 d_law_lowest:FuncData
 f_law_slip:Addr
 d_law_slip:FuncData
 f_law_number:Addr
 d_law_number:FuncData
 f_law_lots:Addr
 d_law_lots:FuncData
 f_law_is_slip:Addr
 d_law_is_slip:FuncData
 f_Lists_least_votes:Addr
 d_Lists_least_votes:FuncData
 f_Lists_greatest_mark:Addr
 d_Lists_greatest_mark:FuncData
 f_ListsMargin_possible:Addr
 d_ListsMargin_possible:FuncData
 f_ListsMargin_votes_to_overtake:Addr
 d_ListsMargin_votes_to_overtake:FuncData
 f_votes_of:Addr
 d_votes_of:FuncData
 f_law_sheet:Addr
 d_law_sheet:FuncData
 f_law_hurdle:Addr
 d_law_hurdle:FuncData
 f_law_fewer:Addr
 d_law_fewer:FuncData
 f_law_changed:Addr
 d_law_changed:FuncData
 f_Way_init:Addr
 d_Way_init:FuncData
 f_Lists_mark:Addr
 d_Lists_mark:FuncData
 f_ListsMargin_cases_of_hand:Addr
 d_ListsMargin_cases_of_hand:FuncData
 f_ListsMargin_change_for:Addr
 d_ListsMargin_change_for:FuncData
 f_law_way:Addr
 d_law_way:FuncData
 f_Lists_init:Addr
 d_Lists_init:FuncData
 f_Lists_mark_or_none:Addr
 d_Lists_mark_or_none:FuncData
 f_Lists_marks_of:Addr
 d_Lists_marks_of:FuncData
 f_Lists_rounds_of:Addr
 d_Lists_rounds_of:FuncData
 f_Lists_counted:Addr
 d_Lists_counted:FuncData
 f_Way_outcome:Addr
 d_Way_outcome:FuncData
 f_law_another:Addr
 d_law_another:FuncData
 f_ListsMargin_cases_of:Addr
 d_ListsMargin_cases_of:FuncData
 f_ListsMargin_least:Addr
 d_ListsMargin_least:FuncData
 f_ListsMargin_high:Addr
 d_ListsMargin_high:FuncData
 f_Margin_told:Addr
 d_Margin_told:FuncData
 f_law_like_anew:Addr
 d_law_like_anew:FuncData
 f_law:Addr
 d_law:FuncData
 c_Lists:Addr
 c_Way:Addr
 c_ListsMargin:Addr
 c_Margin:Addr
 t_MOST_HANDS:Tok
 t_MOST_SEATS:Tok
 t_MOST_STEP:Tok
 td_Lists_init2:Tok
structure Tx (K:PySem.W.Frag) (mg:Str->Option Value) (a:Ads):Prop where
 F_is_whole:Fun K "is_whole" "is_whole" Dd a.f_is_whole a.d_is_whole
 b_is_whole:A3 K a.d_is_whole ["thing"] []
 m_is_whole:mg "is_whole"=some (.ref a.f_is_whole)
 F_divisor:Fun K "divisor" "divisor" Dz a.f_divisor a.d_divisor
 b_divisor:A3 K a.d_divisor ["one","other"] []
 m_divisor:mg "divisor"=some (.ref a.f_divisor)
 F_down:Fun K "down" "down" Gh a.f_down a.d_down
 b_down:A3 K a.d_down ["top","bottom"] []
 m_down:mg "down"=some (.ref a.f_down)
 F_up:Fun K "up" "up" Ni a.f_up a.d_up
 b_up:A3 K a.d_up ["top","bottom"] []
 m_up:mg "up"=some (.ref a.f_up)
 F_under:Fun K "under" "under" EL a.f_under a.d_under
 b_under:A3 K a.d_under ["one","other"] []
 m_under:mg "under"=some (.ref a.f_under)
 F_with_one:Fun K "with_one" "with_one" Dh a.f_with_one a.d_with_one
 b_with_one:A3 K a.d_with_one ["mask","hand"] []
 m_with_one:mg "with_one"=some (.ref a.f_with_one)
 F_members:Fun K "members" "members" Dg a.f_members a.d_members
 b_members:A3 K a.d_members ["mask"] []
 m_members:mg "members"=some (.ref a.f_members)
 F_ballots_in:Fun K "ballots_in" "ballots_in" BP a.f_ballots_in a.d_ballots_in
 b_ballots_in:A3 K a.d_ballots_in ["sheet"] []
 m_ballots_in:mg "ballots_in"=some (.ref a.f_ballots_in)
 F_rows_to:Fun K "rows_to" "rows_to" D3 a.f_rows_to a.d_rows_to
 b_rows_to:A3 K a.d_rows_to ["lines","slip","many"] []
 m_rows_to:mg "rows_to"=some (.ref a.f_rows_to)
 F_law_cell:Fun K "_law_cell" "_law_cell" De a.f_law_cell a.d_law_cell
 b_law_cell:A3 K a.d_law_cell ["_law_script","_law_k"] []
 m_law_cell:mg "_law_cell"=some (.ref a.f_law_cell)
 F_law_mixed:Fun K "_law_mixed" "_law_mixed" CK a.f_law_mixed a.d_law_mixed
 b_law_mixed:A3 K a.d_law_mixed ["_law_cell_here","_law_by"] []
 m_law_mixed:mg "_law_mixed"=some (.ref a.f_law_mixed)
 F_law_whole:Fun K "_law_whole" "_law_whole" CM a.f_law_whole a.d_law_whole
 b_law_whole:A3 K a.d_law_whole ["_law_found"] []
 m_law_whole:mg "_law_whole"=some (.ref a.f_law_whole)
 F_law_divisor:Fun K "_law_divisor" "_law_divisor" BZ a.f_law_divisor a.d_law_divisor
 b_law_divisor:A3 K a.d_law_divisor ["_law_one","_law_other"] []
 m_law_divisor:mg "_law_divisor"=some (.ref a.f_law_divisor)
 F_Way_ahead:Fun K "ahead" "Way.ahead" CG a.f_Way_ahead a.d_Way_ahead
 b_Way_ahead:A3 K a.d_Way_ahead ["self","one","other"] []
 F_Lists_told_by:Fun K "told_by" "Lists.told_by" Bg a.f_Lists_told_by a.d_Lists_told_by
 b_Lists_told_by:A3 K a.d_Lists_told_by ["self","paper"] []
 F_Margin_init:Fun K "__init__" "Margin.__init__" BV a.f_Margin_init a.d_Margin_init
 b_Margin_init:A3 K a.d_Margin_init ["self","way"] []
 F_fraction:Fun K "fraction" "fraction" Dc a.f_fraction a.d_fraction
 b_fraction:A3 K a.d_fraction ["top","bottom"] []
 m_fraction:mg "fraction"=some (.ref a.f_fraction)
 F_are_hands:Fun K "are_hands" "are_hands" CH a.f_are_hands a.d_are_hands
 b_are_hands:A3 K a.d_are_hands ["thing"] []
 m_are_hands:mg "are_hands"=some (.ref a.f_are_hands)
 F_are_seats:Fun K "are_seats" "are_seats" CI a.f_are_seats a.d_are_seats
 b_are_seats:A3 K a.d_are_seats ["thing"] []
 m_are_seats:mg "are_seats"=some (.ref a.f_are_seats)
 F_are_lots:Fun K "are_lots" "are_lots" CA a.f_are_lots a.d_are_lots
 b_are_lots:A3 K a.d_are_lots ["thing","hands"] []
 m_are_lots:mg "are_lots"=some (.ref a.f_are_lots)
 F_vote_of:Fun K "vote_of" "vote_of" D4 a.f_vote_of a.d_vote_of
 b_vote_of:A3 K a.d_vote_of ["slip"] []
 m_vote_of:mg "vote_of"=some (.ref a.f_vote_of)
 F_is_hurdle:Fun K "is_hurdle" "is_hurdle" CJ a.f_is_hurdle a.d_is_hurdle
 b_is_hurdle:A3 K a.d_is_hurdle ["thing"] []
 m_is_hurdle:mg "is_hurdle"=some (.ref a.f_is_hurdle)
 F_is_step:Fun K "is_step" "is_step" D0 a.f_is_step a.d_is_step
 b_is_step:A3 K a.d_is_step ["thing"] []
 m_is_step:mg "is_step"=some (.ref a.f_is_step)
 F_law_lowest:Fun K "_law_lowest" "_law_lowest" Cp a.f_law_lowest a.d_law_lowest
 b_law_lowest:A3 K a.d_law_lowest ["_law_top","_law_bottom"] []
 m_law_lowest:mg "_law_lowest"=some (.ref a.f_law_lowest)
 F_law_slip:Fun K "_law_slip" "_law_slip" Df a.f_law_slip a.d_law_slip
 b_law_slip:A3 K a.d_law_slip ["_law_cell_here","_law_hands"] []
 m_law_slip:mg "_law_slip"=some (.ref a.f_law_slip)
 F_law_number:Fun K "_law_number" "_law_number" Cq a.f_law_number a.d_law_number
 b_law_number:A3 K a.d_law_number ["_law_cell_here","_law_k","_law_mode"] []
 m_law_number:mg "_law_number"=some (.ref a.f_law_number)
 F_law_lots:Fun K "_law_lots" "_law_lots" Ci a.f_law_lots a.d_law_lots
 b_law_lots:A3 K a.d_law_lots ["_law_cell_here","_law_hands"] []
 m_law_lots:mg "_law_lots"=some (.ref a.f_law_lots)
 F_law_is_slip:Fun K "_law_is_slip" "_law_is_slip" Ca a.f_law_is_slip a.d_law_is_slip
 b_law_is_slip:A3 K a.d_law_is_slip ["_law_slip_here","_law_hands"] []
 m_law_is_slip:mg "_law_is_slip"=some (.ref a.f_law_is_slip)
 F_Lists_least_votes:Fun K "least_votes" "Lists.least_votes" Bd a.f_Lists_least_votes a.d_Lists_least_votes
 b_Lists_least_votes:A3 K a.d_Lists_least_votes ["self","ballots"] []
 F_Lists_greatest_mark:Fun K "greatest_mark" "Lists.greatest_mark" AG a.f_Lists_greatest_mark a.d_Lists_greatest_mark
 b_Lists_greatest_mark:A3 K a.d_Lists_greatest_mark ["self","marks"] []
 F_ListsMargin_possible:Fun K "possible" "ListsMargin.possible" AM a.f_ListsMargin_possible a.d_ListsMargin_possible
 b_ListsMargin_possible:A3 K a.d_ListsMargin_possible ["self","sheet"] []
 F_ListsMargin_votes_to_overtake:Fun K "votes_to_overtake" "ListsMargin.votes_to_overtake" A2 a.f_ListsMargin_votes_to_overtake a.d_ListsMargin_votes_to_overtake
 b_ListsMargin_votes_to_overtake:A3 K a.d_ListsMargin_votes_to_overtake ["self","votes","outcome","b","a"] []
 F_votes_of:Fun K "votes_of" "votes_of" CB a.f_votes_of a.d_votes_of
 b_votes_of:A3 K a.d_votes_of ["sheet","hands"] []
 m_votes_of:mg "votes_of"=some (.ref a.f_votes_of)
 F_law_sheet:Fun K "_law_sheet" "_law_sheet" Cj a.f_law_sheet a.d_law_sheet
 b_law_sheet:A3 K a.d_law_sheet ["_law_script","_law_at","_law_hands"] []
 m_law_sheet:mg "_law_sheet"=some (.ref a.f_law_sheet)
 F_law_hurdle:Fun K "_law_hurdle" "_law_hurdle" Co a.f_law_hurdle a.d_law_hurdle
 b_law_hurdle:A3 K a.d_law_hurdle ["_law_cell_here"] []
 m_law_hurdle:mg "_law_hurdle"=some (.ref a.f_law_hurdle)
 F_law_fewer:Fun K "_law_fewer" "_law_fewer" Ch a.f_law_fewer a.d_law_fewer
 b_law_fewer:A3 K a.d_law_fewer ["_law_script","_law_sheet_here","_law_hands","_law_most"] []
 m_law_fewer:mg "_law_fewer"=some (.ref a.f_law_fewer)
 F_law_changed:Fun K "_law_changed" "_law_changed" B9 a.f_law_changed a.d_law_changed
 b_law_changed:A3 K a.d_law_changed ["_law_sheet_here","_law_change","_law_low","_law_hands"] []
 m_law_changed:mg "_law_changed"=some (.ref a.f_law_changed)
 F_Way_init:Nq K "__init__" "Way.__init__" BO a.f_Way_init a.d_Way_init
 b_Way_init:A3 K a.d_Way_init ["self","hands","seats","lots"] []
 F_Lists_mark:Fun K "mark" "Lists.mark" Cn a.f_Lists_mark a.d_Lists_mark
 b_Lists_mark:A3 K a.d_Lists_mark ["self","many","had"] []
 F_ListsMargin_cases_of_hand:Fun K "cases_of_hand" "ListsMargin.cases_of_hand" A9 a.f_ListsMargin_cases_of_hand a.d_ListsMargin_cases_of_hand
 b_ListsMargin_cases_of_hand:A3 K a.d_ListsMargin_cases_of_hand ["self","votes","outcome","least","b"] []
 F_ListsMargin_change_for:Fun K "change_for" "ListsMargin.change_for" A4 a.f_ListsMargin_change_for a.d_ListsMargin_change_for
 b_ListsMargin_change_for:A3 K a.d_ListsMargin_change_for ["self","sheet","word","b","a","many"] []
 F_law_way:Fun K "_law_way" "_law_way" D1 a.f_law_way a.d_law_way
 b_law_way:A3 K a.d_law_way ["_law_script","_law_hands"] []
 m_law_way:mg "_law_way"=some (.ref a.f_law_way)
 F_Lists_init:Nq K "__init__" "Lists.__init__" Bs a.f_Lists_init a.d_Lists_init
 b_Lists_init:A3 K a.d_Lists_init ["self","hands","seats","lots","hurdle","step"] []
 F_Lists_mark_or_none:Fun K "mark_or_none" "Lists.mark_or_none" AZ a.f_Lists_mark_or_none a.d_Lists_mark_or_none
 b_Lists_mark_or_none:A3 K a.d_Lists_mark_or_none ["self","many","least","had"] []
 F_Lists_marks_of:Fun K "marks_of" "Lists.marks_of" Bk a.f_Lists_marks_of a.d_Lists_marks_of
 b_Lists_marks_of:A3 K a.d_Lists_marks_of ["self","votes","least","had"] []
 F_Lists_rounds_of:Fun K "rounds_of" "Lists.rounds_of" Bb a.f_Lists_rounds_of a.d_Lists_rounds_of
 b_Lists_rounds_of:A3 K a.d_Lists_rounds_of ["self","votes","least"] []
 F_Lists_counted:Fun K "counted" "Lists.counted" B1 a.f_Lists_counted a.d_Lists_counted
 b_Lists_counted:A3 K a.d_Lists_counted ["self","sheet"] []
 F_Way_outcome:Fun K "outcome" "Way.outcome" BX a.f_Way_outcome a.d_Way_outcome
 b_Way_outcome:A3 K a.d_Way_outcome ["self","sheet"] []
 F_law_another:Fun K "_law_another" "_law_another" BY a.f_law_another a.d_law_another
 b_law_another:A3 K a.d_law_another ["_law_way_here","_law_sheet_here","_law_change","_law_low","_law_seats"] []
 m_law_another:mg "_law_another"=some (.ref a.f_law_another)
 F_ListsMargin_cases_of:Fun K "cases_of" "ListsMargin.cases_of" AC a.f_ListsMargin_cases_of a.d_ListsMargin_cases_of
 b_ListsMargin_cases_of:A3 K a.d_ListsMargin_cases_of ["self","sheet"] []
 F_ListsMargin_least:Fun K "least" "ListsMargin.least" AQ a.f_ListsMargin_least a.d_ListsMargin_least
 b_ListsMargin_least:A3 K a.d_ListsMargin_least ["self","sheet"] []
 F_ListsMargin_high:Fun K "high" "ListsMargin.high" AX a.f_ListsMargin_high a.d_ListsMargin_high
 b_ListsMargin_high:A3 K a.d_ListsMargin_high ["self","sheet"] []
 F_Margin_told:Fun K "told" "Margin.told" BW a.f_Margin_told a.d_Margin_told
 b_Margin_told:A3 K a.d_Margin_told ["self","sheet"] []
 F_law_like_anew:Fun K "_law_like_anew" "_law_like_anew" B2 a.f_law_like_anew a.d_law_like_anew
 b_law_like_anew:A3 K a.d_law_like_anew ["_law_margin","_law_way_here","_law_other"] []
 m_law_like_anew:mg "_law_like_anew"=some (.ref a.f_law_like_anew)
 F_law:Fun K "law" "law" FI a.f_law a.d_law
 b_law:A3 K a.d_law ["_law_script"] []
 m_law:mg "law"=some (.ref a.f_law)
 z_abs:mg "abs"=none
 z_all:mg "all"=none
 z_bool:mg "bool"=none
 z_dict:mg "dict"=none
 z_int:mg "int"=none
 z_isinstance:mg "isinstance"=none
 z_len:mg "len"=none
 z_list:mg "list"=none
 z_max:mg "max"=none
 z_min:mg "min"=none
 z_range:mg "range"=none
 z_sorted:mg "sorted"=none
 z_sum:mg "sum"=none
 z_tuple:mg "tuple"=none
 k_MOST_HANDS:mg "MOST_HANDS"=some (.int 12 a.t_MOST_HANDS)
 k_MOST_SEATS:mg "MOST_SEATS"=some (.int 60 a.t_MOST_SEATS)
 k_MOST_STEP:mg "MOST_STEP"=some (.int 9 a.t_MOST_STEP)
 m_Lists:mg "Lists"=some (.ref a.c_Lists)
 cl_Lists:Cls K a.c_Lists
 mk_Lists:Mk K a.c_Lists a.f_Lists_init
 me_Lists_least_votes:DS K a.c_Lists "least_votes" a.f_Lists_least_votes
 me_Lists_mark:DS K a.c_Lists "mark" a.f_Lists_mark
 me_Lists_mark_or_none:DS K a.c_Lists "mark_or_none" a.f_Lists_mark_or_none
 me_Lists_marks_of:DS K a.c_Lists "marks_of" a.f_Lists_marks_of
 me_Lists_greatest_mark:DS K a.c_Lists "greatest_mark" a.f_Lists_greatest_mark
 me_Lists_rounds_of:DS K a.c_Lists "rounds_of" a.f_Lists_rounds_of
 me_Lists_counted:DS K a.c_Lists "counted" a.f_Lists_counted
 me_Lists_told_by:DS K a.c_Lists "told_by" a.f_Lists_told_by
 me_Lists_outcome:DS K a.c_Lists "outcome" a.f_Way_outcome
 me_Lists_ahead:DS K a.c_Lists "ahead" a.f_Way_ahead
 na_Lists_hands:B6 K a.c_Lists "hands"
 na_Lists_seats:B6 K a.c_Lists "seats"
 na_Lists_lots:B6 K a.c_Lists "lots"
 na_Lists_hurdle:B6 K a.c_Lists "hurdle"
 na_Lists_step:B6 K a.c_Lists "step"
 m_Way:mg "Way"=some (.ref a.c_Way)
 cl_Way:Cls K a.c_Way
 cf_Way_init__:CFn K a.c_Way "__init__" a.f_Way_init
 m_ListsMargin:mg "ListsMargin"=some (.ref a.c_ListsMargin)
 cl_ListsMargin:Cls K a.c_ListsMargin
 mk_ListsMargin:Mk K a.c_ListsMargin a.f_Margin_init
 me_ListsMargin_votes_to_overtake:DS K a.c_ListsMargin "votes_to_overtake" a.f_ListsMargin_votes_to_overtake
 me_ListsMargin_cases_of_hand:DS K a.c_ListsMargin "cases_of_hand" a.f_ListsMargin_cases_of_hand
 me_ListsMargin_cases_of:DS K a.c_ListsMargin "cases_of" a.f_ListsMargin_cases_of
 me_ListsMargin_least:DS K a.c_ListsMargin "least" a.f_ListsMargin_least
 me_ListsMargin_possible:DS K a.c_ListsMargin "possible" a.f_ListsMargin_possible
 me_ListsMargin_change_for:DS K a.c_ListsMargin "change_for" a.f_ListsMargin_change_for
 me_ListsMargin_high:DS K a.c_ListsMargin "high" a.f_ListsMargin_high
 me_ListsMargin_told:DS K a.c_ListsMargin "told" a.f_Margin_told
 na_ListsMargin_way:B6 K a.c_ListsMargin "way"
 ia_ListsMargin_Margin:QL K a.c_ListsMargin a.c_Margin
 m_Margin:mg "Margin"=some (.ref a.c_Margin)
 cl_Margin:Cls K a.c_Margin
local macro_rules | `(tactic| trivial)=>`(tactic| refine Sz.neg (by trivial))
local macro_rules | `(tactic| trivial)=>`(tactic| refine Sz.fdiv (by trivial))
local macro_rules | `(tactic| trivial)=>`(tactic| refine Sz.sub (by trivial) (by trivial))
local macro_rules | `(tactic| trivial)=>`(tactic| refine Sz.add (by trivial) (by trivial))
local macro_rules | `(tactic| trivial)=>`(tactic| refine Sz.mul (by trivial) (by trivial))
local macro_rules | `(tactic| trivial)=>`(tactic| exact Py _ (by first | decide | decide +kernel) (szd 200))
local macro_rules | `(tactic| trivial)=>`(tactic| first | assumption | exact szd 64 | exact szd 200 | exact szd 1000)
local macro_rules | `(tactic| and_intros)=>`(tactic| (repeat (first | refine ⟨_,rfl,?_⟩ | refine ⟨_,_,rfl,rfl,?_⟩ | refine ⟨rfl,?_⟩ | refine ⟨(by show (_:Int)≠0;first | decide | decide +kernel),?_⟩ | refine ⟨⟨(by show (_:Int)≠0;decide),szd 9000⟩,?_⟩ | refine ⟨(by show JX _ _;exact ⟨by decide,by decide,by decide⟩),?_⟩ | refine ⟨(by show LQ _ _;refine ⟨_,_,(by trivial),(by trivial),?_⟩;decide +kernel),?_⟩ | refine ⟨_,_,_,_,rfl,rfl,SqL.of (by assumption),(by rfl),?_⟩ | refine ⟨_,_,_,_,rfl,rfl,SqT.of (by assumption),(by rfl),?_⟩ | refine ⟨_,_,rfl,.inl (SqL.of (by assumption)),?_⟩ | refine ⟨_,_,rfl,.inr (SqT.of (by assumption)),?_⟩)))
local macro_rules | `(tactic| subst_eqs)=>`(tactic| (repeat (first | with_reducible refine O2 fun _ _=>?_ | refine ⟨_,rfl,?_⟩ | refine ⟨_,_,rfl,rfl,?_⟩ | refine ⟨rfl,?_⟩ | refine ⟨(by show (_:Int)≠0;first | decide | decide +kernel),?_⟩ | refine ⟨⟨(by show (_:Int)≠0;decide),szd 9000⟩,?_⟩ | refine ⟨(by show JX _ _;exact ⟨by decide,by decide,by decide⟩),?_⟩ | refine ⟨(by show LQ _ _;refine ⟨_,_,(by trivial),(by trivial),?_⟩;decide +kernel),?_⟩ | refine ⟨_,_,_,_,rfl,rfl,SqL.of (by assumption),(by rfl),?_⟩ | refine ⟨_,_,_,_,rfl,rfl,SqT.of (by assumption),(by rfl),?_⟩ | refine ⟨_,_,rfl,.inl (SqL.of (by assumption)),?_⟩ | refine ⟨_,_,rfl,.inr (SqT.of (by assumption)),?_⟩ | refine P2 (by assumption) ?_ | refine M6 (by assumption) ?_)))
section
variable {P:Program} {w:World} {K:PySem.W.Frag} {mg:Str->Option Value} {base:Heap} {ad:Ads}
theorem BJ (T:Tx K mg ad):AO P w K mg base CX0 1 ad.f_is_whole ad.d_is_whole ["thing"] M4:=by
 refine T.F_is_whole.ok KH (fun vs H Q E h=>?_) (fun cdv A outer s H vs Q E hr h=>?_)
 ·obtain ⟨c,rfl,_⟩:=h
  rfl
 obtain ⟨c,rfl,q⟩:=h
 refine ⟨_,(@Ah _ _ _ (@An _ _ _ _ (@D9 _ _ _ _ _ _ _ (@Ax _ _ _ _ _ _ _ _ _ BR (by rfl) T.z_isinstance PyProof.Rows.boot_isinstance (@Aa _ _ _ _ _ (pv 0) (@Aa _ _ _ _ _ (C2 (v:=.ty "int") rfl T.z_int PyProof.Rows.boot_int rfl) Ac (by rfl)) (by rfl)) (by decide) (by decide) (by rfl) (by rfl)) (@DA _ _ _ _ _ (@Oi _ _ _ _ (@Ax _ _ _ _ _ _ _ _ _ BR (by rfl) T.z_isinstance PyProof.Rows.boot_isinstance (@Aa _ _ _ _ _ (pv 0) (@Aa _ _ _ _ _ (C2 (v:=.ty "bool") rfl T.z_bool PyProof.Rows.boot_bool rfl) Ac (by rfl)) (by rfl)) (by decide) (by decide) (by rfl) (by rfl))))))),?_⟩
 refine ⟨_,rfl,_,_,_,_,rfl,Dp.int c,Gr,_,rfl,?_⟩
 refine Qn ?_
 exact ⟨_,rfl,_,_,_,_,rfl,Dp.int c,Fy,_,rfl,q⟩
theorem Hj (T:Tx K mg ad):AO P w K mg base CX0 1 ad.f_divisor ad.d_divisor ["one","other"] Jd:=by
 refine T.F_divisor.ok Dj (fun vs H Q E h=>?_) (fun cdv A outer s H vs Q E hr h=>?_)
 ·obtain ⟨a,b,rfl,_⟩:=h
  rfl
 obtain ⟨a,b,rfl,q⟩:=h
 refine ⟨_,(@Ad _ _ _ _ _ (@Al _ _ (2) _ _ _ _ Dj.nd rfl (Or.inl rfl) (@Ax _ _ _ _ _ _ _ _ _ Fr (by rfl) T.z_abs PyProof.Rows.boot_abs (@Aa _ _ _ _ _ (pv 0) Ac (by rfl)) (by decide) (by decide) (by rfl) (by rfl)) (by rfl) (by first | exact .inl rfl | exact .inr rfl | assumption)) (@Ad _ _ _ _ _ (@Al _ _ (3) _ _ _ _ Dj.nd rfl (Or.inl rfl) (@Ax _ _ _ _ _ _ _ _ _ Fr (by rfl) T.z_abs PyProof.Rows.boot_abs (@Aa _ _ _ _ _ (pv 1) Ac (by rfl)) (by decide) (by decide) (by rfl) (by rfl)) (by rfl) (by first | exact .inl rfl | exact .inr rfl | assumption)) (@Ad _ _ _ _ _ (Hz PassesOwn.never (@Aq _ _ _ _ _ _ _ _ Ho (pv 3) Ab (Ar _)) (@Ad _ _ _ _ _ (@Al _ _ (4) _ _ _ _ Dj.nd rfl (Or.inl rfl) (@Ai _ _ _ _ _ _ _ _ A7 (pv 2) (pv 3)) (by rfl) (by first | exact .inl rfl | exact .inr rfl | assumption)) (@Ad _ _ _ _ _ (@Al _ _ (2) _ _ _ _ Dj.nd rfl (Or.inl rfl) (pv 3) (by rfl) (by first | exact .inl rfl | exact .inr rfl | assumption)) (@Ah _ _ _ (@Al _ _ (3) _ _ _ _ Dj.nd rfl (Or.inl rfl) (pv 4) (by rfl) (by first | exact .inl rfl | exact .inr rfl | assumption)))))) (@Ah _ _ _ (@An _ _ _ _ (pv 2)))))),?_⟩
 refine ⟨_,rfl,_,rfl,?_⟩
 refine ⟨_,rfl,_,rfl,?_⟩
 refine Lj (fun σ' H'=>∃(x y:Int) (v:Option V),σ'=[some (.int a),some (.int b),some (.int x),some (.int y),v]/\H'=H/\0<=x/\0<=y/\Int.gcd x y=Int.gcd a b) (fun σ' _=>match σ' with | [_,_,_,some (.int y),_]=>y.toNat | _=>0) ⟨_,_,_,rfl,rfl,?_,?_,Mb a b⟩ ?_ GB
 ·rw [MA];omega
 ·rw [MA];omega
 rintro σ1 H1 ⟨x,y,v,rfl,rfl,x0,y0,g⟩
 refine ⟨_,rfl,_,_,rfl,rfl,_,rfl,?_⟩
 refine Fe (fun c=>?_) (fun c=>?_)
 ·have c':0 < y:=of_decide_eq_true c
  have m:=AR x c'
  refine ⟨_,rfl,_,rfl,_,_,rfl,rfl,Int.ne_of_gt c',?_⟩
  refine ⟨_,rfl,?_⟩
  refine ⟨_,rfl,?_⟩
  refine ⟨⟨y,x.fmod y,_,rfl,rfl,y0,m.1,(Km x0 c').trans g⟩,?_⟩
  show (x.fmod y).toNat < y.toNat
  omega
 ·have c':¬ 0 < y:=fun e=>c (decide_eq_true e)
  refine ⟨_,rfl,?_⟩
  have e:=Mc x0 y0 c'
  have e2:Cy x y=Cy a b:=by unfold Cy;rw [g]
  rw [e,e2]
  exact q
theorem OY (T:Tx K mg ad):AO P w K mg base CX0 1 ad.f_down ad.d_down ["top","bottom"] O4:=by
 refine T.F_down.ok Pn (fun vs H Q E h=>?_) (fun cdv A outer s H vs Q E hr h=>?_)
 ·obtain ⟨t,b,rfl,_⟩:=h
  rfl
 obtain ⟨t,b,rfl,h0,hz,q⟩:=h
 refine ⟨_,(@Ah _ _ _ (@An _ _ _ _ (@Ai _ _ _ _ _ _ _ _ AY (pv 0) (pv 1)))),?_⟩
 exact ⟨_,rfl,_,rfl,_,_,rfl,rfl,⟨Int.ne_of_gt h0,hz⟩,q⟩
theorem PF (T:Tx K mg ad):AO P w K mg base CX0 1 ad.f_up ad.d_up ["top","bottom"] Rq:=by
 refine T.F_up.ok Rn (fun vs H Q E h=>?_) (fun cdv A outer s H vs Q E hr h=>?_)
 ·obtain ⟨t,b,rfl,_⟩:=h
  rfl
 obtain ⟨t,b,rfl,h0,hz,q⟩:=h
 refine ⟨_,(@Ah _ _ _ (@An _ _ _ _ (@Mp _ _ _ _ _ _ JV (@Ai _ _ _ _ _ _ _ _ AY (@Mp _ _ _ _ _ _ JV (pv 0)) (pv 1))))),?_⟩
 exact ⟨_,rfl,_,rfl,_,rfl,_,_,rfl,rfl,⟨Int.ne_of_gt h0,hz⟩,_,rfl,q⟩
theorem Oc (T:Tx K mg ad):AO P w K mg base CX0 1 ad.f_under ad.d_under ["one","other"] (M0 K):=by
 refine T.F_under.ok O1 (fun vs H Q E h=>?_) (fun cdv A outer s H vs Q E hr h=>?_)
 ·obtain ⟨p,r,t,b,u,c,rfl,_⟩:=h
  rfl
 obtain ⟨p,r,t,b,u,c,rfl,h1,h2,st,sb,su,sc,q⟩:=h
 refine ⟨_,(@Ah _ _ _ (@An _ _ _ _ (@C3 _ _ _ _ _ _ _ _ Eb (@Ai _ _ _ _ _ _ _ _ Cc (@At _ _ _ _ _ _ _ Aw (pv 0) Ab (fun _ _=>rfl)) (@At _ _ _ _ _ _ _ Aw (pv 1) Ab (fun _ _=>rfl))) (@Ai _ _ _ _ _ _ _ _ Cc (@At _ _ _ _ _ _ _ Aw (pv 1) Ab (fun _ _=>rfl)) (@At _ _ _ _ _ _ _ Aw (pv 0) Ab (fun _ _=>rfl))) (Ar _)))),?_⟩
 exact ⟨_,rfl,p,_,_,_,rfl,rfl,h1,rfl,_,rfl,r,_,_,_,rfl,rfl,h2,rfl,_,_,rfl,rfl,QZ st sc,_,rfl,r,_,_,_,rfl,rfl,h2,rfl,_,rfl,p,_,_,_,rfl,rfl,h1,rfl,_,_,rfl,rfl,QZ su sb,_,_,rfl,rfl,q⟩
theorem Kz (T:Tx K mg ad):AO P w K mg base CX0 1 ad.f_with_one ad.d_with_one ["mask","hand"] O9:=by
 refine T.F_with_one.ok KJ (fun vs H Q E h=>?_) (fun cdv A outer s H vs Q E hr h=>?_)
 ·obtain ⟨m,h,rfl,_⟩:=h
  rfl
 obtain ⟨m,h,rfl,h0,h1,q⟩:=h
 refine ⟨_,(@Ah _ _ _ (@An _ _ _ _ (@Ai _ _ _ _ _ _ _ _ PJ (pv 0) (@Ai _ _ _ _ _ _ _ _ C8 Ab (pv 1))))),?_⟩
 exact ⟨_,rfl,_,rfl,_,_,rfl,rfl,⟨h0,by omega,by decide⟩,_,_,rfl,rfl,q⟩
theorem LA (T:Tx K mg ad):AO P w K mg base CX0 1 ad.f_members ad.d_members ["mask"] Nl:=by
 refine T.F_members.ok LI (fun vs H Q E h=>?_) (fun cdv A outer s H vs Q E hr h=>?_)
 ·obtain ⟨m,rfl,_⟩:=h
  rfl
 obtain ⟨m,rfl,m0,m1,q⟩:=h
 refine ⟨_,(@Ah _ _ _ (@An _ _ _ _ (Cd (fsc:=Af Dg) (N:=["mask"]) (Nc:=["mask","hand"]) rfl rfl ⟨rfl,by decide +kernel,by decide +kernel,rfl,by decide +kernel,rfl,by decide +kernel,rfl,by decide +kernel⟩ rfl (BU rfl T.z_range (@Aa _ _ _ _ _ (LB PySem.F.plainAttrs_int PySem.F.slot_int_bit_length PySem.F.type_int_bit_length OW (pv 0)) Ac (by rfl))) (fun _ _ _ _=>(Ep (@Aq _ _ _ _ _ _ _ _ CF (@Ai _ _ _ _ _ _ _ _ Oe (@Ai _ _ _ _ _ _ _ _ Qw (pv 0) (pv 1)) Ab) Ab (Ar _)))) (fun _ _ _ _=>(pv 1))))),?_⟩
 have hb:(Builtin.Int.intBits m)<=12:=intBits_le_iff.mpr (by show m.natAbs < 4096;omega)
 refine ⟨_,rfl,rfl,m,rfl,rfl,_,rfl,by omega,by omega,?_⟩
 have en:((Builtin.Int.intBits m:Nat):Int).toNat=Builtin.Int.intBits m:=by omega
 rw [en]
 refine C6 (Bu (by omega)) (fun D i ys H'=>ys=(hands i (bit m)).map V.int/\H'=upd H D (.lst ys)) (fun D hD=>⟨rfl,rfl⟩) (fun D i ys H' ⟨e1,e2⟩=>by rw [e2,e1];exact ⟨Ae,by rw [List.length_map];exact ML i (bit m)⟩) ?_ ?_
 ·rintro D i ys H' K1 K2 hD hi ⟨e1,rfl⟩ k1 k2
  have ei:(0+(i:Int)).toNat=i:=by omega
  refine ⟨_,rfl,_,rfl,_,_,rfl,rfl,(by show (0:Int)<=0+(i:Int);omega),_,_,rfl,rfl,rfl,_,rfl,?_⟩
  dsimp only
  rw [show decide (V.int (Builtin.bitAnd (m / 2 ^ (0+(i:Int)).toNat) 1)=V.int 1)=bit m i from by rw [MO,ei]]
  have ms:=Fd i (bit m)
  cases e:bit m i with
  | true =>
    rw [e,if_pos rfl] at ms
    refine Qn ⟨_,rfl,?_⟩
    refine k1 _ _ Ae ⟨?_,by rw [CY]⟩
    rw [ms,List.map_append,e1,Int.zero_add]
    rfl
  | false =>
    rw [e,if_neg (by decide)] at ms
    refine Qm ?_
    exact k2 _ ⟨by rw [ms];exact e1,rfl⟩
 ·rintro D ys H' hD ⟨rfl,rfl⟩
  refine q D _ hD (Ag hD _) ?_
  rw [Ae,Nw m0 m1]
theorem DP (T:Tx K mg ad):AO P w K mg base CX0 1 ad.f_ballots_in ad.d_ballots_in ["sheet"] Ie:=by
 refine T.F_ballots_in.ok IH (fun vs H Q E h=>?_) (fun cdv A outer s H vs Q E hr h=>?_)
 ·obtain ⟨l,ls,h,rfl,_⟩:=h
  rfl
 obtain ⟨l,ls,h,rfl,hl,g,l60,q⟩:=h
 refine ⟨_,(@Ah _ _ _ (@An _ _ _ _ (@Ax _ _ _ _ _ _ _ _ _ (N0 rfl) (by rfl) T.z_sum PyProof.Rows.boot_sum (@Aa _ _ _ _ _ (K3 (fsc:=Af BP) (N:=["sheet"]) (Nc:=["sheet","slip","number"]) rfl rfl ⟨rfl,by decide +kernel,by decide +kernel,by decide +kernel,by decide +kernel,rfl,by decide +kernel,rfl,by decide +kernel⟩ rfl (BD (pv 0)) (fun _ _ _ _=>C4) (fun _ _ _ _=>(pv 2))) Ac (by rfl)) (by decide) (by decide) (by rfl) (by rfl)))),?_⟩
 refine ⟨_,rfl,l,rfl,⟨_,SqL.of hl⟩,?_⟩
 refine GS (zs:=vls ls) rfl rfl (by rw [DN];exact Bu (by omega)) (fun D i ys H'=>ys=((ls.take i).map fun q=>q.2.2.2).map V.int/\H'=upd H D (.lst ys)) (fun D hD=>⟨rfl,rfl⟩) (fun D i ys H' ⟨f1,f2⟩=>⟨by rw [f2];exact Ae,by rw [f1,List.length_map,List.length_map];exact List.length_take_le _ _⟩) (fun D i ys H' hD ⟨_,f2⟩=>by rw [f2];exact SqL.of (Ag hD _ _ _ hl)) ?_ ?_
 ·rintro D i x ys H' K1 K2 hD hx ⟨f1,rfl⟩ k1 k2
  obtain ⟨f,hf,rfl,fm,et⟩:=JW hx
  refine ⟨f.1,_,_,rfl,SqT.of (Ag hD _ _ _ (g f fm).1),?_⟩
  refine yes (ifT rfl ?_)
  refine ⟨_,rfl,?_⟩
  refine k1 _ _ Ae ⟨?_,by rw [CY]⟩
  rw [et,List.map_append,List.map_append,f1]
  rfl
 rintro D ys H1 hD ⟨rfl,rfl⟩
 rw [DN,List.take_of_length_le (Nat.le_refl _)]
 have s1:=Ag hD (.lst ((ls.map fun q=>q.2.2.2).map V.int))
 refine ⟨D,_,rfl,SqL.of Ae,?_⟩
 exact q _ s1
theorem Hn (T:Tx K mg ad):AO P w K mg base CX0 1 ad.f_rows_to ad.d_rows_to ["lines","slip","many"] KZ:=by
 refine T.F_rows_to.ok CC (fun vs H Q E h=>?_) (fun cdv A outer s H vs Q E hr h=>?_)
 ·obtain ⟨l,sl,ls,m,rfl,_⟩:=h
  rfl
 obtain ⟨l,sl,ls,m,rfl,hl,gl,l125,q⟩:=h
 refine ⟨_,(@Ad _ _ _ _ _ (@Al _ _ (3) _ _ _ _ CC.nd rfl (Or.inl rfl) (@CT _ _ _ _ Ac) (by rfl) (by first | exact .inl rfl | exact .inr rfl | assumption)) (@Ad _ _ _ _ _ (@Al _ _ (4) _ _ _ _ CC.nd rfl (Or.inl rfl) (pv 2) (by rfl) (by first | exact .inl rfl | exact .inr rfl | assumption)) (@Ad _ _ _ _ _ (Es PassesOwn.never rfl (BD (pv 0)) (JL rfl (Dm (Ce (i:=5) CC.nd rfl (Or.inl rfl)) (Dm (Ce (i:=6) CC.nd rfl (Or.inl rfl)) GK))) (@Ad _ _ _ _ _ (@Al _ _ (7) _ _ _ _ CC.nd rfl (Or.inl rfl) (@Ax _ _ _ _ _ _ _ _ _ (FS rfl) (by rfl) T.z_min PyProof.Rows.boot_min (@Aa _ _ _ _ _ (pv 6) (@Aa _ _ _ _ _ (pv 4) Ac (by rfl)) (by rfl)) (by decide) (by decide) (by rfl) (by rfl)) (by rfl) (by first | exact .inl rfl | exact .inr rfl | assumption)) (@Ad _ _ _ _ _ (@Hy _ _ _ _ _ _ _ _ (@Aq _ _ _ _ _ _ _ _ Ho (pv 7) Ab (Ar _)) (@Ah _ _ _ (@Er _ _ _ _ (Ht PySem.F.plainAttrs_list PySem.F.slot_list_append PySem.F.type_list_append EG (pv 3) (@Aa _ _ _ _ _ (@AL _ _ _ _ _ (@Aa _ _ _ _ _ (pv 5) (@Aa _ _ _ _ _ (pv 1) (@Aa _ _ _ _ _ (pv 7) Ac (by rfl)) (by rfl)) (by rfl))) Ac (by rfl))) (by rfl))) Az) (@Ah _ _ _ (@Al _ _ (4) _ _ _ _ CC.nd rfl (Or.inl rfl) (@Ai _ _ _ _ _ _ _ _ Cb (pv 4) (pv 7)) (by rfl) (by first | exact .inl rfl | exact .inr rfl | assumption)))))) (@Ah _ _ _ (@An _ _ _ _ (pv 3)))))),?_⟩
 have vl:(vls ls).length=ls.length:=List.length_map ..
 subst_eqs
 refine ⟨(by show 0<=sizeLine;decide),fun D nD=>?_⟩
 have s1:=Ag nD (.lst [])
 have eD:(upd H D (.lst [])) D=some (.lst []):=Ae
 generalize upd H D (.lst [])=H1 at s1 eD ⊢
 have hl1:=s1 _ _ hl
 have lD:l≠D:=B7 hl nD
 subst_eqs
 refine ⟨⟨_,SqL.of hl1⟩,Ft (xs:=vls ls) (fun i σ' J=>∃(v5 v6 v7:Option V) (rs:Ls),σ'=[some (.ref l),some (.ref sl),some (.int m),some (.ref D),some (.int (DD (dsL (ls.take i)) m)),v5,v6,v7]/\A0 (off H1 D) J/\J D=some (.lst (vls rs))/\CrG (off J D) sl rs/\dsL rs=Du (dsL (ls.take i)) m/\rs.length<=i) ⟨none,none,none,[],rfl,Hi _ _,eD,(fun _ m=>nomatch m),rfl,Nat.le_refl _⟩ (fun i σ' J _ ⟨_,_,_,_,_,z,_⟩=>SqL.of (z _ _ (Fg hl1 lD))) ?_ ?_⟩
 ·rintro i x σ' J hx ⟨v5,v6,v7,rs,rfl,z,ed,cg,ds,rn⟩
  unfold vls at hx
  rw [List.getElem?_map] at hx
  obtain ⟨f,hf,rfl⟩:=Option.map_eq_some_iff.mp hx
  have il:=(List.getElem?_eq_some_iff.mp hf).1
  obtain ⟨g1,g2⟩:=gl f (List.mem_of_getElem? hf)
  have sJ:A0 H J:=(Fh s1 nD).trans z
  have et:dsL (ls.take (i+1))=dsL (ls.take i)++[(f.2.2.1,f.2.2.2)]:=by rw [List.take_succ,hf,Fs];rfl
  obtain ⟨k1,k2⟩:=Io (dsL (ls.take i)) m (f.2.2.1,f.2.2.2)
  rw [<- et] at k1 k2
  generalize DD (dsL (ls.take i)) m=w at k1 k2 ⊢
  refine ⟨f.1,_,rfl,SqT.of (sJ _ _ g1),rfl,_,_,rfl,_,_,rfl,rfl,?_⟩
  subst_eqs
  refine ⟨_,_,rfl,?_⟩
  rw [show (if w < f.2.2.2 then w else f.2.2.2)=mnI f.2.2.2 w from rfl]
  change Du (dsL (ls.take (i+1))) m=_++(if 0 < mnI f.2.2.2 w then [(f.2.2.1,mnI f.2.2.2 w)] else []) at k1
  change DD (dsL (ls.take (i+1))) m=w - mnI f.2.2.2 w at k2
  generalize mnI f.2.2.2 w=tk at k1 k2 ⊢
  subst_eqs
  refine ⟨fun σ' J'=>∃rs':Ls,σ'=[some (.ref l),some (.ref sl),some (.int m),some (.ref D),some (.int w),some (.ref f.2.1),some (.int f.2.2.2),some (.int tk)]/\A0 (off H1 D) J'/\J' D=some (.lst (vls rs'))/\CrG (off J' D) sl rs'/\dsL rs'=Du (dsL (ls.take (i+1))) m/\rs'.length<=i+1,?_,?_⟩
  ·subst_eqs
   by_cases c:0 < tk
   ·refine ifT (decide_eq_true c) ?_
    subst_eqs
    refine ⟨.inl ⟨rfl,_,SqL.of ed⟩,?_⟩
    subst_eqs
    refine ⟨(by show 3<=sizeLine;decide),fun t ht=>?_⟩
    have j1:=Ag ht (.tup [V.ref f.2.1,V.ref sl,V.int tk])
    have et1:(upd J t (.tup [V.ref f.2.1,V.ref sl,V.int tk])) t=some (.tup [V.ref f.2.1,V.ref sl,V.int tk]):=Ae
    generalize upd J t (.tup [V.ref f.2.1,V.ref sl,V.int tk])=J1 at j1 et1 ⊢
    have ed1:=j1 _ _ ed
    have tD:t≠D:=fun e=>B7 ed ht e.symm
    have oH:A0 H (off J1 D):=Fh (sJ.trans j1) nD
    refine ⟨D,_,_,rfl,rfl,ed1,(by rw [show (vls rs).length=rs.length from List.length_map ..];exact Be (by omega)),?_⟩
    refine ⟨rs++[(t,f.2.1,f.2.2.1,tk)],rfl,Dw (z.trans j1),by rw [Ae];unfold vls;rw [List.map_append];rfl,fun q mq=>?_,by rw [Fs,ds,k1,if_pos c];rfl,by rw [List.length_append];show _+1<=_;omega⟩
    rw [GJ]
    rcases List.mem_append.mp mq with mq | mq
    ·exact cg.same (Ob j1) q mq
    ·rw [List.mem_singleton.mp mq]
     exact ⟨Fg et1 tD,oH _ _ g2⟩
   ·refine ifF (decide_eq_false c) ?_
    exact ⟨rs,rfl,z,ed,cg,by rw [ds,k1,if_neg c,List.append_nil],by omega⟩
  rintro σ' J' ⟨rs',rfl,z',ed',cg',ds',rn'⟩
  subst_eqs
  exact ⟨_,_,_,rs',by rw [k2];rfl,z',ed',cg',ds',rn'⟩
 rintro σ' J ⟨v5,v6,v7,rs,rfl,z,ed,cg,ds,rn⟩
 rw [vl,List.take_length] at ds
 have sJ:A0 H J:=(Fh s1 nD).trans z
 subst_eqs
 exact q D rs J nD sJ ed (cg.same (Hi _ _)) ds
theorem BK (T:Tx K mg ad):AO P w K mg base CX0 1 ad.f_law_cell ad.d_law_cell ["_law_script","_law_k"] (PP K):=by
 refine T.F_law_cell.ok KI (fun vs H Q E h=>?_) (fun cdv A outer s H vs Q E hr h=>?_)
 ·obtain ⟨p,ns,k,rfl,_⟩:=h
  rfl
 obtain ⟨p,ns,k,rfl,hS,h63,k0,k1,q⟩:=h
 refine ⟨_,(@Ad _ _ _ _ _ (@AW _ _ _ _ _ _ _ _ (@Aq _ _ _ _ _ _ _ _ Eb (pv 1) (@Ax _ _ _ _ _ _ _ _ _ Bl (by rfl) T.z_len PySem.boot_len (@Aa _ _ _ _ _ (pv 0) Ac (by rfl)) (by decide) (by decide) (by rfl) (by rfl)) (Ar _)) (@Ah _ _ _ (@An _ _ _ _ (@Ai _ _ _ _ _ _ _ _ A7 (@At _ _ _ _ _ _ _ Ba (pv 0) (pv 1) (fun _ _=>rfl)) (@Ai _ _ _ _ _ _ _ _ Gd Ab Ab)))) Az) (@Ah _ _ _ (@An _ _ _ _ (@Ai _ _ _ _ _ _ _ _ A7 (@Ai _ _ _ _ _ _ _ _ Cc (@Ai _ _ _ _ _ _ _ _ AA (@Ai _ _ _ _ _ _ _ _ Cc (pv 1) (pv 1)) Ab) Ab) Ab)))),?_⟩
 have hl:(ns.map V.int).length=ns.length:=List.length_map _
 have szk:Sz 64 k:=Bp (by omega) (by omega)
 have p40:(0:Int) < 10 ^ (40:Int).toNat:=by decide +kernel
 refine ⟨_,rfl,_,rfl,p,_,rfl,.inl hS,_,_,rfl,rfl,_,rfl,?_⟩
 refine Fe (fun c=>?_) (fun c=>?_)
 ·have c':k < (((ns.map V.int).length:Nat):Int):=of_decide_eq_true c
  rw [hl] at c'
  obtain ⟨v,hv⟩:=OS k0 c'
  refine ⟨_,rfl,_,rfl,p,_,_,_,rfl,rfl,hS,hv,_,_,rfl,rfl,Qc,_,_,rfl,rfl,(Int.ne_of_gt p40),?_⟩
  exact q _ (AR v p40).1 (AR v p40).2
 ·and_intros
  have m:=AR ((k*k+7)*48271) (show (0:Int) < 10007 by decide)
  exact q _ m.1 (Int.lt_trans m.2 (by decide))
theorem Bq (T:Tx K mg ad):AO P w K mg base CX0 1 ad.f_law_mixed ad.d_law_mixed ["_law_cell_here","_law_by"] Mz:=by
 refine T.F_law_mixed.ok Et (fun vs H Q E h=>?_) (fun cdv A outer s H vs Q E hr h=>?_)
 ·obtain ⟨c,b,rfl,_⟩:=h
  rfl
 obtain ⟨c,b,rfl,szc,szb,q⟩:=h
 refine ⟨_,(@Ad _ _ _ _ _ (@Al _ _ (2) _ _ _ _ Et.nd rfl (Or.inl rfl) (@Ai _ _ _ _ _ _ _ _ AA (@Ai _ _ _ _ _ _ _ _ Cc (pv 0) Ab) (@Ai _ _ _ _ _ _ _ _ Cc (pv 1) Ab)) (by rfl) (by first | exact .inl rfl | exact .inr rfl | assumption)) (@Ad _ _ _ _ _ (@Al _ _ (2) _ _ _ _ Et.nd rfl (Or.inl rfl) (@Ai _ _ _ _ _ _ _ _ A7 (@Ai _ _ _ _ _ _ _ _ AA (pv 2) Ab) (@Ai _ _ _ _ _ _ _ _ AA (@Ai _ _ _ _ _ _ _ _ Gd Ab Ab) Ab)) (by rfl) (by first | exact .inl rfl | exact .inr rfl | assumption)) (@Ah _ _ _ (@An _ _ _ _ (@Ai _ _ _ _ _ _ _ _ AY (@Ai _ _ _ _ _ _ _ _ A7 (@Ai _ _ _ _ _ _ _ _ Cc (pv 2) (pv 2)) (@Ai _ _ _ _ _ _ _ _ AA (@Ai _ _ _ _ _ _ _ _ Gd Ab Ab) Ab)) Ab))))),?_⟩
 and_intros
 exact q _ (Mn _).1 (Mn _).2
theorem CS (T:Tx K mg ad):AO P w K mg base CX0 1 ad.f_law_whole ad.d_law_whole ["_law_found"] M4:=by
 refine T.F_law_whole.ok JT (fun vs H Q E h=>?_) (fun cdv A outer s H vs Q E hr h=>?_)
 ·obtain ⟨c,rfl,_⟩:=h
  rfl
 obtain ⟨c,rfl,q⟩:=h
 refine ⟨_,(@Ah _ _ _ (@An _ _ _ _ (@D9 _ _ _ _ _ _ _ (@Ax _ _ _ _ _ _ _ _ _ BR (by rfl) T.z_isinstance PyProof.Rows.boot_isinstance (@Aa _ _ _ _ _ (pv 0) (@Aa _ _ _ _ _ (C2 (v:=.ty "int") rfl T.z_int PyProof.Rows.boot_int rfl) Ac (by rfl)) (by rfl)) (by decide) (by decide) (by rfl) (by rfl)) (@DA _ _ _ _ _ (@Oi _ _ _ _ (@Ax _ _ _ _ _ _ _ _ _ BR (by rfl) T.z_isinstance PyProof.Rows.boot_isinstance (@Aa _ _ _ _ _ (pv 0) (@Aa _ _ _ _ _ (C2 (v:=.ty "bool") rfl T.z_bool PyProof.Rows.boot_bool rfl) Ac (by rfl)) (by rfl)) (by decide) (by decide) (by rfl) (by rfl))))))),?_⟩
 refine ⟨_,rfl,_,_,_,_,rfl,Dp.int c,Gr,_,rfl,?_⟩
 refine Qn ?_
 exact ⟨_,rfl,_,_,_,_,rfl,Dp.int c,Fy,_,rfl,q⟩
theorem Hl (T:Tx K mg ad):AO P w K mg base CX0 1 ad.f_law_divisor ad.d_law_divisor ["_law_one","_law_other"] Jd:=by
 refine T.F_law_divisor.ok DC (fun vs H Q E h=>?_) (fun cdv A outer s H vs Q E hr h=>?_)
 ·obtain ⟨a,b,rfl,_⟩:=h
  rfl
 obtain ⟨a,b,rfl,q⟩:=h
 refine ⟨_,(@Ad _ _ _ _ _ (Oq (i:=0) (j:=1) rfl DC.nd rfl rfl (by decide) rfl rfl (@Aa _ _ _ _ _ (@Ax _ _ _ _ _ _ _ _ _ Fr (by rfl) T.z_abs PyProof.Rows.boot_abs (@Aa _ _ _ _ _ (pv 0) Ac (by rfl)) (by decide) (by decide) (by rfl) (by rfl)) (@Aa _ _ _ _ _ (@Ax _ _ _ _ _ _ _ _ _ Fr (by rfl) T.z_abs PyProof.Rows.boot_abs (@Aa _ _ _ _ _ (pv 1) Ac (by rfl)) (by decide) (by decide) (by rfl) (by rfl)) Ac (by rfl)) (by rfl)) rfl) (@Ad _ _ _ _ _ (Hz PassesOwn.never (@Aq _ _ _ _ _ _ _ _ Ho (pv 1) Ab (Ar _)) (@Ah _ _ _ (Oq (i:=0) (j:=1) rfl DC.nd rfl rfl (by decide) rfl rfl (@Aa _ _ _ _ _ (pv 1) (@Aa _ _ _ _ _ (@Ai _ _ _ _ _ _ _ _ A7 (pv 0) (pv 1)) Ac (by rfl)) (by rfl)) rfl))) (@Ah _ _ _ (@An _ _ _ _ (pv 0))))),?_⟩
 refine ⟨_,rfl,_,rfl,_,rfl,_,rfl,_,_,rfl,?_⟩
 refine Lj (fun σ' H'=>∃x y:Int,σ'=[some (.int x),some (.int y)]/\H'=H/\0<=x/\0<=y/\Int.gcd x y=Int.gcd a b) (fun σ' _=>match σ' with | [_,some (.int y)]=>y.toNat | _=>0) ⟨_,_,rfl,rfl,?_,?_,Mb a b⟩ ?_ GB
 ·rw [MA];omega
 ·rw [MA];omega
 rintro σ1 H1 ⟨x,y,rfl,rfl,x0,y0,g⟩
 refine ⟨_,rfl,_,_,rfl,rfl,_,rfl,?_⟩
 refine Fe (fun c=>?_) (fun c=>?_)
 ·have c':0 < y:=of_decide_eq_true c
  have m:=AR x c'
  refine ⟨_,rfl,_,rfl,_,rfl,_,_,rfl,rfl,Int.ne_of_gt c',_,_,rfl,?_⟩
  refine ⟨⟨y,x.fmod y,rfl,rfl,y0,m.1,(Km x0 c').trans g⟩,?_⟩
  show (x.fmod y).toNat < y.toNat
  omega
 ·have c':¬ 0 < y:=fun e=>c (decide_eq_true e)
  refine ⟨_,rfl,?_⟩
  have e:=Mc x0 y0 c'
  have e2:Cy x y=Cy a b:=by unfold Cy;rw [g]
  rw [e,e2]
  exact q
theorem JB (T:Tx K mg ad):AO P w K mg base CX0 1 ad.f_Way_ahead ad.d_Way_ahead ["self","one","other"] (KN ad.c_Lists):=by
 refine T.F_Way_ahead.ok JP (fun vs H Q E h=>?_) (fun cdv A outer s H vs Q E hr h=>?_)
 ·obtain ⟨a,h,s,st,u,v,xs,x,y,rfl,_⟩:=h
  rfl
 obtain ⟨a,h,s,st,u,v,xs,x,y,rfl,is,mx,my,q⟩:=h
 refine ⟨_,(@Ah _ _ _ (@An _ _ _ _ (@C3 _ _ _ _ _ _ _ _ Eb (Ht PySem.F.plainAttrs_list PySem.F.slot_list_index PySem.F.type_list_index (Kt (K:=K)) (Bh (pv 0) rfl) (@Aa _ _ _ _ _ (pv 1) Ac (by rfl))) (Ht PySem.F.plainAttrs_list PySem.F.slot_list_index PySem.F.type_list_index (Kt (K:=K)) (Bh (pv 0) rfl) (@Aa _ _ _ _ _ (pv 2) Ac (by rfl))) (Ar _)))),?_⟩
 obtain ⟨dx,l,t,k1,k2,k3⟩:=is
 refine ⟨_,rfl,a,_,dx,_,_,rfl,k1,T.cl_Lists,T.na_Lists_lots,rfl,?_⟩
 refine ⟨.inl ⟨rfl,_,SqL.of k2⟩,_,rfl,l,xs,x,rfl,rfl,SqL.of k2,mx,?_⟩
 refine ⟨_,rfl,a,_,dx,_,_,rfl,k1,T.cl_Lists,T.na_Lists_lots,rfl,?_⟩
 refine ⟨.inl ⟨rfl,_,SqL.of k2⟩,_,rfl,l,xs,y,rfl,rfl,SqL.of k2,my,?_⟩
 and_intros
 have e:decide (((xs.idxOf x:Nat):Int) < ((xs.idxOf y:Nat):Int))=decide (xs.idxOf x < xs.idxOf y):=by congr 1;apply propext;omega
 show Q (.bl (decide (((xs.idxOf x:Nat):Int) < ((xs.idxOf y:Nat):Int)))) H
 rw [e]
 exact q
theorem Gb (T:Tx K mg ad):AO P w K mg base CX0 1 ad.f_Lists_told_by ad.d_Lists_told_by ["self","paper"] (Lc ad.c_Lists):=by
 refine T.F_Lists_told_by.ok Eh (fun vs H Q E h=>?_) (fun cdv A outer s H vs Q E hr h=>?_)
 ·obtain ⟨a,p,h,s,st,u,v,ns,xs,l,rfl,_⟩:=h
  rfl
 obtain ⟨a,p,h,s,st,u,v,ns,xs,l,rfl,il,sn,pp,q⟩:=h
 refine ⟨_,(@Ad _ _ _ _ _ (@Al _ _ (2) _ _ _ _ Eh.nd rfl (Or.inr rfl) (K3 (fsc:=Af Bg) (N:=["self","paper","given"]) (Nc:=["self","paper","given","marks","hand"]) rfl rfl ⟨rfl,by decide +kernel,by decide +kernel,by decide +kernel,by decide +kernel,rfl,by decide +kernel,rfl,by decide +kernel⟩ rfl (BD (@At _ _ _ _ _ _ _ Aw (pv 1) Ab (fun _ _=>rfl))) (fun _ _ _ _=>C4) (fun _ _ _ _=>(pv 4))) (by rfl) (by first | exact .inl rfl | exact .inr rfl | assumption)) (@Ah _ _ _ (@An _ _ _ _ (Cd (fsc:=Af Bg) (N:=["self","paper","given"]) (Nc:=["self","paper","given","hand"]) rfl rfl ⟨rfl,by decide +kernel,by decide +kernel,rfl,by decide +kernel,rfl,by decide +kernel,rfl,by decide +kernel⟩ rfl (BU rfl T.z_range (@Aa _ _ _ _ _ (Bh (pv 0) rfl) Ac (by rfl))) (fun _ _ _ _=>C4) (fun _ _ _ _=>(@Qy _ _ _ _ _ _ _ _ _ _ _ _ K PySem.F.plainAttrs_list PySem.F.slot_list_count PySem.F.type_list_count (NX (K:=K)) (pv 2) (@Aa _ _ _ _ _ (pv 3) Ac (by rfl)) (by rfl) (by rfl) (by rfl) (by rfl) (by rfl) (by rfl))))))),?_⟩
 obtain ⟨dx,la,t,k1,k2,k3⟩:=id il
 obtain ⟨pv,pr,p1,p2,ms,r1,r2,r3⟩:=id pp
 have h12:=sn.h12
 have mk60:ms.length<=60:=by rw [r2];unfold many;have:=sn.s60;split <;> omega
 refine ⟨_,rfl,p,_,_,_,rfl,rfl,SqT.of p1,rfl,?_⟩
 refine ⟨pr,rfl,⟨_,SqL.of r1⟩,?_⟩
 refine GS (zs:=ms.map fun q=>V.ref q.1) rfl rfl (by rw [List.length_map];exact Bu (by omega)) (fun D i ys H'=>ys=(Dt xs ns l st h i).map V.int/\H'=upd H D (.lst ys)) (fun D hD=>⟨rfl,rfl⟩) (fun D i ys H' ⟨f1,f2⟩=>⟨by rw [f2];exact Ae,by rw [f1,List.length_map,IZ];exact Nat.le_refl _⟩) (fun D i ys H' hD ⟨_,f2⟩=>by rw [f2];exact SqL.of (Ag hD _ _ _ r1)) ?_ ?_
 ·rintro D i x ys H' K1 K2 hD hx ⟨f1,rfl⟩ c1 c2
  rw [List.getElem?_map] at hx
  obtain ⟨q0,hq,rfl⟩:=Option.map_eq_some_iff.mp hx
  refine ⟨q0.1,_,_,rfl,SqT.of (Ag hD _ _ _ (r3 i q0 hq).1),?_⟩
  refine yes (ifT rfl ?_)
  refine ⟨_,rfl,?_⟩
  refine c1 _ _ Ae ⟨?_,by rw [CY]⟩
  rw [f1,Hv,List.map_append]
  rfl
 rintro D ys H1 hD ⟨rfl,rfl⟩
 rw [List.length_map,r2]
 have s1:=Ag hD (.lst ((Dt xs ns l st h (many xs ns l s)).map V.int))
 have e1:(upd H D (.lst ((Dt xs ns l st h (many xs ns l s)).map V.int))) D=some (.lst ((Dt xs ns l st h (many xs ns l s)).map V.int)):=Ae
 generalize upd H D (.lst ((Dt xs ns l st h (many xs ns l s)).map V.int))=H1 at s1 e1 ⊢
 refine ⟨_,rfl,a,_,dx,_,_,rfl,s1 _ _ k1,T.cl_Lists,T.na_Lists_hands,rfl,?_⟩
 and_intros
 refine ⟨by omega,by omega,?_⟩
 refine C6 (Bu (by omega)) (fun D2 i ys H'=>ys=((List.range i).map fun j:Nat=>(((Dt xs ns l st h (many xs ns l s)).count (j:Int):Nat):Int)).map V.int/\H'=upd H1 D2 (.lst ys)) (fun D2 hD2=>⟨rfl,rfl⟩) (fun D2 i ys H' ⟨f1,f2⟩=>⟨by rw [f2];exact Ae,by rw [f1,List.length_map,List.length_map,List.length_range];exact Nat.le_refl _⟩) ?_ ?_
 ·rintro D2 i ys H' K1 K2 hD2 hi ⟨f1,rfl⟩ c1 c2
  refine yes (ifT rfl ?_)
  have e1':=Ag hD2 (.lst ys) _ _ e1
  refine ⟨_,rfl,.inl ⟨rfl,_,SqL.of e1'⟩,_,rfl,D,_,_,rfl,rfl,SqL.of e1',?_⟩
  refine c1 _ _ Ae ⟨?_,by rw [CY]⟩
  rw [f1,List.range_succ,List.map_append,List.map_append,Int.zero_add]
  rfl
 rintro D2 ys H2 hD2 ⟨rfl,rfl⟩
 have fin:((List.range h).map fun j:Nat=>(((Dt xs ns l st h (many xs ns l s)).count (j:Int):Nat):Int))=Av xs ns l st h (many xs ns l s):=by
  by_cases c:A6 xs ns l=[]
  ·have e:many xs ns l s=0:=if_pos c
   rw [e]
   exact NF
  ·exact Qk (sn.pk c) _
 rw [Int.toNat_natCast,fin]
 exact q D2 _ (none_of s1 hD2) (s1.trans (Ag hD2 _)) Ae
theorem E5 (T:Tx K mg ad):AO P w K mg base CX0 1 ad.f_Margin_init ad.d_Margin_init ["self","way"] (FK K):=by
 refine T.F_Margin_init.ok HX (fun vs H Q E h=>?_) (fun cdv A outer s H vs Q E hr h=>?_)
 ·obtain ⟨g,C,dx,a,rfl,_⟩:=h
  rfl
 obtain ⟨g,C,dx,a,rfl,hg,cl,na,q⟩:=h
 refine ⟨_,(@Ah _ _ _ (Gg (pv 0) (pv 1) rfl)),?_⟩
 refine ⟨_,rfl,_,rfl,g,C,dx,[],rfl,hg,cl,na,(by simp only [List.length_nil];decide),?_⟩
 rw [RO]
 exact q _ (Dw (Hi H g)) Ae
theorem Kx (T:Tx K mg ad):AO P w K mg base CX0 2 ad.f_fraction ad.d_fraction ["top","bottom"] Ik:=by
 refine T.F_fraction.ok EA (fun vs H Q E h=>?_) (fun cdv A outer s H vs Q E hr h=>?_)
 ·obtain ⟨t,b,rfl,_⟩:=h
  rfl
 obtain ⟨t,b,rfl,b0,szt,szb,q⟩:=h
 refine ⟨_,(@Ad _ _ _ _ _ (@AW _ _ _ _ _ _ _ _ (PW.pt (@BS _ _ _ _ _ _ _ (@Bo _ _ _ _ (@Bi _ _ _ (@Ak _ _ _ _ _ _ _ _ _ _ _ _ _ _ _ _ (BJ T) (hr.mono (by decide)) rfl T.m_is_whole T.F_is_whole.kp T.b_is_whole .nil Ap (@Aa _ _ _ _ _ (pv 0) Ac (by rfl)) (by decide) (by rfl) (by rfl)) (by intro _;rfl))) (@CU _ _ _ _ (@Bo _ _ _ _ (@Bi _ _ _ (@Ak _ _ _ _ _ _ _ _ _ _ _ _ _ _ _ _ (BJ T) (hr.mono (by decide)) rfl T.m_is_whole T.F_is_whole.kp T.b_is_whole .nil Ap (@Aa _ _ _ _ _ (pv 1) Ac (by rfl)) (by decide) (by rfl) (by rfl)) (by intro _;rfl)))))) (@Ah _ _ _ Ee) Az) (@Ad _ _ _ _ _ (@AW _ _ _ _ _ _ _ _ (@Aq _ _ _ _ _ _ _ _ CF (pv 1) Ab (Ar _)) (@Ah _ _ _ Ee) Az) (@Ad _ _ _ _ _ (@Al _ _ (2) _ _ _ _ EA.nd rfl (Or.inl rfl) (@Ak _ _ _ _ _ _ _ _ _ _ _ _ _ _ _ _ (Hj T) (hr.mono (by decide)) rfl T.m_divisor T.F_divisor.kp T.b_divisor .nil Ap (@Aa _ _ _ _ _ (pv 0) (@Aa _ _ _ _ _ (pv 1) Ac (by rfl)) (by rfl)) (by decide) (by rfl) (by rfl)) (by rfl) (by first | exact .inl rfl | exact .inr rfl | assumption)) (@Ad _ _ _ _ _ (@Hy _ _ _ _ _ _ _ _ (@Aq _ _ _ _ _ _ _ _ Eb (pv 1) Ab (Ar _)) (@Ah _ _ _ (@Al _ _ (2) _ _ _ _ EA.nd rfl (Or.inl rfl) (@Mp _ _ _ _ _ _ JV (pv 2)) (by rfl) (by first | exact .inl rfl | exact .inr rfl | assumption))) Az) (@Ah _ _ _ (@An _ _ _ _ (@AL _ _ _ _ _ (@Aa _ _ _ _ _ (@Ai _ _ _ _ _ _ _ _ FA (pv 0) (pv 2)) (@Aa _ _ _ _ _ (@Ai _ _ _ _ _ _ _ _ FA (pv 1) (pv 2)) Ac (by rfl)) (by rfl))))))))),?_⟩
 refine ⟨_,rfl,_,rfl,_,rfl,?_⟩
 refine Qm ?_
 refine ⟨_,rfl,_,rfl,_,rfl,?_⟩
 refine Qm ?_
 refine ⟨_,rfl,rfl,_,rfl,?_⟩
 refine Fe (fun c=>absurd (V.int.inj (of_decide_eq_true c)) b0) (fun _=>?_)
 refine ⟨_,rfl,_,rfl,t,b,rfl,?_⟩
 refine ⟨fun σ' H'=>σ'=[some (.int t),some (.int b),some (.int (DO t b))]/\H'=H,?_,?_⟩
 ·refine ⟨_,rfl,_,_,rfl,rfl,_,rfl,?_⟩
  refine Fe (fun c=>?_) (fun c=>?_)
  ·have c':b < 0:=of_decide_eq_true c
   refine ⟨_,rfl,_,rfl,?_⟩
   refine ⟨?_,rfl⟩
   show [some (V.int t),some (V.int b),some (V.int (-(Cy t b)))]=[some (V.int t),some (V.int b),some (V.int (DO t b))]
   unfold DO
   rw [if_pos c']
  ·have c':¬ b < 0:=fun e=>c (decide_eq_true e)
   refine ⟨?_,rfl⟩
   show [some (V.int t),some (V.int b),some (V.int (Cy t b))]=[some (V.int t),some (V.int b),some (V.int (DO t b))]
   unfold DO
   rw [if_neg c']
 rintro σ' H' ⟨rfl,rfl⟩
 have ne:=Jq (t:=t) b0
 refine ⟨_,rfl,_,rfl,_,_,rfl,rfl,⟨ne,szt⟩,_,rfl,_,rfl,_,_,rfl,rfl,⟨ne,szb⟩,(by show 2<=sizeLine;decide),fun r hr'=>?_⟩
 exact q r _ (Ag hr' _) Ae
theorem JC (T:Tx K mg ad):AO P w K mg base CX0 2 ad.f_are_hands ad.d_are_hands ["thing"] Pt:=by
 refine T.F_are_hands.ok JQ (fun vs H Q E h=>?_) (fun cdv A outer s H vs Q E hr h=>?_)
 ·obtain ⟨n,rfl,_⟩:=h
  rfl
 obtain ⟨n,rfl,n0,n1,q⟩:=h
 refine ⟨_,(@Ah _ _ _ (@An _ _ _ _ (@D9 _ _ _ _ _ _ _ (@Ak _ _ _ _ _ _ _ _ _ _ _ _ _ _ _ _ (BJ T) (hr.mono (by decide)) rfl T.m_is_whole T.F_is_whole.kp T.b_is_whole .nil Ap (@Aa _ _ _ _ _ (pv 0) Ac (by rfl)) (by decide) (by rfl) (by rfl)) (@DA _ _ _ _ _ (FC Gy Gy Ab (pv 0) (JI (v:=.int 12) rfl T.k_MOST_HANDS ⟨_,rfl⟩)))))),?_⟩
 refine ⟨_,rfl,n,rfl,?_⟩
 and_intros
 refine ifT (decide_eq_true n0) ?_
 and_intros
 show Q (.bl (decide (n<=12))) H
 rw [decide_eq_true n1]
 exact q
theorem JD (T:Tx K mg ad):AO P w K mg base CX0 2 ad.f_are_seats ad.d_are_seats ["thing"] Pu:=by
 refine T.F_are_seats.ok JR (fun vs H Q E h=>?_) (fun cdv A outer s H vs Q E hr h=>?_)
 ·obtain ⟨n,rfl,_⟩:=h
  rfl
 obtain ⟨n,rfl,n0,n1,q⟩:=h
 refine ⟨_,(@Ah _ _ _ (@An _ _ _ _ (@D9 _ _ _ _ _ _ _ (@Ak _ _ _ _ _ _ _ _ _ _ _ _ _ _ _ _ (BJ T) (hr.mono (by decide)) rfl T.m_is_whole T.F_is_whole.kp T.b_is_whole .nil Ap (@Aa _ _ _ _ _ (pv 0) Ac (by rfl)) (by decide) (by rfl) (by rfl)) (@DA _ _ _ _ _ (FC Gy Gy Ab (pv 0) (JI (v:=.int 60) rfl T.k_MOST_SEATS ⟨_,rfl⟩)))))),?_⟩
 refine ⟨_,rfl,n,rfl,?_⟩
 and_intros
 refine ifT (decide_eq_true n0) ?_
 and_intros
 show Q (.bl (decide (n<=60))) H
 rw [decide_eq_true n1]
 exact q
theorem Kw (T:Tx K mg ad):AO P w K mg base CX0 2 ad.f_are_lots ad.d_are_lots ["thing","hands"] (Q9 K):=by
 refine T.F_are_lots.ok KG (fun vs H Q E h=>?_) (fun cdv A outer s H vs Q E hr h=>?_)
 ·obtain ⟨l,ns,n,rfl,_⟩:=h
  rfl
 obtain ⟨l,ns,n,rfl,hl,pm,n12,q⟩:=h
 refine ⟨_,(@Ad _ _ _ _ _ (@AW _ _ _ _ _ _ _ _ (@Bo _ _ _ _ (@Bi _ _ _ (@Ax _ _ _ _ _ _ _ _ _ BR (by rfl) T.z_isinstance PyProof.Rows.boot_isinstance (@Aa _ _ _ _ _ (pv 0) (@Aa _ _ _ _ _ (C2 (v:=.ty "list") rfl T.z_list PyProof.Rows.boot_list rfl) Ac (by rfl)) (by rfl)) (by decide) (by decide) (by rfl) (by rfl)) (by intro _;rfl))) (@Ah _ _ _ (@An _ _ _ _ DK)) Az) (@Ah _ _ _ (@An _ _ _ _ (@D9 _ _ _ _ _ _ _ (@Ax _ _ _ _ _ _ _ _ _ (Nz rfl) (by rfl) T.z_all PyProof.Rows.boot_all (@Aa _ _ _ _ _ (Cd (fsc:=Af CA) (N:=["thing","hands"]) (Nc:=["thing","hands","hand"]) rfl rfl ⟨rfl,by decide +kernel,by decide +kernel,rfl,by decide +kernel,rfl,by decide +kernel,rfl,by decide +kernel⟩ rfl (BD (pv 0)) (fun _ _ _ _=>C4) (fun _ _ _ _=>(@Ak _ _ _ _ _ _ _ _ _ _ _ _ _ _ _ _ (BJ T) (hr.mono (by decide)) rfl T.m_is_whole T.F_is_whole.kp T.b_is_whole .nil Ap (@Aa _ _ _ _ _ (pv 2) Ac (by rfl)) (by decide) (by rfl) (by rfl)))) Ac (by rfl)) (by decide) (by decide) (by rfl) (by rfl)) (@DA _ _ _ _ _ (@C3 _ _ _ _ _ _ _ _ (JG (K:=K) hr.units) (@Ax _ _ _ _ _ _ _ _ _ Jr (by rfl) T.z_sorted PyProof.Rows.boot_sorted (@Aa _ _ _ _ _ (pv 0) Ac (by rfl)) (by decide) (by decide) (by rfl) (by rfl)) (FE rfl (by rfl) T.z_list (by rfl) T.z_range (pv 1)) (Ar _))))))),?_⟩
 have nl:ns.length=n:=by rw [pm.length_eq,M7]
 refine ⟨_,rfl,_,_,_,_,rfl,Dp.lst hl,ET,?_⟩
 and_intros
 refine ⟨⟨_,SqL.of hl⟩,?_⟩
 refine BF (xs:=ns.map V.int) (by rw [List.length_map];exact Bu (by omega)) (fun D i ys H'=>ys=(List.replicate i true).map V.bl/\H'=upd H D (.lst ys)) (fun D hD=>⟨rfl,rfl⟩) (fun D i ys H' ⟨f1,f2⟩=>⟨by rw [f2];exact Ae,by rw [f1,List.length_map,List.length_replicate];exact Nat.le_refl _⟩) (fun D i ys H' hD ⟨_,f2⟩=>by rw [f2];exact SqL.of (Ag hD _ _ _ hl)) ?_ ?_
 ·rintro D i x ys H' K1 K2 hD hx ⟨f1,rfl⟩ k1 k2
  obtain ⟨z,hz,rfl⟩:=Jz hx
  refine yes (ifT rfl ?_)
  refine ⟨_,rfl,z,rfl,?_⟩
  refine k1 _ _ Ae ⟨?_,by rw [CY]⟩
  rw [f1,List.replicate_succ',List.map_append]
  rfl
 ·rintro D ys H' hD ⟨rfl,rfl⟩
  refine ⟨D,_,rfl,SqL.of Ae,?_⟩
  rw [show (List.replicate (ns.map V.int).length true).all id=true from List.all_eq_true.mpr fun b m=>(List.mem_replicate.mp m).2]
  have s1:=Ag hD (.lst ((List.replicate (ns.map V.int).length true).map V.bl))
  generalize upd H D (.lst ((List.replicate (ns.map V.int).length true).map V.bl))=H1 at s1 ⊢
  and_intros
  refine ⟨l,ns,rfl,SqL.of (s1 _ _ hl),by omega,fun a ms pa sa ha=>?_⟩
  have e:=QI pa sa pm
  subst e
  have s2:=Ag ha (.lst ((ups n).map V.int))
  have e2:(upd H1 a (.lst ((ups n).map V.int))) a=some (.lst ((ups n).map V.int)):=Ae
  generalize upd H1 a (.lst ((ups n).map V.int))=H2 at s2 e2 ⊢
  and_intros
  refine ⟨by omega,fun b hb=>?_⟩
  rw [<- R7]
  have s3:=Ag hb (.lst ((ups n).map V.int))
  refine ⟨.list ((ups n).map .int),.list ((ups n).map .int),.lst (SqL.of (s3 _ _ e2)) (.ints _),.lst (SqL.of Ae) (.ints _),(CD _).2,(CD _).2,?_⟩
  rw [show PyData.eqv (.list ((ups n).map .int)) (.list ((ups n).map .int))=true from by show PyData.eqvAll _ _=true;rw [E4];exact decide_eq_true rfl]
  exact q _ ((s1.trans s2).trans s3)
theorem Fj (T:Tx K mg ad):AO P w K mg base CX0 2 ad.f_vote_of ad.d_vote_of ["slip"] (O8 K):=by
 refine T.F_vote_of.ok HZ (fun vs H Q E h=>?_) (fun cdv A outer s H vs Q E hr h=>?_)
 ·obtain ⟨t,ts,h,rfl,_⟩:=h
  rfl
 obtain ⟨t,ts,h,rfl,ht,f,h12,q0,q1⟩:=h
 refine ⟨_,(@Ad _ _ _ _ _ (@AW _ _ _ _ _ _ _ _ (@Aq _ _ _ _ _ _ _ _ (Qv hr.units0) (pv 0) (@AL _ _ _ _ _ Ac) (Ar _)) (@Ah _ _ _ (@An _ _ _ _ B8)) Az) (@Ad _ _ _ _ _ (@Al _ _ (1) _ _ _ _ HZ.nd rfl (Or.inl rfl) (@Ak _ _ _ _ _ _ _ _ _ _ _ _ _ _ _ _ (LA T) (hr.mono (by decide)) rfl T.m_members T.F_members.kp T.b_members .nil Ap (@Aa _ _ _ _ _ (@At _ _ _ _ _ _ _ Aw (pv 0) Ab (fun _ _=>rfl)) Ac (by rfl)) (by decide) (by rfl) (by rfl)) (by rfl) (by first | exact .inl rfl | exact .inr rfl | assumption)) (@Ah _ _ _ (@An _ _ _ _ (Ec (@Aq _ _ _ _ _ _ _ _ CF (@Ax _ _ _ _ _ _ _ _ _ Bl (by rfl) T.z_len PySem.boot_len (@Aa _ _ _ _ _ (pv 1) Ac (by rfl)) (by decide) (by decide) (by rfl) (by rfl)) Ab (Ar _)) (@At _ _ _ _ _ _ _ Ba (pv 1) Ab (fun _ _=>rfl)) B8))))),?_⟩
 refine ⟨_,rfl,(by show 0<=sizeLine;decide),fun e he=>?_⟩
 have s1:=Ag he (.tup [])
 have ee:(upd H e (.tup [])) e=some (.tup (([]:List Int).map V.int)):=Ae
 generalize upd H e (.tup [])=H1 at s1 ee ⊢
 have ht1:=s1 _ _ ht
 refine ⟨t,e,ts,[],rfl,rfl,SqT.of ht1,SqT.of ee,_,rfl,?_⟩
 rcases f with rfl | ⟨t0,r,rfl,t00,t01⟩
 ·exact ifT (decide_eq_true rfl) (q0 rfl _ s1)
 refine ifF (decide_eq_false (by simp)) ?_
 have lt:t0 < 4096:=by
  have p:2 ^ h<=2 ^ 12:=Nat.pow_le_pow_right (by decide) h12
  have e1:((2 ^ h:Nat):Int)=(2:Int) ^ h:=by simp
  omega
 refine ⟨_,rfl,t,_,_,_,rfl,rfl,SqT.of ht1,(show atI ((t0 :: r).map V.int) ((0:Nat):Int)=some (.int t0) from atN rfl),t0,rfl,t00,lt,fun p H2 hp s2 e2=>?_⟩
 and_intros
 have s12:=s1.trans s2
 by_cases c:(hands 12 (bit t0)).length=1
 ·obtain ⟨z,ez⟩:∃z,hands 12 (bit t0)=[z]:=List.length_eq_one_iff.mp c
  obtain ⟨p1,p2⟩:=Q3 (r:=r) h12 t00 t01 ez
  refine ifT (Kj (by rw [List.length_map,c];rfl)) ?_
  refine ⟨_,rfl,p,_,_,_,rfl,rfl,SqL.of e2,(by rw [ez];rfl),?_⟩
  rw [<- p1]
  exact q1 p2 _ s12
 ·refine ifF (Ki (by rw [List.length_map];omega)) ?_
  exact q0 (Pe h12 c) _ s12
theorem JE (T:Tx K mg ad):AO P w K mg base CX0 2 ad.f_is_hurdle ad.d_is_hurdle ["thing"] KQ:=by
 refine T.F_is_hurdle.ok JS (fun vs H Q E h=>?_) (fun cdv A outer s H vs Q E hr h=>?_)
 ·obtain ⟨t,u,v,rfl,_⟩:=h
  rfl
 obtain ⟨t,u,v,rfl,ht,u0,uv,g,q⟩:=h
 refine ⟨_,(@Ad _ _ _ _ _ (@AW _ _ _ _ _ _ _ _ (PW.pt (@BS _ _ _ _ _ _ _ (@Bo _ _ _ _ (@Bi _ _ _ (@Ax _ _ _ _ _ _ _ _ _ BR (by rfl) T.z_isinstance PyProof.Rows.boot_isinstance (@Aa _ _ _ _ _ (pv 0) (@Aa _ _ _ _ _ (C2 (v:=.ty "tuple") rfl T.z_tuple PyProof.Rows.boot_tuple rfl) Ac (by rfl)) (by rfl)) (by decide) (by decide) (by rfl) (by rfl)) (by intro _;rfl))) (@CU _ _ _ _ (@Aq _ _ _ _ _ _ _ _ E6 (@Ax _ _ _ _ _ _ _ _ _ Bl (by rfl) T.z_len PySem.boot_len (@Aa _ _ _ _ _ (pv 0) Ac (by rfl)) (by decide) (by decide) (by rfl) (by rfl)) Ab (Ar _))))) (@Ah _ _ _ (@An _ _ _ _ DK)) Az) (@Ad _ _ _ _ _ (@AW _ _ _ _ _ _ _ _ (PW.pt (@BS _ _ _ _ _ _ _ (@Bo _ _ _ _ (@Bi _ _ _ (@Ak _ _ _ _ _ _ _ _ _ _ _ _ _ _ _ _ (BJ T) (hr.mono (by decide)) rfl T.m_is_whole T.F_is_whole.kp T.b_is_whole .nil Ap (@Aa _ _ _ _ _ (@At _ _ _ _ _ _ _ Aw (pv 0) Ab (fun _ _=>rfl)) Ac (by rfl)) (by decide) (by rfl) (by rfl)) (by intro _;rfl))) (@CU _ _ _ _ (@Bo _ _ _ _ (@Bi _ _ _ (@Ak _ _ _ _ _ _ _ _ _ _ _ _ _ _ _ _ (BJ T) (hr.mono (by decide)) rfl T.m_is_whole T.F_is_whole.kp T.b_is_whole .nil Ap (@Aa _ _ _ _ _ (@At _ _ _ _ _ _ _ Aw (pv 0) Ab (fun _ _=>rfl)) Ac (by rfl)) (by decide) (by rfl) (by rfl)) (by intro _;rfl)))))) (@Ah _ _ _ (@An _ _ _ _ DK)) Az) (@Ah _ _ _ (@An _ _ _ _ (@D9 _ _ _ _ _ _ _ (FC Gy Gy Ab (@At _ _ _ _ _ _ _ Aw (pv 0) Ab (fun _ _=>rfl)) (@At _ _ _ _ _ _ _ Aw (pv 0) Ab (fun _ _=>rfl))) (@DA _ _ _ _ _ (@C3 _ _ _ _ _ _ _ _ CF (@Ak _ _ _ _ _ _ _ _ _ _ _ _ _ _ _ _ (Hj T) (hr.mono (by decide)) rfl T.m_divisor T.F_divisor.kp T.b_divisor .nil Ap (@Aa _ _ _ _ _ (@At _ _ _ _ _ _ _ Aw (pv 0) Ab (fun _ _=>rfl)) (@Aa _ _ _ _ _ (@At _ _ _ _ _ _ _ Aw (pv 0) Ab (fun _ _=>rfl)) Ac (by rfl)) (by rfl)) (by decide) (by rfl) (by rfl)) Ab (Ar _)))))))),?_⟩
 refine ⟨_,rfl,_,_,_,_,rfl,Dp.tup ht,B0,?_⟩
 and_intros
 refine ifT (decide_eq_true u0) ?_
 and_intros
 refine ifT (decide_eq_true uv) ?_
 and_intros
 rw [g]
 exact q
theorem L8 (T:Tx K mg ad):AO P w K mg base CX0 2 ad.f_is_step ad.d_is_step ["thing"] QA:=by
 refine T.F_is_step.ok LH (fun vs H Q E h=>?_) (fun cdv A outer s H vs Q E hr h=>?_)
 ·obtain ⟨n,rfl,_⟩:=h
  rfl
 obtain ⟨n,rfl,n0,n1,q⟩:=h
 refine ⟨_,(@Ah _ _ _ (@An _ _ _ _ (@D9 _ _ _ _ _ _ _ (@Ak _ _ _ _ _ _ _ _ _ _ _ _ _ _ _ _ (BJ T) (hr.mono (by decide)) rfl T.m_is_whole T.F_is_whole.kp T.b_is_whole .nil Ap (@Aa _ _ _ _ _ (pv 0) Ac (by rfl)) (by decide) (by rfl) (by rfl)) (@DA _ _ _ _ _ (FC Gy Gy Ab (pv 0) (JI (v:=.int 9) rfl T.k_MOST_STEP ⟨_,rfl⟩)))))),?_⟩
 refine ⟨_,rfl,n,rfl,?_⟩
 and_intros
 refine ifT (decide_eq_true n0) ?_
 and_intros
 show Q (.bl (decide (n<=9))) H
 rw [decide_eq_true n1]
 exact q
theorem ID (T:Tx K mg ad):AO P w K mg base CX0 2 ad.f_law_lowest ad.d_law_lowest ["_law_top","_law_bottom"] Ik:=by
 refine T.F_law_lowest.ok DR (fun vs H Q E h=>?_) (fun cdv A outer s H vs Q E hr h=>?_)
 ·obtain ⟨t,b,rfl,_⟩:=h
  rfl
 obtain ⟨t,b,rfl,b0,szt,szb,q⟩:=h
 refine ⟨_,(@Ad _ _ _ _ _ (@Al _ _ (2) _ _ _ _ DR.nd rfl (Or.inl rfl) (@Ak _ _ _ _ _ _ _ _ _ _ _ _ _ _ _ _ (Hl T) (hr.mono (by decide)) rfl T.m_law_divisor T.F_law_divisor.kp T.b_law_divisor .nil Ap (@Aa _ _ _ _ _ (pv 0) (@Aa _ _ _ _ _ (pv 1) Ac (by rfl)) (by rfl)) (by decide) (by rfl) (by rfl)) (by rfl) (by first | exact .inl rfl | exact .inr rfl | assumption)) (@Ad _ _ _ _ _ (@Hy _ _ _ _ _ _ _ _ (@Aq _ _ _ _ _ _ _ _ Eb (pv 1) Ab (Ar _)) (@Ah _ _ _ (@Al _ _ (2) _ _ _ _ DR.nd rfl (Or.inl rfl) (@Mp _ _ _ _ _ _ JV (pv 2)) (by rfl) (by first | exact .inl rfl | exact .inr rfl | assumption))) Az) (@Ah _ _ _ (@An _ _ _ _ (@AL _ _ _ _ _ (@Aa _ _ _ _ _ (@Ai _ _ _ _ _ _ _ _ FA (pv 0) (pv 2)) (@Aa _ _ _ _ _ (@Ai _ _ _ _ _ _ _ _ FA (pv 1) (pv 2)) Ac (by rfl)) (by rfl))))))),?_⟩
 refine ⟨_,rfl,_,rfl,t,b,rfl,?_⟩
 refine ⟨fun σ' H'=>σ'=[some (.int t),some (.int b),some (.int (DO t b))]/\H'=H,?_,?_⟩
 ·refine ⟨_,rfl,_,_,rfl,rfl,_,rfl,?_⟩
  refine Fe (fun c=>?_) (fun c=>?_)
  ·have c':b < 0:=of_decide_eq_true c
   refine ⟨_,rfl,_,rfl,?_⟩
   refine ⟨?_,rfl⟩
   show [some (V.int t),some (V.int b),some (V.int (-(Cy t b)))]=[some (V.int t),some (V.int b),some (V.int (DO t b))]
   unfold DO
   rw [if_pos c']
  ·have c':¬ b < 0:=fun e=>c (decide_eq_true e)
   refine ⟨?_,rfl⟩
   show [some (V.int t),some (V.int b),some (V.int (Cy t b))]=[some (V.int t),some (V.int b),some (V.int (DO t b))]
   unfold DO
   rw [if_neg c']
 rintro σ' H' ⟨rfl,rfl⟩
 have ne:=Jq (t:=t) b0
 refine ⟨_,rfl,_,rfl,_,_,rfl,rfl,⟨ne,szt⟩,_,rfl,_,rfl,_,_,rfl,rfl,⟨ne,szb⟩,(by show 2<=sizeLine;decide),fun r hr'=>?_⟩
 exact q r _ (Ag hr' _) Ae
theorem Gw (T:Tx K mg ad):AO P w K mg base CX0 2 ad.f_law_slip ad.d_law_slip ["_law_cell_here","_law_hands"] Lb:=by
 refine T.F_law_slip.ok CN (fun vs H Q E h=>?_) (fun cdv A outer s H vs Q E hr h=>?_)
 ·obtain ⟨c,h,rfl,_⟩:=h
  rfl
 obtain ⟨c,h,rfl,szc,h1,h12,q⟩:=h
 refine ⟨_,(@Ad _ _ _ _ _ (@Al _ _ (2) _ _ _ _ CN.nd rfl (Or.inl rfl) (@Ak _ _ _ _ _ _ _ _ _ _ _ _ _ _ _ _ (Bq T) (hr.mono (by decide)) rfl T.m_law_mixed T.F_law_mixed.kp T.b_law_mixed .nil Ap (@Aa _ _ _ _ _ (pv 0) (@Aa _ _ _ _ _ Ab Ac (by rfl)) (by rfl)) (by decide) (by rfl) (by rfl)) (by rfl) (by first | exact .inl rfl | exact .inr rfl | assumption)) (@Ad _ _ _ _ _ (@Al _ _ (3) _ _ _ _ CN.nd rfl (Or.inl rfl) (@Ai _ _ _ _ _ _ _ _ A7 (pv 2) Ab) (by rfl) (by first | exact .inl rfl | exact .inr rfl | assumption)) (@Ad _ _ _ _ _ (@Al _ _ (4) _ _ _ _ CN.nd rfl (Or.inl rfl) (@Ai _ _ _ _ _ _ _ _ A7 (@Ai _ _ _ _ _ _ _ _ AY (pv 2) Ab) (pv 1)) (by rfl) (by first | exact .inl rfl | exact .inr rfl | assumption)) (@Ad _ _ _ _ _ (@Al _ _ (5) _ _ _ _ CN.nd rfl (Or.inl rfl) (@Ai _ _ _ _ _ _ _ _ A7 (@Ai _ _ _ _ _ _ _ _ AY (pv 2) Ab) (pv 1)) (by rfl) (by first | exact .inl rfl | exact .inr rfl | assumption)) (@Ad _ _ _ _ _ (@AW _ _ _ _ _ _ _ _ (@Aq _ _ _ _ _ _ _ _ CF (pv 3) Ab (Ar _)) (@Ah _ _ _ (@An _ _ _ _ (@AL _ _ _ _ _ Ac))) Az) (@Ad _ _ _ _ _ (@AW _ _ _ _ _ _ _ _ (PW.pt (@BS _ _ _ _ _ _ _ (@Aq _ _ _ _ _ _ _ _ CF (pv 5) (pv 4) (Ar _)) (@CU _ _ _ _ (@Aq _ _ _ _ _ _ _ _ Eb (pv 3) Ab (Ar _))))) (@Ah _ _ _ (@An _ _ _ _ (@AL _ _ _ _ _ (@Aa _ _ _ _ _ (@Ai _ _ _ _ _ _ _ _ C8 Ab (pv 4)) Ac (by rfl))))) Az) (@Ad _ _ _ _ _ (@AW _ _ _ _ _ _ _ _ (@Aq _ _ _ _ _ _ _ _ CF (pv 3) Ab (Ar _)) (@Ah _ _ _ (@An _ _ _ _ (@AL _ _ _ _ _ (@Aa _ _ _ _ _ (@Ai _ _ _ _ _ _ _ _ AA (@Ai _ _ _ _ _ _ _ _ C8 Ab (pv 4)) (@Ai _ _ _ _ _ _ _ _ C8 Ab (pv 5))) Ac (by rfl))))) Az) (@Ad _ _ _ _ _ (@AW _ _ _ _ _ _ _ _ (@Aq _ _ _ _ _ _ _ _ CF (pv 3) Ab (Ar _)) (@Ad _ _ _ _ _ (@Al _ _ (6) _ _ _ _ CN.nd rfl (Or.inl rfl) (@Ai _ _ _ _ _ _ _ _ AA Ab (@Ai _ _ _ _ _ _ _ _ A7 (@Ai _ _ _ _ _ _ _ _ AY (pv 2) Ab) (@Ai _ _ _ _ _ _ _ _ Cb (@Ai _ _ _ _ _ _ _ _ C8 Ab (pv 1)) Ab))) (by rfl) (by first | exact .inl rfl | exact .inr rfl | assumption)) (@Ah _ _ _ (@An _ _ _ _ (E7 GN (@AL _ _ _ _ _ (@Aa _ _ _ _ _ (pv 6) (@Aa _ _ _ _ _ (@Ai _ _ _ _ _ _ _ _ Cb (@Ai _ _ _ _ _ _ _ _ Cb (@Ai _ _ _ _ _ _ _ _ C8 Ab (pv 1)) Ab) (pv 6)) Ac (by rfl)) (by rfl))) FG (FH (@Ai _ _ _ _ _ _ _ _ AA Ab (@AK _ _ _ _ _ _ _ _ _ FQ (by rfl) T.z_int PyProof.Rows.boot_int (@Aa _ _ _ _ _ (@C3 _ _ _ _ _ _ _ _ Eb (pv 6) (@Ai _ _ _ _ _ _ _ _ Cb (@Ai _ _ _ _ _ _ _ _ C8 Ab (pv 1)) Ab) (Ar _)) Ac (by rfl)) (by decide) (by decide) (by rfl) (by rfl)))))))) Az) (@Ad _ _ _ _ _ (@AW _ _ _ _ _ _ _ _ (@Aq _ _ _ _ _ _ _ _ CF (pv 3) Ab (Ar _)) (@Ah _ _ _ (@An _ _ _ _ (@AL _ _ _ _ _ (@Aa _ _ _ _ _ (@Ai _ _ _ _ _ _ _ _ C8 Ab (pv 4)) (@Aa _ _ _ _ _ (@Ai _ _ _ _ _ _ _ _ Cb (@Ai _ _ _ _ _ _ _ _ Cb (@Ai _ _ _ _ _ _ _ _ C8 Ab (pv 1)) Ab) (@Ai _ _ _ _ _ _ _ _ C8 Ab (pv 4))) Ac (by rfl)) (by rfl))))) Az) (@Ah _ _ _ (@An _ _ _ _ (@AL _ _ _ _ _ (@Aa _ _ _ _ _ (@Ai _ _ _ _ _ _ _ _ C8 Ab (pv 4)) (@Aa _ _ _ _ _ (@Ai _ _ _ _ _ _ _ _ C8 Ab (pv 5)) Ac (by rfl)) (by rfl)))))))))))))),?_⟩
 have nh:h≠0:=by omega
 refine ⟨_,rfl,c,5,rfl,szc,szd 64,fun z z0 z1=>?_⟩
 and_intros
 refine ⟨nh,?_⟩
 and_intros
 refine ⟨nh,?_⟩
 have ha:=AR (z.fdiv 8) (show (0:Int) < h by omega)
 have hb:=AR (z.fdiv 128) (show (0:Int) < h by omega)
 obtain ⟨a,ea⟩:∃a,a=(z.fdiv 8).fmod h:=⟨_,rfl⟩
 obtain ⟨b,eb⟩:∃b,b=(z.fdiv 128).fmod h:=⟨_,rfl⟩
 dsimp only
 rw [<- ea] at ha ⊢
 rw [<- eb] at hb ⊢
 have ca:JX 1 a:=⟨ha.1,by omega,by decide⟩
 have cb:JX 1 b:=⟨hb.1,by omega,by decide⟩
 have ch:JX 1 h:=⟨by omega,by omega,by decide⟩
 have la:0<=(1:Int)*2 ^ a.toNat/\(1:Int)*2 ^ a.toNat < 2 ^ h.toNat:=Q4 (by omega)
 and_intros
 refine Fe (fun _=>?_) (fun _=>?_)
 ·exact ⟨(by show 0<=sizeLine;decide),fun t ht=>q t [] _ (Ag ht _) Ae (.inl rfl)⟩
 and_intros
 have fp:=NA h1
 by_cases c:b=a
 ·exact ifT (Kj c) (ifT rfl ⟨_,rfl,_,_,rfl,rfl,ca,(by show 1<=sizeLine;decide),fun t ht=>q t [1*2 ^ a.toNat] _ (Ag ht _) Ae (.inr ⟨_,_,rfl,la.1,la.2⟩)⟩)
 refine ifF (Ki c) ?_
 and_intros
 refine Fe (fun _=>?_) (fun _=>?_)
 ·exact ⟨_,rfl,_,_,rfl,rfl,ca,(by show 1<=sizeLine;decide),fun t ht=>q t [1*2 ^ a.toNat] _ (Ag ht _) Ae (.inr ⟨_,_,rfl,la.1,la.2⟩)⟩
 and_intros
 refine Fe (fun _=>?_) (fun _=>?_)
 ·have tl:=QH ha hb c
  exact ⟨_,rfl,_,_,rfl,rfl,ca,_,rfl,_,_,rfl,rfl,cb,_,_,rfl,rfl,(by show 1<=sizeLine;decide),fun t ht=>q t [1*2 ^ a.toNat+1*2 ^ b.toNat] _ (Ag ht _) Ae (.inr ⟨_,_,rfl,tl.1,tl.2⟩)⟩
 and_intros
 refine Fe (fun _=>?_) (fun _=>?_)
 ·refine ⟨_,rfl,_,_,rfl,rfl,⟨(by show (_:Int)≠0;decide),szd 9000⟩,_,rfl,_,_,rfl,rfl,ch,_,_,rfl,rfl,_,_,rfl,rfl,(by show (1:Int)*2 ^ h.toNat - 1≠0;omega),_,_,rfl,rfl,?_⟩
  have hm:=AR (z.fdiv 8) (show (0:Int) < 1*2 ^ h.toNat - 1 by omega)
  dsimp only
  obtain ⟨m,em⟩:∃m,m=1+(z.fdiv 8).fmod (1*2 ^ h.toNat - 1):=⟨_,rfl⟩
  have m01:0<=m/\m < 2 ^ h.toNat:=by omega
  rw [<- em]
  clear em hm
  refine ⟨_,rfl,_,rfl,_,_,rfl,rfl,ch,_,_,rfl,rfl,_,rfl,_,_,rfl,rfl,(by show 2<=sizeLine;decide),fun o ho=>?_⟩
  refine ⟨_,rfl,_,rfl,_,_,rfl,rfl,ch,_,_,rfl,rfl,_,_,rfl,rfl,.inr ⟨_,rfl,_,_,rfl,rfl,_,rfl,o,_,rfl,Ae,fun t H' s e=>?_⟩⟩
  cases cc:decide (m < 1*2 ^ h.toNat - 1) with
  | true =>
    rw [cc] at e
    exact q t [m,1*2 ^ h.toNat - 1 - m] H' ((Ag ho _).trans s) e (.inr ⟨_,_,rfl,m01.1,m01.2⟩)
  | false =>
    rw [cc] at e
    exact q t [m] H' ((Ag ho _).trans s) e (.inr ⟨_,_,rfl,m01.1,m01.2⟩)
 and_intros
 refine Fe (fun _=>?_) (fun _=>?_)
 ·exact ⟨_,rfl,_,_,rfl,rfl,ca,_,rfl,_,_,rfl,rfl,ch,_,_,rfl,rfl,_,rfl,_,_,rfl,rfl,ca,_,_,rfl,rfl,(by show 2<=sizeLine;decide),fun t ht=>q t [1*2 ^ a.toNat,1*2 ^ h.toNat - 1 - 1*2 ^ a.toNat] _ (Ag ht _) Ae (.inr ⟨_,_,rfl,la.1,la.2⟩)⟩
 ·exact ⟨_,rfl,_,_,rfl,rfl,ca,_,rfl,_,_,rfl,rfl,cb,(by show 2<=sizeLine;decide),fun t ht=>q t [1*2 ^ a.toNat,1*2 ^ b.toNat] _ (Ag ht _) Ae (.inr ⟨_,_,rfl,la.1,la.2⟩)⟩
theorem IE (T:Tx K mg ad):AO P w K mg base CX0 2 ad.f_law_number ad.d_law_number ["_law_cell_here","_law_k","_law_mode"] Jg:=by
 refine T.F_law_number.ok EU (fun vs H Q E h=>?_) (fun cdv A outer s H vs Q E hr h=>?_)
 ·obtain ⟨c,k,m,rfl,_⟩:=h
  rfl
 obtain ⟨c,k,m,rfl,szc,k0,k1,m0,m1,q⟩:=h
 refine ⟨_,(@Ad _ _ _ _ _ (@Al _ _ (3) _ _ _ _ EU.nd rfl (Or.inl rfl) (@Ai _ _ _ _ _ _ _ _ AY (@Ak _ _ _ _ _ _ _ _ _ _ _ _ _ _ _ _ (Bq T) (hr.mono (by decide)) rfl T.m_law_mixed T.F_law_mixed.kp T.b_law_mixed .nil Ap (@Aa _ _ _ _ _ (pv 0) (@Aa _ _ _ _ _ (@Ai _ _ _ _ _ _ _ _ AA (pv 1) Ab) Ac (by rfl)) (by rfl)) (by decide) (by rfl) (by rfl)) Ab) (by rfl) (by first | exact .inl rfl | exact .inr rfl | assumption)) (@Ah _ _ _ (@An _ _ _ _ (@At _ _ _ _ _ _ _ Ba (@CT _ _ _ _ (@Aa _ _ _ _ _ (@Ai _ _ _ _ _ _ _ _ AA Ab (@Ai _ _ _ _ _ _ _ _ A7 (pv 3) Ab)) (@Aa _ _ _ _ _ (@Ai _ _ _ _ _ _ _ _ Cc (@Ai _ _ _ _ _ _ _ _ AA Ab (@Ai _ _ _ _ _ _ _ _ A7 (pv 3) Ab)) (@Ai _ _ _ _ _ _ _ _ Gd Ab Ab)) (@Aa _ _ _ _ _ (@Ai _ _ _ _ _ _ _ _ AA Ab (@Ai _ _ _ _ _ _ _ _ A7 (pv 3) (@Ai _ _ _ _ _ _ _ _ Gd Ab Ab))) (@Aa _ _ _ _ _ (@Ai _ _ _ _ _ _ _ _ AA Ab (@Ai _ _ _ _ _ _ _ _ A7 (pv 3) Ab)) Ac (by rfl)) (by rfl)) (by rfl)) (by rfl))) (pv 2) (fun _ _=>rfl))))),?_⟩
 and_intros
 refine ⟨c,k+60,rfl,szc,Bp (by omega) (by omega),fun z z0 z1=>?_⟩
 have szz:=QB z0 z1
 and_intros
 refine ⟨(by show 4<=sizeLine;decide),fun a ha=>?_⟩
 have q5:=AR (z.fdiv 64) (show (0:Int) < 5 by decide)
 have q4:=AR (z.fdiv 64) (show (0:Int) < 4 by decide)
 have q9:=AR (z.fdiv 64) (show (0:Int) < 10 ^ (9:Int).toNat by decide)
 have q60:=AR (z.fdiv 64) (show (0:Int) < 60 by decide)
 have e8:(10:Int) ^ (8:Int).toNat=100000000:=by decide
 have e9:(10:Int) ^ (9:Int).toNat=1000000000:=by decide
 obtain ⟨v,hv,v0,v1⟩:=PK (x0:=1+(z.fdiv 64).fmod 5) (x1:=(1+(z.fdiv 64).fmod 4)*10 ^ (8:Int).toNat) (x2:=1+(z.fdiv 64).fmod (10 ^ (9:Int).toNat)) (x3:=1+(z.fdiv 64).fmod 60) (fun v=>1<=v/\v<=1000000000) m m0 m1 ⟨by omega,by omega⟩ (by rw [e8];exact ⟨by omega,by omega⟩) ⟨by omega,by omega⟩ ⟨by omega,by omega⟩
 exact ⟨_,rfl,a,_,_,_,rfl,rfl,SqL.of Ae,hv,q _ _ (Ag ha _) v0 v1⟩
theorem Ky (T:Tx K mg ad):AO P w K mg base CX0 2 ad.f_law_lots ad.d_law_lots ["_law_cell_here","_law_hands"] KW:=by
 refine T.F_law_lots.ok G1 (fun vs H Q E h=>?_) (fun cdv A outer s H vs Q E hr h=>?_)
 ·obtain ⟨c,h,rfl,_⟩:=h
  rfl
 obtain ⟨c,h,rfl,szc,h1,h12,q⟩:=h
 refine ⟨_,(@Ad _ _ _ _ _ (@Al _ _ (2) _ _ _ _ G1.nd rfl (Or.inl rfl) (@Ax _ _ _ _ _ _ _ _ _ (Js hr.units) (by rfl) T.z_sorted PyProof.Rows.boot_sorted (@Aa _ _ _ _ _ (Cd (fsc:=Af Ci) (N:=["_law_cell_here","_law_hands","_law_order"]) (Nc:=["_law_cell_here","_law_hands","_law_order","_law_hand"]) rfl rfl ⟨rfl,by decide +kernel,by decide +kernel,rfl,by decide +kernel,rfl,by decide +kernel,rfl,by decide +kernel⟩ rfl (BU rfl T.z_range (@Aa _ _ _ _ _ (pv 1) Ac (by rfl))) (fun _ _ _ _=>C4) (fun _ _ _ _=>(@AL _ _ _ _ _ (@Aa _ _ _ _ _ (@Ak _ _ _ _ _ _ _ _ _ _ _ _ _ _ _ _ (Bq T) (hr.mono (by decide)) rfl T.m_law_mixed T.F_law_mixed.kp T.b_law_mixed .nil Ap (@Aa _ _ _ _ _ (pv 0) (@Aa _ _ _ _ _ (@Ai _ _ _ _ _ _ _ _ AA Ab (pv 3)) Ac (by rfl)) (by rfl)) (by decide) (by rfl) (by rfl)) (@Aa _ _ _ _ _ (pv 3) Ac (by rfl)) (by rfl))))) Ac (by rfl)) (by decide) (by decide) (by rfl) (by rfl)) (by rfl) (by first | exact .inl rfl | exact .inr rfl | assumption)) (@Ah _ _ _ (@An _ _ _ _ (Cd (fsc:=Af Ci) (N:=["_law_cell_here","_law_hands","_law_order"]) (Nc:=["_law_cell_here","_law_hands","_law_order","_law_pair"]) rfl rfl ⟨rfl,by decide +kernel,by decide +kernel,rfl,by decide +kernel,rfl,by decide +kernel,rfl,by decide +kernel⟩ rfl (BD (pv 2)) (fun _ _ _ _=>C4) (fun _ _ _ _=>(@At _ _ _ _ _ _ _ (EF K) (pv 3) Ab (fun _ _=>rfl))))))),?_⟩
 obtain ⟨n,rfl⟩:∃n:Nat,h=(n:Int):=⟨h.toNat,by omega⟩
 and_intros
 refine ⟨by omega,by omega,?_⟩
 refine C6 (Bu (by omega)) (fun D i ys H'=>∃qs:List (Addr × List Int),ys=(qs.map fun q=>V.ref q.1)/\qs.length=i/\(qs.map fun q=>q.2.getD 1 0)=ups i/\H' D=some (.lst ys)/\A0 H H'/\∀q∈qs,H' q.1=some (.tup (q.2.map V.int))/\∃z k,q.2=[z,k]) (fun D hD=>⟨[],rfl,rfl,rfl,Ae,Ag hD _,(fun _ m=>nomatch m)⟩) (fun D i ys H' ⟨qs,f1,f2,_,f3,_⟩=>⟨f3,by rw [f1,List.length_map];omega⟩) ?_ ?_
 ·rintro D i ys H' K1 K2 hD hi ⟨qs,rfl,f2,f3,f4,f5,f6⟩ k1 k2
  refine yes (ifT rfl ?_)
  and_intros
  refine ⟨c,_,rfl,szc,Bp (by omega) (by omega),fun z z0 z1=>?_⟩
  and_intros
  refine ⟨(by show 2<=sizeLine;decide),fun t ht=>?_⟩
  have s2:=Ag ht (.tup [V.int z,V.int (0+(i:Int))])
  have f4':=s2 _ _ f4
  refine k1 _ _ f4' ⟨qs++[(t,[z,0+(i:Int)])],by rw [List.map_append];rfl,by rw [List.length_append,f2];rfl,?_,Ae,AB (f5.trans s2) hD,fun q m=>?_⟩
  ·rw [List.map_append,f3]
   unfold ups
   rw [List.range_succ,List.map_append]
   show _++[0+(i:Int)]=_
   rw [Int.zero_add]
   rfl
  ·have keep:∀b u,(upd H' t (.tup [V.int z,V.int (0+(i:Int))])) b=some (.tup u)->(upd (upd H' t (.tup [V.int z,V.int (0+(i:Int))])) D (.lst ((qs.map fun q=>V.ref q.1)++[V.ref t]))) b=some (.tup u):=fun b u e=>by
    rw [Ay (Ds e f4' (fun z=>nomatch z))]
    exact e
   rcases List.mem_append.mp m with m | m
   ·exact ⟨keep _ _ (s2 _ _ (f6 q m).1),(f6 q m).2⟩
   ·rw [List.mem_singleton.mp m]
    exact ⟨keep _ _ Ae,_,_,rfl⟩
 rintro D ys H1 hD ⟨qs,rfl,f2,f3,f4,f5,f6⟩
 rw [Int.toNat_natCast] at f2 f3
 refine ⟨D,qs,rfl,SqL.of f4,(fun q m=>SqT.of (f6 q m).1),by omega,fun l rs pm srt hl=>?_⟩
 have s2:=Ag hl (.lst (rs.map fun q=>V.ref q.1))
 have e2:(upd H1 l (.lst (rs.map fun q=>V.ref q.1))) l=some (.lst (rs.map fun q=>V.ref q.1)):=Ae
 generalize upd H1 l (.lst (rs.map fun q=>V.ref q.1))=H2 at s2 e2 ⊢
 have rl:rs.length=n:=by rw [pm.length_eq,f2]
 refine ⟨_,rfl,l,rfl,⟨_,SqL.of e2⟩,?_⟩
 refine BF (xs:=rs.map fun q=>V.ref q.1) (by rw [List.length_map];exact Bu (by omega)) (fun D2 i ys H'=>ys=((rs.take i).map fun q=>q.2.getD 1 0).map V.int/\H'=upd H2 D2 (.lst ys)) (fun D2 hD2=>⟨rfl,rfl⟩) (fun D2 i ys H' ⟨g1,g2⟩=>⟨by rw [g2];exact Ae,by rw [g1,List.length_map,List.length_map];exact List.length_take_le _ _⟩) (fun D2 i ys H' hD2 ⟨_,g2⟩=>by rw [g2];exact SqL.of (Ag hD2 _ _ _ e2)) ?_ ?_
 ·rintro D2 i x ys H' K1 K2 hD2 hx ⟨g1,rfl⟩ k1 k2
  rw [List.getElem?_map] at hx
  obtain ⟨r,hr',rfl⟩:=Option.map_eq_some_iff.mp hx
  have rm:=List.mem_of_getElem? hr'
  obtain ⟨er,z,k,ek⟩:=f6 r (pm.mem_iff.mp rm)
  have et:rs.take (i+1)=rs.take i++[r]:=by rw [List.take_succ,hr'];rfl
  have er2:=Ag hD2 (.lst ys) _ _ (s2 _ _ er)
  rw [ek] at er2
  refine yes (ifT rfl ?_)
  refine ⟨_,rfl,r.1,_,_,_,rfl,rfl,SqT.of er2,rfl,?_⟩
  refine k1 _ _ Ae ⟨?_,by rw [CY]⟩
  rw [et,List.map_append,List.map_append,g1]
  show _=_++[V.int (r.2.getD 1 0)]
  rw [ek]
  rfl
 rintro D2 ys H3 hD2 ⟨rfl,rfl⟩
 rw [List.length_map,List.take_of_length_le (Nat.le_refl _)]
 refine q D2 (rs.map fun q=>q.2.getD 1 0) _ ((f5.trans s2).trans (Ag hD2 _)) Ae ?_
 rw [Int.toNat_natCast,<- f3]
 exact pm.map _
theorem Hm (T:Tx K mg ad):AO P w K mg base CX0 2 ad.f_law_is_slip ad.d_law_is_slip ["_law_slip_here","_law_hands"] Ij:=by
 refine T.F_law_is_slip.ok CV (fun vs H Q E h=>?_) (fun cdv A outer s H vs Q E hr h=>?_)
 ·obtain ⟨p,xs,h,rfl,_⟩:=h
  rfl
 obtain ⟨p,xs,h,rfl,hp,ex,h12,q⟩:=h
 refine ⟨_,(@Ad _ _ _ _ _ (@AW _ _ _ _ _ _ _ _ (@Bo _ _ _ _ (@Bi _ _ _ (@Ax _ _ _ _ _ _ _ _ _ BR (by rfl) T.z_isinstance PyProof.Rows.boot_isinstance (@Aa _ _ _ _ _ (pv 0) (@Aa _ _ _ _ _ (C2 (v:=.ty "tuple") rfl T.z_tuple PyProof.Rows.boot_tuple rfl) Ac (by rfl)) (by rfl)) (by decide) (by decide) (by rfl) (by rfl)) (by intro _;rfl))) (@Ah _ _ _ (@An _ _ _ _ DK)) Az) (@Ad _ _ _ _ _ (@Al _ _ (2) _ _ _ _ CV.nd rfl (Or.inl rfl) Ab (by rfl) (by first | exact .inl rfl | exact .inr rfl | assumption)) (@Ad _ _ _ _ _ (Es PassesOwn.never rfl (Q1 (pv 0)) (Ce (i:=3) CV.nd rfl (Or.inl rfl)) (@Ad _ _ _ _ _ (@AW _ _ _ _ _ _ _ _ (PW.pt (@BS _ _ _ _ _ _ _ (@Bo _ _ _ _ (@Bi _ _ _ (@Ak _ _ _ _ _ _ _ _ _ _ _ _ _ _ _ _ (CS T) (hr.mono (by decide)) rfl T.m_law_whole T.F_law_whole.kp T.b_law_whole .nil Ap (@Aa _ _ _ _ _ (pv 3) Ac (by rfl)) (by decide) (by rfl) (by rfl)) (by intro _;rfl))) (@BS _ _ _ _ _ _ _ (@Aq _ _ _ _ _ _ _ _ Eb (pv 3) Ab (Ar _)) (@BS _ _ _ _ _ _ _ (@Aq _ _ _ _ _ _ _ _ PH (pv 3) (@Ai _ _ _ _ _ _ _ _ C8 Ab (pv 1)) (Ar _)) (@CU _ _ _ _ (@Aq _ _ _ _ _ _ _ _ E6 (@Ai _ _ _ _ _ _ _ _ Oe (pv 3) (pv 2)) Ab (Ar _))))))) (@Ah _ _ _ (@An _ _ _ _ DK)) Az) (@Ah _ _ _ (@Al _ _ (2) _ _ _ _ CV.nd rfl (Or.inl rfl) (@Ai _ _ _ _ _ _ _ _ PJ (pv 2) (pv 3)) (by rfl) (by first | exact .inl rfl | exact .inr rfl | assumption))))) (@Ah _ _ _ (@An _ _ _ _ DK))))),?_⟩
 refine ⟨_,rfl,_,_,_,_,rfl,Dp.tup hp,B0,?_⟩
 and_intros
 refine ⟨⟨_,SqT.of hp⟩,ON (xs:=xs.map V.int) (fun i σ' H'=>∃(v:Option V) (s:Int),σ'=[some (.ref p),some (.int h),some (.int s),v]/\H'=H/\(i=0->s=0)) ⟨none,0,rfl,rfl,fun _=>rfl⟩ (fun i σ' H' _ ⟨_,_,_,e,_⟩=>by rw [e];exact SqT.of hp) ?_ ?_⟩
 ·rintro i y σ' H' hy ⟨v,s,rfl,rfl,e0⟩
  obtain ⟨t,ht,rfl⟩:=Jz hy
  obtain ⟨a,ha,rfl,rfl⟩:∃a:Nat,a < h/\i=0/\t=(2:Int) ^ a:=by
   rcases ex with rfl | ⟨a,ha,rfl⟩
   ·cases ht
   ·rcases i with _ | i
    ·cases ht
     exact ⟨a,ha,rfl,rfl⟩
    ·cases ht
  obtain rfl:=e0 rfl
  refine ⟨_,rfl,?_⟩
  have p1:(1:Int)<=2 ^ a:=Int.pow_pos (by decide)
  have p2:(2:Int) ^ a < 2 ^ h:=by exact_mod_cast Nat.pow_lt_pow_right (by decide) ha
  and_intros
  refine ifF (decide_eq_false (by omega)) ?_
  have b0:Builtin.bitAnd ((2:Int) ^ a) 0=0:=(by decide:∀a:Nat,a < 12->Builtin.bitAnd ((2:Int) ^ a) 0=0) a (by omega)
  and_intros
  refine ⟨⟨by omega,by omega,by decide⟩,?_⟩
  and_intros
  refine ifF (decide_eq_false (by rw [Int.one_mul,Int.toNat_natCast];omega)) ?_
  and_intros
  refine ifF (by show (!decide (V.int (Builtin.bitAnd ((2:Int) ^ a) 0)=V.int 0))=false;rw [b0];rfl) ?_
  and_intros
  exact fun z=>nomatch z
 ·rintro σ' H' ⟨v,s,rfl,rfl,_⟩
  and_intros
  exact q
theorem Dl (T:Tx K mg ad):AO P w K mg base CX0 2 ad.f_Lists_least_votes ad.d_Lists_least_votes ["self","ballots"] (My ad.c_Lists):=by
 refine T.F_Lists_least_votes.ok E9 (fun vs H Q E h=>?_) (fun cdv A outer s H vs Q E hr h=>?_)
 ·obtain ⟨a,h,s,st,u,v,ns,n,rfl,_⟩:=h
  rfl
 obtain ⟨a,h,s,st,u,v,ns,n,rfl,k,v0,su,sv,sn,q⟩:=h
 refine ⟨_,(@Ah _ _ _ (@An _ _ _ _ (@Ax _ _ _ _ _ _ _ _ _ (FR rfl) (by rfl) T.z_max PyProof.Rows.boot_max (@Aa _ _ _ _ _ Ab (@Aa _ _ _ _ _ (@Ak _ _ _ _ _ _ _ _ _ _ _ _ _ _ _ _ (PF T) (hr.mono (by decide)) rfl T.m_up T.F_up.kp T.b_up .nil Ap (@Aa _ _ _ _ _ (@Ai _ _ _ _ _ _ _ _ Cc (@At _ _ _ _ _ _ _ Aw (Bh (pv 0) rfl) Ab (fun _ _=>rfl)) (pv 1)) (@Aa _ _ _ _ _ (@At _ _ _ _ _ _ _ Aw (Bh (pv 0) rfl) Ab (fun _ _=>rfl)) Ac (by rfl)) (by rfl)) (by decide) (by rfl) (by rfl)) Ac (by rfl)) (by rfl)) (by decide) (by decide) (by rfl) (by rfl)))),?_⟩
 obtain ⟨dx,l,t,k1,k2,k3⟩:=k
 refine ⟨_,rfl,a,_,dx,_,_,rfl,k1,T.cl_Lists,T.na_Lists_hurdle,rfl,?_⟩
 and_intros
 refine ⟨a,_,dx,_,_,rfl,k1,T.cl_Lists,T.na_Lists_hurdle,rfl,?_⟩
 and_intros
 refine ⟨_,_,rfl,v0,sv.mono (by decide),?_⟩
 and_intros
 refine ⟨1,_,rfl,?_⟩
 rw [show (if -((-(u*n)).fdiv v) > 1 then -((-(u*n)).fdiv v) else 1)=max 1 (-((-(u*n)).fdiv v)) from by split <;> omega]
 exact q
theorem Eo (T:Tx K mg ad):AO P w K mg base CX0 2 ad.f_Lists_greatest_mark ad.d_Lists_greatest_mark ["self","marks"] (Ih ad.c_Lists):=by
 refine T.F_Lists_greatest_mark.ok Bc (fun vs H Q E h=>?_) (fun cdv A outer s H vs Q E hr h=>?_)
 ·obtain ⟨a,m,h,s,st,u,v,ns,xs,had,l,rfl,_⟩:=h
  rfl
 obtain ⟨a,m,h,s,st,u,v,ns,xs,had,l,rfl,il,sn,mk,hp,ne,q⟩:=h
 refine ⟨_,(@Ad _ _ _ _ _ (JN (j:=2) (fsc:=Af AG) (N:=["self","marks","by_lots","best","hand"]) (Nc:=["self","marks","by_lots","best",".s4","hand"]) rfl rfl ⟨rfl,by decide +kernel,by decide +kernel,rfl,by decide +kernel,rfl,by decide +kernel,rfl,by decide +kernel⟩ rfl Bc.nd rfl rfl (BD (Bh (pv 0) rfl)) (fun _ _ _ _=>(Ep (@Aq _ _ _ _ _ _ _ _ FB (@At _ _ _ _ _ _ _ (Fx K) (pv 1) (pv 5) (fun _ _=>rfl)) B8 (Ar _)))) (fun _ _ _ _=>(pv 5)) rfl) (@Ad _ _ _ _ _ (@Al _ _ (3) _ _ _ _ Bc.nd rfl (Or.inl rfl) (@At _ _ _ _ _ _ _ Ba (pv 2) Ab (fun _ _=>rfl)) (by rfl) (by first | exact .inl rfl | exact .inr rfl | assumption)) (@Ad _ _ _ _ _ (Es PassesOwn.never rfl (BD (pv 2)) (Ce (i:=4) Bc.nd rfl (Or.inl rfl)) (@Ah _ _ _ (@AW _ _ _ _ _ _ _ _ (@Bi _ _ _ (@Ak _ _ _ _ _ _ _ _ _ _ _ _ _ _ _ _ (Oc T) (hr.mono (by decide)) rfl T.m_under T.F_under.kp T.b_under .nil Ap (@Aa _ _ _ _ _ (@At _ _ _ _ _ _ _ Ba (pv 1) (pv 3) (fun _ _=>rfl)) (@Aa _ _ _ _ _ (@At _ _ _ _ _ _ _ Ba (pv 1) (pv 4) (fun _ _=>rfl)) Ac (by rfl)) (by rfl)) (by decide) (by rfl) (by rfl)) (by intro _;rfl)) (@Ah _ _ _ (@Al _ _ (3) _ _ _ _ Bc.nd rfl (Or.inl rfl) (pv 4) (by rfl) (by first | exact .inl rfl | exact .inr rfl | assumption))) Az))) (@Ah _ _ _ (@An _ _ _ _ (pv 3)))))),?_⟩
 obtain ⟨dx,la,t,k1,k2,k3⟩:=id il
 obtain ⟨ys,m1,m2,m3⟩:=id mk
 have h12:=sn.h12
 have st1:=sn.st1
 have st9:=sn.st9
 have nl:ns.length=h:=by rw [sn.perm.length_eq,M7]
 have inr:∀z∈ns,0<=z/\z < h:=fun z m=>C5.mp (sn.perm.mem_iff.mp m)
 refine ⟨_,rfl,a,_,dx,_,_,rfl,k1,T.cl_Lists,T.na_Lists_lots,rfl,?_⟩
 refine ⟨la,rfl,⟨_,SqL.of k2⟩,?_⟩
 refine BF (xs:=ns.map V.int) (by rw [List.length_map];exact Bu (by omega)) (fun D i ys' H'=>ys'=(A6 xs (ns.take i) l).map V.int/\H'=upd H D (.lst ys')) (fun D hD=>⟨rfl,rfl⟩) (fun D i ys' H' ⟨f1,f2⟩=>⟨by rw [f2];exact Ae,by rw [f1,List.length_map];unfold A6;exact Nat.le_trans (List.length_filter_le _ _) (List.length_take_le _ _)⟩) (fun D i ys' H' hD ⟨_,f2⟩=>by rw [f2];exact SqL.of (Ag hD _ _ _ k2)) ?_ ?_
 ·rintro D i x ys' H' K1 K2 hD hx ⟨f1,rfl⟩ c1 c2
  obtain ⟨z,hz,rfl⟩:=Jz hx
  have zm:=List.mem_of_getElem? hz
  obtain ⟨z0,z1⟩:=inr z zm
  have et:ns.take (i+1)=ns.take i++[z]:=by rw [List.take_succ,hz];rfl
  have m1':=Ag hD (.lst ys') _ _ m1
  rcases m3 z.toNat (by omega) with ⟨lo,e⟩ | ⟨lo,p,e,ep⟩
  ·have ea:atI ys z=some .non:=by have:=Dk e;rwa [Int.toNat_of_nonneg z0] at this
   refine ⟨_,rfl,_,rfl,m,_,_,_,rfl,rfl,SqL.of m1',ea,rfl,?_⟩
   refine ⟨_,rfl,?_⟩
   refine ifF rfl ?_
   refine c2 _ ⟨?_,rfl⟩
   rw [f1,et,G8,if_neg (by omega),List.append_nil]
  ·have ea:atI ys z=some (.ref p):=by have:=Dk e;rwa [Int.toNat_of_nonneg z0] at this
   refine ⟨_,rfl,_,rfl,m,_,_,_,rfl,rfl,SqL.of m1',ea,rfl,?_⟩
   refine ⟨_,rfl,?_⟩
   refine ifT rfl ?_
   refine ⟨_,rfl,?_⟩
   refine c1 _ _ Ae ⟨?_,by rw [CY]⟩
   rw [f1,et,G8,if_pos lo,List.map_append]
   rfl
 rintro D ys' H1 hD ⟨rfl,rfl⟩
 rw [List.length_map,List.take_of_length_le (Nat.le_refl _)]
 have s1:=Ag hD (.lst ((A6 xs ns l).map V.int))
 have e1:(upd H D (.lst ((A6 xs ns l).map V.int))) D=some (.lst ((A6 xs ns l).map V.int)):=Ae
 generalize upd H D (.lst ((A6 xs ns l).map V.int))=H1 at s1 e1 ⊢
 have mark:∀x∈A6 xs ns l,∃p,atI ys x=some (.ref p)/\H1 p=some (.tup [.int (DX (xs.getD x.toNat 0) (1+st*had.getD x.toNat 0)),.int (DE (xs.getD x.toNat 0) (1+st*had.getD x.toNat 0))]):=fun x xm=>by
  obtain ⟨xn,xl⟩:=Cr xm
  obtain ⟨x0,x1⟩:=inr x xn
  rcases m3 x.toNat (by omega) with ⟨lo,e⟩ | ⟨lo,p,e,ep⟩
  ·omega
  ·exact ⟨p,by have:=Dk e;rwa [Int.toNat_of_nonneg x0] at this,s1 _ _ ep⟩
 have pos:∀x:Int,0 < 1+st*had.getD x.toNat 0/\1+st*had.getD x.toNat 0<=541:=fun x=>by
  have:=Int.mul_nonneg (show 0<=st by omega) (hp x.toNat).1
  have:=Int.mul_le_mul st9 (hp x.toNat).2 (hp x.toNat).1 (by decide)
  omega
 have q':Q (.int (Br xs ns had l st)) H1:=q _ s1
 unfold Br at q'
 cases et:A6 xs ns l with
 | nil=>exact absurd et ne
 | cons b r =>
   rw [et] at e1 mark q'
   dsimp only at q'
   have a0:atI ((b :: r).map V.int) 0=some (.int b):=atN (i:=0) rfl
   refine ⟨_,rfl,D,_,_,_,rfl,rfl,SqL.of e1,a0,?_⟩
   refine ⟨_,rfl,D,rfl,⟨_,SqL.of e1⟩,Ft (xs:=(b :: r).map V.int) (fun i σ' H'=>∃v4,σ'=[some (.ref a),some (.ref m),some (.ref D),some (.int (BM xs had st b ((b :: r).take i))),v4]/\H1=H') ⟨none,rfl,rfl⟩ (fun i σ' H' _ ⟨_,_,e⟩=>by rw [<- e];exact SqL.of e1) ?_ ?_⟩
   ·rintro i x σ' H' hx ⟨v4,rfl,rfl⟩
    obtain ⟨z,hz,rfl⟩:=Jz hx
    have zm:=List.mem_of_getElem? hz
    have tk:(b :: r).take (i+1)=(b :: r).take i++[z]:=by rw [List.take_succ,hz];rfl
    have bm:BM xs had st b ((b :: r).take i)∈b :: r:=by
     rcases EX xs had st ((b :: r).take i) b with e | e
     ·rw [e];exact List.mem_cons_self ..
     ·exact List.mem_of_mem_take e
    have nx:BM xs had st b ((b :: r).take (i+1))=if GE xs had st (BM xs had st b ((b :: r).take i)) z=true then z else BM xs had st b ((b :: r).take i):=by
     rw [tk]
     unfold BM
     rw [List.foldl_append]
     rfl
    rw [nx]
    generalize BM xs had st b ((b :: r).take i)=c at bm ⊢
    obtain ⟨p1,a1,h1⟩:=mark c bm
    obtain ⟨p2,a2,h2⟩:=mark z zm
    have z1:=NS (v:=xs.getD c.toNat 0) (pos c).1
    have z2:=NS (v:=xs.getD z.toNat 0) (pos z).1
    have b1:=sn.big c.toNat
    have b2:=sn.big z.toNat
    rw [if_neg (by omega)] at z1 z2
    have pc:=pos c
    have pz:=pos z
    have m1':=s1 _ _ m1
    refine ⟨_,rfl,_,rfl,m,_,_,_,rfl,rfl,SqL.of m1',a1,_,rfl,_,rfl,m,_,_,_,rfl,rfl,SqL.of m1',a2,p1,p2,_,_,_,_,rfl,SqT.of h1,SqT.of h2,(Bp (n:=64) (by omega) (by omega)).mono (by decide),(Bp (n:=64) (by omega) (by omega)).mono (by decide),(Bp (n:=64) (by omega) (by omega)).mono (by decide),(Bp (n:=64) (by omega) (by omega)).mono (by decide),?_⟩
    rw [MW pc.1 pz.1]
    refine ⟨_,rfl,?_⟩
    refine Fe (fun k=>?_) (fun k=>?_)
    ·refine ⟨_,rfl,?_⟩
     exact ⟨_,by rw [if_pos (show GE xs had st c z=true from k)];rfl,rfl⟩
    ·exact ⟨_,by rw [if_neg (show ¬ GE xs had st c z=true from k)];rfl,rfl⟩
   ·rintro σ' H' ⟨v4,rfl,rfl⟩
    rw [List.length_map,List.take_of_length_le (Nat.le_refl _)]
    exact ⟨_,rfl,q'⟩
theorem Ea (T:Tx K mg ad):AO P w K mg base CX0 2 ad.f_ListsMargin_possible ad.d_ListsMargin_possible ["self","sheet"] (Im ad.c_ListsMargin ad.c_Lists):=by
 refine T.F_ListsMargin_possible.ok Eg (fun vs H Q E h=>?_) (fun cdv A outer s H vs Q E hr h=>?_)
 ·obtain ⟨g,l,h,ls,rfl,_⟩:=h
  rfl
 obtain ⟨g,l,h,ls,rfl,hl,gl,l61,q⟩:=h
 refine ⟨_,(@Ah _ _ _ (@An _ _ _ _ (@C3 _ _ _ _ _ _ _ _ Ho (@Ak _ _ _ _ _ _ _ _ _ _ _ _ _ _ _ _ (DP T) (hr.mono (by decide)) rfl T.m_ballots_in T.F_ballots_in.kp T.b_ballots_in .nil Ap (@Aa _ _ _ _ _ (pv 1) Ac (by rfl)) (by decide) (by rfl) (by rfl)) Ab (Ar _)))),?_⟩
 and_intros
 refine ⟨l,ls,h,rfl,hl,gl,l61,fun H1 s1=>?_⟩
 and_intros
 exact q H1 s1
theorem CQ (T:Tx K mg ad):AO P w K mg base CX0 2 ad.f_ListsMargin_votes_to_overtake ad.d_ListsMargin_votes_to_overtake ["self","votes","outcome","b","a"] (Il ad.c_ListsMargin ad.c_Lists):=by
 refine T.F_ListsMargin_votes_to_overtake.ok AH (fun vs H Q E h=>?_) (fun cdv A outer s H vs Q E hr h=>?_)
 ·obtain ⟨g,a,vv,oo,h,s,st,u,v,ns,xs,out,i,j,rfl,_⟩:=h
  rfl
 obtain ⟨g,a,vv,oo,h,s,st,u,v,ns,xs,out,i,j,rfl,⟨dm,hg⟩,md,hv,ho,nm,ih,jh,op,q⟩:=h
 refine ⟨_,(@Ad _ _ _ _ _ (@Al _ _ (5) _ _ _ _ AH.nd rfl (Or.inl rfl) (@Ai _ _ _ _ _ _ _ _ AA Ab (@Ai _ _ _ _ _ _ _ _ Cc (Bh (Bh (pv 0) rfl) rfl) (@Ai _ _ _ _ _ _ _ _ Cb (@At _ _ _ _ _ _ _ Ba (pv 2) (pv 3) (fun _ _=>rfl)) Ab))) (by rfl) (by first | exact .inl rfl | exact .inr rfl | assumption)) (@Ad _ _ _ _ _ (@Al _ _ (6) _ _ _ _ AH.nd rfl (Or.inl rfl) (@Ai _ _ _ _ _ _ _ _ AA Ab (@Ai _ _ _ _ _ _ _ _ Cc (Bh (Bh (pv 0) rfl) rfl) (@At _ _ _ _ _ _ _ Ba (pv 2) (pv 4) (fun _ _=>rfl)))) (by rfl) (by first | exact .inl rfl | exact .inr rfl | assumption)) (@Ad _ _ _ _ _ (@Al _ _ (7) _ _ _ _ AH.nd rfl (Or.inl rfl) (@Ai _ _ _ _ _ _ _ _ Cb (@Ai _ _ _ _ _ _ _ _ Cc (@At _ _ _ _ _ _ _ Ba (pv 1) (pv 3) (fun _ _=>rfl)) (pv 6)) (@Ai _ _ _ _ _ _ _ _ Cc (@At _ _ _ _ _ _ _ Ba (pv 1) (pv 4) (fun _ _=>rfl)) (pv 5))) (by rfl) (by first | exact .inl rfl | exact .inr rfl | assumption)) (@Ad _ _ _ _ _ (@AW _ _ _ _ _ _ _ _ (@Bi _ _ _ (AE (Bh (pv 0) rfl) T.cl_Lists T.me_Lists_ahead (JB T) (hr.mono (by decide)) T.b_Way_ahead .nil Ap (@Aa _ _ _ _ _ (pv 4) (@Aa _ _ _ _ _ (pv 3) Ac (by rfl)) (by rfl))) (by intro _;rfl)) (@Ah _ _ _ (@An _ _ _ _ (@Ak _ _ _ _ _ _ _ _ _ _ _ _ _ _ _ _ (PF T) (hr.mono (by decide)) rfl T.m_up T.F_up.kp T.b_up .nil Ap (@Aa _ _ _ _ _ (pv 7) (@Aa _ _ _ _ _ (@Ai _ _ _ _ _ _ _ _ AA (pv 6) (pv 5)) Ac (by rfl)) (by rfl)) (by decide) (by rfl) (by rfl)))) Az) (@Ah _ _ _ (@An _ _ _ _ (@Ai _ _ _ _ _ _ _ _ AA (@Ak _ _ _ _ _ _ _ _ _ _ _ _ _ _ _ _ (OY T) (hr.mono (by decide)) rfl T.m_down T.F_down.kp T.b_down .nil Ap (@Aa _ _ _ _ _ (pv 7) (@Aa _ _ _ _ _ (@Ai _ _ _ _ _ _ _ _ AA (pv 6) (pv 5)) Ac (by rfl)) (by rfl)) (by decide) (by rfl) (by rfl)) Ab))))))),?_⟩
 obtain ⟨dx,la,t,k1,k2,k3⟩:=id md.is
 have st1:=md.st1
 have st9:=md.st9
 have bi:=nm.ob i
 have bj:=nm.ob j
 have vi:=nm.vb i
 have vj:=nm.vb j
 have ol:=nm.ol
 have vl:=nm.vl
 have szs:Sz 64 st:=Bp (by omega) (by omega)
 have szi:Sz 64 (out.getD i 0 - 1):=Bp (by omega) (by omega)
 have szj:Sz 64 (out.getD j 0):=Bp (by omega) (by omega)
 have szvi:Sz 64 (xs.getD i 0):=Bp (by omega) (by omega)
 have szvj:Sz 64 (xs.getD j 0):=Bp (by omega) (by omega)
 have m1:=Int.mul_nonneg (show 0<=st by omega) (show 0<=out.getD i 0 - 1 by omega)
 have m2:=Int.mul_nonneg (show 0<=st by omega) bj.1
 have n1:st*(out.getD i 0 - 1)<=9*60:=Int.mul_le_mul st9 (by omega) (by omega) (by decide)
 have n2:st*out.getD j 0<=9*60:=Int.mul_le_mul st9 (by omega) (by omega) (by decide)
 have szbi:Sz 64 (1+st*(out.getD i 0 - 1)):=Bp (by omega) (by omega)
 have szbj:Sz 64 (1+st*out.getD j 0):=Bp (by omega) (by omega)
 and_intros
 refine ⟨g,_,dm,_,_,rfl,hg,T.cl_ListsMargin,T.na_ListsMargin_way,rfl,?_⟩
 refine ⟨a,_,dx,_,_,rfl,k1,T.cl_Lists,T.na_Lists_step,rfl,?_⟩
 and_intros
 refine ⟨oo,_,_,_,rfl,rfl,SqL.of ho,atG (by omega),?_⟩
 and_intros
 refine ⟨g,_,dm,_,_,rfl,hg,T.cl_ListsMargin,T.na_ListsMargin_way,rfl,?_⟩
 refine ⟨a,_,dx,_,_,rfl,k1,T.cl_Lists,T.na_Lists_step,rfl,?_⟩
 and_intros
 refine ⟨oo,_,_,_,rfl,rfl,SqL.of ho,atG (by omega),?_⟩
 and_intros
 refine ⟨vv,_,_,_,rfl,rfl,SqL.of hv,atG (by omega),?_⟩
 and_intros
 refine ⟨vv,_,_,_,rfl,rfl,SqL.of hv,atG (by omega),?_⟩
 and_intros
 dsimp only
 have mem:∀j:Nat,j < h->(j:Int)∈ns:=fun j hj=>md.pm.mem_iff.mpr (C5.mpr ⟨by omega,by omega⟩)
 refine ⟨g,_,dm,_,_,rfl,hg,T.cl_ListsMargin,T.na_ListsMargin_way,rfl,?_⟩
 refine ⟨a,dx,_,rfl,k1,rfl,?_⟩
 and_intros
 refine ⟨a,h,s,st,u,v,ns,(j:Int),(i:Int),rfl,md.is,mem j jh,mem i ih,?_⟩
 have bp:0 < CZ out st i j:=by unfold CZ;omega
 have szB:Sz 9000 (CZ out st i j):=(show Sz 64 _ from by unfold CZ;exact Bp (by omega) (by omega)).mono (by decide)
 by_cases c:ns.idxOf (j:Int) < ns.idxOf (i:Int)
 ·rw [show D7 xs out ns st i j=-((-DW xs out st i j).fdiv (CZ out st i j)) from if_pos c] at q
  refine ⟨_,rfl,ifT (decide_eq_true c) ?_⟩
  and_intros
  exact ⟨_,_,rfl,bp,szB,q⟩
 ·rw [show D7 xs out ns st i j=(DW xs out st i j).fdiv (CZ out st i j)+1 from if_neg c] at q
  refine ⟨_,rfl,ifF (decide_eq_false c) ?_⟩
  and_intros
  refine ⟨_,_,rfl,bp,szB,?_⟩
  and_intros
  exact q
theorem Gx (T:Tx K mg ad):AO P w K mg base CX0 3 ad.f_votes_of ad.d_votes_of ["sheet","hands"] (M1 K):=by
 refine T.F_votes_of.ok CO (fun vs H Q E h=>?_) (fun cdv A outer s H vs Q E hr h=>?_)
 ·obtain ⟨l,ls,h,rfl,_⟩:=h
  rfl
 obtain ⟨l,ls,h,rfl,hl,g,h1,h12,q⟩:=h
 refine ⟨_,(@Ad _ _ _ _ _ (JN (j:=2) (fsc:=Af CB) (N:=["sheet","hands","votes","slip","number","hand","place"]) (Nc:=["sheet","hands","votes","slip","number","hand",".s6","place"]) rfl rfl ⟨rfl,by decide +kernel,by decide +kernel,rfl,by decide +kernel,rfl,by decide +kernel,rfl,by decide +kernel⟩ rfl CO.nd rfl rfl (BU rfl T.z_range (@Aa _ _ _ _ _ (@Ai _ _ _ _ _ _ _ _ AA (pv 1) Ab) Ac (by rfl))) (fun _ _ _ _=>C4) (fun _ _ _ _=>Ab) rfl) (@Ad _ _ _ _ _ (Es PassesOwn.never rfl (BD (pv 0)) (JL rfl (Dm (Ce (i:=3) CO.nd rfl (Or.inl rfl)) (Dm (Ce (i:=4) CO.nd rfl (Or.inl rfl)) GK))) (@Ad _ _ _ _ _ (@Al _ _ (5) _ _ _ _ CO.nd rfl (Or.inl rfl) (@Ak _ _ _ _ _ _ _ _ _ _ _ _ _ _ _ _ (Fj T) (hr.mono (by decide)) rfl T.m_vote_of T.F_vote_of.kp T.b_vote_of .nil Ap (@Aa _ _ _ _ _ (pv 3) Ac (by rfl)) (by decide) (by rfl) (by rfl)) (by rfl) (by first | exact .inl rfl | exact .inr rfl | assumption)) (@Ad _ _ _ _ _ (@Al _ _ (6) _ _ _ _ CO.nd rfl (Or.inl rfl) (Ec (@Aq _ _ _ _ _ _ _ _ Hq (pv 5) B8 (Ar _)) (pv 1) (pv 5)) (by rfl) (by first | exact .inl rfl | exact .inr rfl | assumption)) (@Ah _ _ _ (LD (@Ai _ _ _ _ _ _ _ _ AA (@At _ _ _ _ _ _ _ Ba (pv 2) (pv 6) (fun _ _=>rfl)) (pv 4)) (Oj (pv 2) (pv 6) KK)))))) (@Ah _ _ _ (@An _ _ _ _ (pv 2))))),?_⟩
 refine ⟨_,rfl,_,_,rfl,rfl,_,rfl,by omega,by omega,?_⟩
 have en:(h+1).toNat=h.toNat+1:=by omega
 rw [en]
 refine C6 (Bu (by omega)) (fun D i ys H'=>ys=(List.replicate i (0:Int)).map V.int/\H'=upd H D (.lst ys)) (fun D hD=>⟨rfl,rfl⟩) (fun D i ys H' ⟨f1,f2⟩=>⟨by rw [f2];exact Ae,by rw [f1,List.length_map,List.length_replicate];exact Nat.le_refl _⟩) ?_ ?_
 ·rintro D i ys H' K1 K2 hD hi ⟨f1,rfl⟩ k1 k2
  refine yes (ifT rfl ?_)
  refine k1 _ _ Ae ⟨?_,by rw [CY]⟩
  rw [f1,List.replicate_succ',List.map_append]
  rfl
 rintro D ys H1 hD ⟨rfl,rfl⟩
 have s1:=Ag hD (.lst ((List.replicate (h.toNat+1) (0:Int)).map V.int))
 have eD:(upd H D (.lst ((List.replicate (h.toNat+1) (0:Int)).map V.int))) D=some (.lst ((Au h.toNat []).map V.int)):=Ae
 generalize upd H D (.lst ((List.replicate (h.toNat+1) (0:Int)).map V.int))=H1 at s1 eD ⊢
 refine ⟨_,rfl,l,rfl,⟨_,SqL.of (s1 _ _ hl)⟩,Ft (xs:=vls ls) (fun i σ' H'=>∃v3 v4 v5 v6,σ'=[some (.ref l),some (.int h),some (.ref D),v3,v4,v5,v6]/\A0 H H'/\H' D=some (.lst ((Au h.toNat (ls.take i)).map V.int))) ⟨none,none,none,none,rfl,s1,eD⟩ (fun i σ' H' _ ⟨_,_,_,_,_,e,_⟩=>SqL.of (e _ _ hl)) ?_ ?_⟩
 ·rintro i x σ' H' hx ⟨v3,v4,v5,v6,rfl,s2,e2⟩
  obtain ⟨f,hf,rfl,fm,et⟩:=JW hx
  obtain ⟨g1,g2,g3⟩:=g f fm
  refine ⟨f.1,_,rfl,SqT.of (s2 _ _ g1),rfl,_,_,rfl,_,_,rfl,rfl,?_⟩
  have tl:=EM h.toNat (ls.take i)
  have ple:=Op h.toNat f.2.2.1
  have fin:∀(H3:Hp) (v5:Option V),A0 H' H3->∃w3 w4 w5 w6,[some (V.ref l),some (.int h),some (.ref D),some (.ref f.2.1),some (.int f.2.2.2),v5,some (.int (pl h.toNat f.2.2.1:Nat))]=[some (V.ref l),some (.int h),some (.ref D),w3,w4,w5,w6]/\A0 H (upd H3 D (.lst ((Au h.toNat (ls.take (i+1))).map V.int)))/\(upd H3 D (.lst ((Au h.toNat (ls.take (i+1))).map V.int))) D=some (.lst ((Au h.toNat (ls.take (i+1))).map V.int)):=fun H3 v5 s3 =>
   ⟨_,_,_,_,rfl,AB (s2.trans s3) hD,Ae⟩
  have gv:(Au h.toNat (ls.take i))[pl h.toNat f.2.2.1]?=some ((Au h.toNat (ls.take i)).getD (pl h.toNat f.2.2.1) 0):=by
   rw [List.getD_eq_getElem?_getD,List.getElem?_eq_getElem (by omega)]
   rfl
  have es:((Au h.toNat (ls.take i)).map V.int).set (pl h.toNat f.2.2.1) (V.int ((Au h.toNat (ls.take i)).getD (pl h.toNat f.2.2.1) 0+f.2.2.2))=(Au h.toNat (ls.take (i+1))).map V.int:=by
   rw [et,LL]
   unfold Fq
   rw [List.map_set]
  refine ⟨_,rfl,f.2.1,f.2.2.1,h.toNat,rfl,s2 _ _ g2,g3,by omega,fun ep H3 s3=>?_,fun lp H3 s3=>?_⟩
  ·and_intros
   have eh:h=((pl h.toNat f.2.2.1:Nat):Int):=by omega
   have a0:=atN gv
   have i0:=J0 (n:=((Au h.toNat (ls.take i)).map V.int).length) (i:=pl h.toNat f.2.2.1) (by rw [List.length_map];omega)
   rw [<- eh] at a0 i0
   refine ⟨D,_,_,_,rfl,rfl,SqL.of (s3 _ _ e2),a0,_,rfl,_,_,rfl,rfl,_,rfl,_,rfl,D,_,_,_,rfl,rfl,s3 _ _ e2,i0,?_⟩
   dsimp only
   rw [es]
   exact ⟨_,_,_,_,rfl,AB (s2.trans s3) hD,Ae⟩
  ·and_intros
   have eh:((pl h.toNat f.2.2.1:Nat):Int)=((pl h.toNat f.2.2.1:Nat):Int):=by rfl
   have a0:=atN gv
   have i0:=J0 (n:=((Au h.toNat (ls.take i)).map V.int).length) (i:=pl h.toNat f.2.2.1) (by rw [List.length_map];omega)
   refine ⟨D,_,_,_,rfl,rfl,SqL.of (s3 _ _ e2),a0,_,rfl,_,_,rfl,rfl,_,rfl,_,rfl,D,_,_,_,rfl,rfl,s3 _ _ e2,i0,?_⟩
   dsimp only
   rw [es]
   exact ⟨_,_,_,_,rfl,AB (s2.trans s3) hD,Ae⟩
 ·rintro σ' H' ⟨v3,v4,v5,v6,rfl,s2,e2⟩
  rw [DN,List.take_of_length_le (Nat.le_refl _)] at e2
  exact ⟨_,rfl,q D H' hD s2 e2⟩
theorem JF (T:Tx K mg ad):AO P w K mg base CX0 3 ad.f_law_sheet ad.d_law_sheet ["_law_script","_law_at","_law_hands"] (La K):=by
 refine T.F_law_sheet.ok BQ (fun vs H Q E h=>?_) (fun cdv A outer s H vs Q E hr h=>?_)
 ·obtain ⟨p,ns,k,h,rfl,_⟩:=h
  rfl
 obtain ⟨p,ns,k,h,rfl,hS,h63,rfl,h1,h12,q⟩:=h
 refine ⟨_,(@Ad _ _ _ _ _ (@Al _ _ (3) _ _ _ _ BQ.nd rfl (Or.inl rfl) (@Ak _ _ _ _ _ _ _ _ _ _ _ _ _ _ _ _ (Bq T) (hr.mono (by decide)) rfl T.m_law_mixed T.F_law_mixed.kp T.b_law_mixed .nil Ap (@Aa _ _ _ _ _ (@Ak _ _ _ _ _ _ _ _ _ _ _ _ _ _ _ _ (BK T) (hr.mono (by decide)) rfl T.m_law_cell T.F_law_cell.kp T.b_law_cell .nil Ap (@Aa _ _ _ _ _ (pv 0) (@Aa _ _ _ _ _ Ab Ac (by rfl)) (by rfl)) (by decide) (by rfl) (by rfl)) (@Aa _ _ _ _ _ Ab Ac (by rfl)) (by rfl)) (by decide) (by rfl) (by rfl)) (by rfl) (by first | exact .inl rfl | exact .inr rfl | assumption)) (@Ad _ _ _ _ _ (@Al _ _ (4) _ _ _ _ BQ.nd rfl (Or.inl rfl) (@Ai _ _ _ _ _ _ _ _ A7 (pv 3) Ab) (by rfl) (by first | exact .inl rfl | exact .inr rfl | assumption)) (@Ad _ _ _ _ _ (@AW _ _ _ _ _ _ _ _ (@Aq _ _ _ _ _ _ _ _ CF (@Ai _ _ _ _ _ _ _ _ A7 (@Ai _ _ _ _ _ _ _ _ AY (pv 3) Ab) Ab) Ab (Ar _)) (@Ah _ _ _ (@An _ _ _ _ (@CT _ _ _ _ Ac))) Az) (@Ad _ _ _ _ _ (@Al _ _ (5) _ _ _ _ BQ.nd rfl (Or.inr rfl) Oh (by rfl) (by first | exact .inl rfl | exact .inr rfl | assumption)) (@Ad _ _ _ _ _ (Es PassesOwn.never rfl (Na rfl T.z_range (@Aa _ _ _ _ _ (pv 1) (@Aa _ _ _ _ _ (@Ax _ _ _ _ _ _ _ _ _ (FR rfl) (by rfl) T.z_max PyProof.Rows.boot_max (@Aa _ _ _ _ _ (@Ai _ _ _ _ _ _ _ _ AA (pv 1) Ab) (@Aa _ _ _ _ _ (@Ax _ _ _ _ _ _ _ _ _ (FS rfl) (by rfl) T.z_min PyProof.Rows.boot_min (@Aa _ _ _ _ _ (@Ax _ _ _ _ _ _ _ _ _ Bl (by rfl) T.z_len PySem.boot_len (@Aa _ _ _ _ _ (pv 0) Ac (by rfl)) (by decide) (by decide) (by rfl) (by rfl)) (@Aa _ _ _ _ _ Ab Ac (by rfl)) (by rfl)) (by decide) (by decide) (by rfl) (by rfl)) Ac (by rfl)) (by rfl)) (by decide) (by decide) (by rfl) (by rfl)) Ac (by rfl)) (by rfl))) (Ce (i:=6) BQ.nd rfl (Or.inl rfl)) (@Ad _ _ _ _ _ (@Al _ _ (7) _ _ _ _ BQ.nd rfl (Or.inl rfl) (@Ak _ _ _ _ _ _ _ _ _ _ _ _ _ _ _ _ (BK T) (hr.mono (by decide)) rfl T.m_law_cell T.F_law_cell.kp T.b_law_cell .nil Ap (@Aa _ _ _ _ _ (pv 0) (@Aa _ _ _ _ _ (pv 6) Ac (by rfl)) (by rfl)) (by decide) (by rfl) (by rfl)) (by rfl) (by first | exact .inl rfl | exact .inr rfl | assumption)) (@Ad _ _ _ _ _ (@Al _ _ (8) _ _ _ _ BQ.nd rfl (Or.inl rfl) (@Ak _ _ _ _ _ _ _ _ _ _ _ _ _ _ _ _ (Gw T) (hr.mono (by decide)) rfl T.m_law_slip T.F_law_slip.kp T.b_law_slip .nil Ap (@Aa _ _ _ _ _ (pv 7) (@Aa _ _ _ _ _ (pv 2) Ac (by rfl)) (by rfl)) (by decide) (by rfl) (by rfl)) (by rfl) (by first | exact .inl rfl | exact .inr rfl | assumption)) (@Ah _ _ _ (EJ (u1 hr.units) (pv 5) (pv 8) (@Ai _ _ _ _ _ _ _ _ AA (FD (u1 hr.units) (pv 5) (pv 8) Ab ⟨rfl,rfl,rfl,rfl⟩) (@Ak _ _ _ _ _ _ _ _ _ _ _ _ _ _ _ _ (IE T) (hr.mono (by decide)) rfl T.m_law_number T.F_law_number.kp T.b_law_number .nil Ap (@Aa _ _ _ _ _ (pv 7) (@Aa _ _ _ _ _ (pv 6) (@Aa _ _ _ _ _ (pv 4) Ac (by rfl)) (by rfl)) (by rfl)) (by decide) (by rfl) (by rfl))) rfl))))) (@Ah _ _ _ (@An _ _ _ _ (Cd (fsc:=Af Cj) (N:=["_law_script","_law_at","_law_hands","_law_drawn","_law_mode","_law_many","_law_k","_law_cell_here","_law_slip_here"]) (Nc:=["_law_script","_law_at","_law_hands","_law_drawn","_law_mode","_law_many","_law_k","_law_cell_here",".s8","_law_slip_here"]) rfl rfl ⟨rfl,by decide +kernel,by decide +kernel,rfl,by decide +kernel,rfl,by decide +kernel,rfl,by decide +kernel⟩ rfl (BD (@Ax _ _ _ _ _ _ _ _ _ (Iy rfl hr.units) (by rfl) T.z_sorted PyProof.Rows.boot_sorted (@Aa _ _ _ _ _ (pv 5) Ac (by rfl)) (by decide) (by decide) (by rfl) (by rfl))) (fun _ _ _ _=>C4) (fun _ _ _ _=>(@AL _ _ _ _ _ (@Aa _ _ _ _ _ (pv 9) (@Aa _ _ _ _ _ (Dx (u1 hr.units) (pv 5) (pv 9) (fun _ _=>rfl)) Ac (by rfl)) (by rfl)))))))))))),?_⟩
 refine ⟨_,rfl,p,ns,0,rfl,hS,h63,by decide,by decide,fun c c0 c1=>?_⟩
 refine ⟨c,77,rfl,OC c0 c1,szd 64,fun z z0 z1=>?_⟩
 and_intros
 refine Fe (fun _=>?_) (fun _=>?_)
 ·exact ⟨(by show 0<=sizeLine;decide),fun l hl=>q l [] _ (Ag hl _) Ae (fun _ m=>nomatch m) (by decide) (fun _ m=>nomatch m) List.nodup_nil⟩
 intro d hd
 have s0:=Ag hd (.dT [])
 have e0:(upd H d (.dT [])) d=some (.dT []):=Ae
 generalize upd H d (.dT [])=H0 at s0 e0 ⊢
 have mm:=AR z (show (0:Int) < 4 by decide)
 refine ⟨_,rfl,_,rfl,_,_,rfl,rfl,_,rfl,p,_,rfl,.inl (s0.seq hS),_,_,rfl,_,_,rfl,?_⟩
 have hl':(ns.map V.int).length=ns.length:=List.length_map _
 have hM:6<=(if (if 63 < ((ns.map V.int).length:Int) then 63 else ((ns.map V.int).length:Int)) > 3+3 then (if 63 < ((ns.map V.int).length:Int) then 63 else ((ns.map V.int).length:Int)) else 3+3)/\(if (if 63 < ((ns.map V.int).length:Int) then 63 else ((ns.map V.int).length:Int)) > 3+3 then (if 63 < ((ns.map V.int).length:Int) then 63 else ((ns.map V.int).length:Int)) else 3+3)<=63:=by
  split <;> split at*<;> omega
 refine ⟨3,_,rfl,⟨by decide,by decide,by omega,by omega⟩,ED (fun i σ' H'=>∃(v6 v7 v8:Option V) (kvs:List (List Key × V)),σ'=[some (.ref p),some (.int 3),some (.int h),some (.int z),some (.int (z.fmod 4)),some (.ref d),v6,v7,v8]/\A0 H H'/\H' d=some (.dT kvs)/\Gn h.toNat kvs/\kvs.length<=i/\Ll (1000000000*(i:Int)) kvs/\(kvs.map (·.1)).Nodup) ⟨none,none,none,[],rfl,s0,e0,(fun _ m=>nomatch m),Nat.le_refl _,(fun _ m=>nomatch m),List.nodup_nil⟩ ?_ ?_⟩
 ·rintro i σ' H' hi ⟨v6,v7,v8,kvs,rfl,s1,e1,g,hk,lw,nd⟩
  refine ⟨_,rfl,_,rfl,p,ns,3+(i:Int),rfl,s1.seq hS,h63,by omega,by omega,fun c c0 c1=>?_⟩
  have szc:=OC c0 c1
  refine ⟨_,rfl,_,rfl,c,h,rfl,szc,h1,h12,fun t ts H2 s2 e2 f2=>?_⟩
  have d2:=s2 _ _ e1
  have kt:H2 t=some (.tup ((ts.map Sum.inl:List Key).map kV)):=by rw [C7];exact e2
  have put:∀(n:Int) (H3:Hp),1<=n->n<=1000000000*((i:Int)+1)->A0 H2 H3->H3 d=some (.dT kvs)->H3 t=some (.tup ((ts.map Sum.inl:List Key).map kV))->∃a H4,V.ref d=V.ref a/\FO H3 a (.ref t) (.int n) H4/\∃(w6 w7 w8:Option V) (qs:List (List Key × V)),[some (V.ref p),some (.int 3),some (.int h),some (.int z),some (.int (z.fmod 4)),some (.ref d),some (.int (3+(i:Int))),some (.int c),some (.ref t)]=[some (V.ref p),some (.int 3),some (.int h),some (.int z),some (.int (z.fmod 4)),some (.ref d),w6,w7,w8]/\A0 H H4/\H4 d=some (.dT qs)/\Gn h.toNat qs/\qs.length<=i+1/\Ll (1000000000*((i+1:Nat):Int)) qs/\(qs.map (·.1)).Nodup:=fun n H3 n0 n1 s3 d3 t3 =>
   ⟨d,_,rfl,FO.t d3 t3 (Be (by omega)),_,_,_,_,rfl,AB ((s1.trans s2).trans s3) hd,Ae,IS g f2,Nat.le_trans (HQ ..) (by omega),lw.put (by omega) n0 (by omega),NY nd⟩
  refine ⟨_,rfl,d,rfl,.inr ⟨_,.inl d2⟩,_,rfl,_,Ev.t d2 kt,?_⟩
  cases ev:Bn kvs (ts.map Sum.inl:List Key) with
  | none =>
    refine ⟨_,rfl,_,rfl,_,rfl,c,3+(i:Int),z.fmod 4,rfl,szc,by omega,by omega,mm.1,mm.2,fun n H3 s3 n0 n1=>?_⟩
    refine ⟨_,_,rfl,rfl,_,rfl,_,rfl,?_⟩
    exact put _ H3 (by omega) (by omega) s3 (s3 _ _ d2) (s3 _ _ kt)
  | some v =>
    obtain ⟨m,rfl⟩:=Dy g ev
    have lv:=lw.val ev
    refine ⟨_,rfl,_,rfl,_,rfl,c,3+(i:Int),z.fmod 4,rfl,szc,by omega,by omega,mm.1,mm.2,fun n H3 s3 n0 n1=>?_⟩
    refine ⟨_,_,rfl,rfl,_,rfl,_,rfl,?_⟩
    exact put _ H3 (by omega) (by omega) s3 (s3 _ _ d2) (s3 _ _ kt)
 ·rintro σ' H' ⟨v6,v7,v8,kvs,rfl,s1,e1,g,hk,lw,nd⟩
  obtain ⟨ks,k1,k2,k3⟩:=Fc g
  refine ⟨_,rfl,d,kvs,ks,rfl,.inl e1,k1,by omega,fun l rs r1 r2 r3 hl=>?_⟩
  have sl:=Ag hl (.lst (rs.map fun q=>V.ref q.1))
  have el:(upd H' l (.lst (rs.map fun q=>V.ref q.1))) l=some (.lst (rs.map fun q=>V.ref q.1)):=Ae
  generalize upd H' l (.lst (rs.map fun q=>V.ref q.1))=H1 at sl el ⊢
  have rl:rs.length<=60:=by
   have:=r2.length_eq
   rw [List.length_map] at this
   omega
  refine ⟨l,rfl,⟨_,SqL.of el⟩,?_⟩
  refine BF (xs:=rs.map fun q=>V.ref q.1) (by rw [List.length_map];exact Bu (by omega)) (fun D i ys H2=>∃ls:Ls,ys=vls ls/\ls.length=i/\H2 D=some (.lst ys)/\A0 H1 H2/\BA h.toNat H2 ls/\JZ ls/\(ls.map fun q=>q.2.2.1)=(rs.take i).map (·.2)) (fun D hD=>⟨[],rfl,rfl,Ae,Ag hD _,(fun _ m=>nomatch m),(fun _ m=>nomatch m),rfl⟩) (fun D i ys H2 ⟨ls,f1,f2,f3,_⟩=>⟨f3,by rw [f1,DN];omega⟩) (fun D i ys H2 hD ⟨ls,_,_,_,f4,_⟩=>SqL.of (f4 _ _ el)) ?_ ?_
  ·rintro D i x ys H2 K1 K2 hD hx ⟨ls,rfl,f2,f3,f4,f5,f6,f7⟩ kk1 kk2
   rw [List.getElem?_map] at hx
   cases er:rs[i]? with
   | none=>rw [er] at hx;cases hx
   | some r =>
     rw [er] at hx
     cases Option.some.inj hx
     have rm:=List.mem_of_getElem? er
     have sH:=sl.trans f4
     have ek:=sH _ _ (r1 r rm)
     obtain ⟨fr,n,ev⟩:=k3 r.2 (r2.mem_iff.mp (List.mem_map.mpr ⟨r,rm,rfl⟩))
     refine yes (ifT rfl ?_)
     have dg:=Ev.t (k:=(r.2.map Sum.inl:List Key)) (sH _ _ e1) (by rw [C7];exact ek)
     rw [ev] at dg
     refine ⟨_,rfl,_,rfl,_,rfl,d,.int n,rfl,dg,(by show 2<=sizeLine;decide),fun t ht=>?_⟩
     have s6:=Ag ht (.tup [V.ref r.1,V.int n])
     refine kk1 _ _ (s6 _ _ f3) ⟨ls++[(t,r.1,r.2,n)],by unfold vls;rw [List.map_append];rfl,by rw [List.length_append,f2];rfl,Ae,AB (f4.trans s6) hD,fun q m=>?_,fun q m=>by
      rcases List.mem_append.mp m with m | m
      ·exact f6 q m
      ·rw [List.mem_singleton.mp m]
       have:=lw.val ev
       exact ⟨this.1,by show n<=_;omega⟩,by rw [List.map_append,f7,List.take_succ,er,List.map_append];rfl⟩
     have keep:∀b u,(upd H2 t (.tup [V.ref r.1,V.int n])) b=some (.tup u)->(upd (upd H2 t (.tup [V.ref r.1,V.int n])) D (.lst (vls ls++[V.ref t]))) b=some (.tup u):=fun b u e=>by
      rw [Ay (Ds e (s6 _ _ f3) (fun z=>nomatch z))]
      exact e
     rcases List.mem_append.mp m with m | m
     ·obtain ⟨a1,a2,a3⟩:=f5 q m
      exact ⟨keep _ _ (s6 _ _ a1),keep _ _ (s6 _ _ a2),a3⟩
     ·rw [List.mem_singleton.mp m]
      exact ⟨keep _ _ Ae,keep _ _ (s6 _ _ ek),fr⟩
  ·rintro D ys H2 hD ⟨ls,rfl,f2,f3,f4,f5,f6,f7⟩
   rw [List.length_map] at f2
   rw [List.length_map,List.take_length] at f7
   have ndk:ks.Nodup:=by rw [k1] at nd;exact IX nd
   exact q D ls H2 ((s1.trans sl).trans f4) f3 f5 (by omega) f6 (by rw [f7];exact r2.nodup_iff.mpr ndk)
theorem IC (T:Tx K mg ad):AO P w K mg base CX0 3 ad.f_law_hurdle ad.d_law_hurdle ["_law_cell_here"] Ii:=by
 refine T.F_law_hurdle.ok DQ (fun vs H Q E h=>?_) (fun cdv A outer s H vs Q E hr h=>?_)
 ·obtain ⟨c,rfl,_⟩:=h
  rfl
 obtain ⟨c,rfl,szc,q⟩:=h
 refine ⟨_,(@Ad _ _ _ _ _ (@Al _ _ (1) _ _ _ _ DQ.nd rfl (Or.inl rfl) (@Ak _ _ _ _ _ _ _ _ _ _ _ _ _ _ _ _ (Bq T) (hr.mono (by decide)) rfl T.m_law_mixed T.F_law_mixed.kp T.b_law_mixed .nil Ap (@Aa _ _ _ _ _ (pv 0) (@Aa _ _ _ _ _ Ab Ac (by rfl)) (by rfl)) (by decide) (by rfl) (by rfl)) (by rfl) (by first | exact .inl rfl | exact .inr rfl | assumption)) (@Ad _ _ _ _ _ (@AW _ _ _ _ _ _ _ _ (@Aq _ _ _ _ _ _ _ _ CF (@Ai _ _ _ _ _ _ _ _ A7 (pv 1) Ab) Ab (Ar _)) (@Ah _ _ _ (@An _ _ _ _ (@AL _ _ _ _ _ (@Aa _ _ _ _ _ Ab (@Aa _ _ _ _ _ Ab Ac (by rfl)) (by rfl))))) Az) (@Ad _ _ _ _ _ (@Al _ _ (2) _ _ _ _ DQ.nd rfl (Or.inl rfl) (@At _ _ _ _ _ _ _ Ba (@CT _ _ _ _ (@Aa _ _ _ _ _ (@Ai _ _ _ _ _ _ _ _ AA Ab (@Ai _ _ _ _ _ _ _ _ A7 (@Ai _ _ _ _ _ _ _ _ AY (pv 1) Ab) Ab)) (@Aa _ _ _ _ _ (@Ai _ _ _ _ _ _ _ _ Gd Ab Ab) (@Aa _ _ _ _ _ (@Ai _ _ _ _ _ _ _ _ AA Ab (@Ai _ _ _ _ _ _ _ _ A7 (@Ai _ _ _ _ _ _ _ _ AY (pv 1) Ab) Ab)) (@Aa _ _ _ _ _ Ab Ac (by rfl)) (by rfl)) (by rfl)) (by rfl))) (@Ai _ _ _ _ _ _ _ _ A7 (@Ai _ _ _ _ _ _ _ _ AY (pv 1) Ab) Ab) (fun _ _=>rfl)) (by rfl) (by first | exact .inl rfl | exact .inr rfl | assumption)) (@Ah _ _ _ (@An _ _ _ _ (@Ak _ _ _ _ _ _ _ _ _ _ _ _ _ _ _ _ (ID T) (hr.mono (by decide)) rfl T.m_law_lowest T.F_law_lowest.kp T.b_law_lowest .nil Ap (@Aa _ _ _ _ _ (@Ai _ _ _ _ _ _ _ _ A7 (@Ak _ _ _ _ _ _ _ _ _ _ _ _ _ _ _ _ (Bq T) (hr.mono (by decide)) rfl T.m_law_mixed T.F_law_mixed.kp T.b_law_mixed .nil Ap (@Aa _ _ _ _ _ (pv 0) (@Aa _ _ _ _ _ Ab Ac (by rfl)) (by rfl)) (by decide) (by rfl) (by rfl)) (@Ai _ _ _ _ _ _ _ _ AA (pv 2) Ab)) (@Aa _ _ _ _ _ (pv 2) Ac (by rfl)) (by rfl)) (by decide) (by rfl) (by rfl))))))),?_⟩
 and_intros
 refine ⟨c,8,rfl,szc,szd 64,fun z z0 z1=>?_⟩
 have szz:=QB z0 z1
 and_intros
 refine Fe (fun _=>?_) (fun _=>?_)
 ·and_intros
  refine ⟨(by show 2<=sizeLine;decide),fun t ht=>?_⟩
  exact q t 0 1 _ (Ag ht _) Ae (by decide) (by decide) (by decide) (by decide)
 and_intros
 refine ⟨(by show 4<=sizeLine;decide),fun b hb=>?_⟩
 have m4:=AR (z.fdiv 2) (show (0:Int) < 4 by decide)
 have m30:=AR (z.fdiv 8) (show (0:Int) < 30 by decide)
 have m5:=AR (z.fdiv 8) (show (0:Int) < 5 by decide)
 have e9:(10:Int) ^ (9:Int).toNat=1000000000:=by decide
 obtain ⟨v,hv,v1,v9⟩:=PK (x0:=1+(z.fdiv 8).fmod 30) (x1:=10 ^ (9:Int).toNat) (x2:=1+(z.fdiv 8).fmod 5) (x3:=100) (fun v=>1<=v/\v<=1000000000) ((z.fdiv 2).fmod 4) m4.1 m4.2 ⟨by omega,by omega⟩ ⟨by omega,by omega⟩ ⟨by omega,by omega⟩ ⟨by omega,by omega⟩
 and_intros
 refine ⟨b,_,_,_,rfl,rfl,SqL.of Ae,hv,?_⟩
 have s1:=Ag hb (.lst [V.int (1+(z.fdiv 8).fmod 30),V.int (10 ^ (9:Int).toNat),V.int (1+(z.fdiv 8).fmod 5),V.int 100])
 generalize upd H b (.lst [V.int (1+(z.fdiv 8).fmod 30),V.int (10 ^ (9:Int).toNat),V.int (1+(z.fdiv 8).fmod 5),V.int 100])=H1 at s1 ⊢
 and_intros
 refine ⟨c,9,rfl,szc,szd 64,fun y y0 y1=>?_⟩
 and_intros
 refine ⟨(by show (_:Int)≠0;omega),?_⟩
 have my:=AR y (show (0:Int) < v+1 by omega)
 and_intros
 have li:=Qs my.1 (show y.fmod (v+1)<=v by omega) (by omega)
 refine ⟨_,_,rfl,(by omega),(Bp (n:=64) (by omega) (by omega)).mono (by decide),(Bp (n:=64) (by omega) (by omega)).mono (by decide),fun p H2 s2 e2=>?_⟩
 exact q p _ _ H2 (s1.trans s2) e2 li.1 li.2.1 (OT (by omega)) (by omega)
theorem F0 (T:Tx K mg ad):AO P w K mg base CX0 3 ad.f_law_fewer ad.d_law_fewer ["_law_script","_law_sheet_here","_law_hands","_law_most"] (Je K):=by
 refine T.F_law_fewer.ok AN (fun vs H Q E h=>?_) (fun cdv A outer s H vs Q E hr h=>?_)
 ·obtain ⟨p,l,ns,h,ls,m,rfl,_⟩:=h
  rfl
 obtain ⟨p,l,ns,h,ls,m,rfl,hp,n63,hl,gl,l60,num,nds,h1,h12,m0,m9,q⟩:=h
 refine ⟨_,(@Ad _ _ _ _ _ (@Al _ _ (4) _ _ _ _ AN.nd rfl (Or.inr rfl) (@AK _ _ _ _ _ _ _ _ _ (El rfl hr.units) (by rfl) T.z_dict PyProof.Rows.boot_dict (@Aa _ _ _ _ _ (pv 1) Ac (by rfl)) (by decide) (by decide) (by rfl) (by rfl)) (by rfl) (by first | exact .inl rfl | exact .inr rfl | assumption)) (@Ad _ _ _ _ _ (@Al _ _ (5) _ _ _ _ AN.nd rfl (Or.inl rfl) (@AK _ _ _ _ _ _ _ _ _ (El rfl hr.units) (by rfl) T.z_dict PyProof.Rows.boot_dict (@Aa _ _ _ _ _ (pv 1) Ac (by rfl)) (by decide) (by decide) (by rfl) (by rfl)) (by rfl) (by first | exact .inl rfl | exact .inr rfl | assumption)) (@Ad _ _ _ _ _ (@Al _ _ (6) _ _ _ _ AN.nd rfl (Or.inl rfl) (@Ak _ _ _ _ _ _ _ _ _ _ _ _ _ _ _ _ (Bq T) (hr.mono (by decide)) rfl T.m_law_mixed T.F_law_mixed.kp T.b_law_mixed .nil Ap (@Aa _ _ _ _ _ (@Ak _ _ _ _ _ _ _ _ _ _ _ _ _ _ _ _ (BK T) (hr.mono (by decide)) rfl T.m_law_cell T.F_law_cell.kp T.b_law_cell .nil Ap (@Aa _ _ _ _ _ (pv 0) (@Aa _ _ _ _ _ Ab Ac (by rfl)) (by rfl)) (by decide) (by rfl) (by rfl)) (@Aa _ _ _ _ _ Ab Ac (by rfl)) (by rfl)) (by decide) (by rfl) (by rfl)) (by rfl) (by first | exact .inl rfl | exact .inr rfl | assumption)) (@Ad _ _ _ _ _ (@Al _ _ (7) _ _ _ _ AN.nd rfl (Or.inl rfl) (@At _ _ _ _ _ _ _ Ba (@CT _ _ _ _ (@Aa _ _ _ _ _ (@AL _ _ _ _ _ Ac) (@Aa _ _ _ _ _ (@AL _ _ _ _ _ (@Aa _ _ _ _ _ (@Ai _ _ _ _ _ _ _ _ C8 Ab (@Ai _ _ _ _ _ _ _ _ A7 (@Ai _ _ _ _ _ _ _ _ AY (pv 6) Ab) (pv 2))) Ac (by rfl))) Ac (by rfl)) (by rfl))) (@Ai _ _ _ _ _ _ _ _ A7 (@Ai _ _ _ _ _ _ _ _ AY (pv 6) Ab) Ab) (fun _ _=>rfl)) (by rfl) (by first | exact .inl rfl | exact .inr rfl | assumption)) (@Ad _ _ _ _ _ (@Al _ _ (8) _ _ _ _ AN.nd rfl (Or.inl rfl) (pv 3) (by rfl) (by first | exact .inl rfl | exact .inr rfl | assumption)) (@Ad _ _ _ _ _ (Es PassesOwn.never rfl (BU rfl T.z_range (@Aa _ _ _ _ _ (@Ax _ _ _ _ _ _ _ _ _ Bl (by rfl) T.z_len PySem.boot_len (@Aa _ _ _ _ _ (pv 1) Ac (by rfl)) (by decide) (by decide) (by rfl) (by rfl)) Ac (by rfl))) (Ce (i:=9) AN.nd rfl (Or.inl rfl)) (@Ad _ _ _ _ _ (@Al _ _ (10) _ _ _ _ AN.nd rfl (Or.inl rfl) (@Ak _ _ _ _ _ _ _ _ _ _ _ _ _ _ _ _ (Bq T) (hr.mono (by decide)) rfl T.m_law_mixed T.F_law_mixed.kp T.b_law_mixed .nil Ap (@Aa _ _ _ _ _ (@Ak _ _ _ _ _ _ _ _ _ _ _ _ _ _ _ _ (BK T) (hr.mono (by decide)) rfl T.m_law_cell T.F_law_cell.kp T.b_law_cell .nil Ap (@Aa _ _ _ _ _ (pv 0) (@Aa _ _ _ _ _ (@Ai _ _ _ _ _ _ _ _ AA Ab (pv 9)) Ac (by rfl)) (by rfl)) (by decide) (by rfl) (by rfl)) (@Aa _ _ _ _ _ (@Ai _ _ _ _ _ _ _ _ AA (pv 9) Ab) Ac (by rfl)) (by rfl)) (by decide) (by rfl) (by rfl)) (by rfl) (by first | exact .inl rfl | exact .inr rfl | assumption)) (@Ad _ _ _ _ _ (@Al _ _ (11) _ _ _ _ AN.nd rfl (Or.inl rfl) (@At _ _ _ _ _ _ _ Aw (@At _ _ _ _ _ _ _ Ba (pv 1) (@Ai _ _ _ _ _ _ _ _ A7 (@Ai _ _ _ _ _ _ _ _ AA (pv 9) (@Ai _ _ _ _ _ _ _ _ AY (pv 6) Ab)) (@Ax _ _ _ _ _ _ _ _ _ Bl (by rfl) T.z_len PySem.boot_len (@Aa _ _ _ _ _ (pv 1) Ac (by rfl)) (by decide) (by decide) (by rfl) (by rfl))) (fun _ _=>rfl)) Ab (fun _ _=>rfl)) (by rfl) (by first | exact .inl rfl | exact .inr rfl | assumption)) (@Ad _ _ _ _ _ (@Al _ _ (12) _ _ _ _ AN.nd rfl (Or.inl rfl) (@Ax _ _ _ _ _ _ _ _ _ (MD rfl) (by rfl) T.z_min PyProof.Rows.boot_min (@Aa _ _ _ _ _ (Dx (u1 hr.units) (pv 5) (pv 11) (fun _ _=>rfl)) (@Aa _ _ _ _ _ (pv 8) (@Aa _ _ _ _ _ (@At _ _ _ _ _ _ _ Ba (@CT _ _ _ _ (@Aa _ _ _ _ _ (pv 8) (@Aa _ _ _ _ _ (@Ai _ _ _ _ _ _ _ _ A7 (@Ai _ _ _ _ _ _ _ _ AY (pv 10) Ab) (@Ai _ _ _ _ _ _ _ _ AA (pv 8) Ab)) Ac (by rfl)) (by rfl))) (@AK _ _ _ _ _ _ _ _ _ FQ (by rfl) T.z_int PyProof.Rows.boot_int (@Aa _ _ _ _ _ (@C3 _ _ _ _ _ _ _ _ CF (@Ai _ _ _ _ _ _ _ _ A7 (pv 6) Ab) Ab (Ar _)) Ac (by rfl)) (by decide) (by decide) (by rfl) (by rfl)) (fun _ _=>rfl)) Ac (by rfl)) (by rfl)) (by rfl)) (by decide) (by decide) (by rfl) (by rfl)) (by rfl) (by first | exact .inl rfl | exact .inr rfl | assumption)) (@Ad _ _ _ _ _ (@Hy _ _ _ _ _ _ _ _ (@Aq _ _ _ _ _ _ _ _ CF (@Ai _ _ _ _ _ _ _ _ A7 (pv 6) Ab) Ab (Ar _)) (@Ah _ _ _ (@Al _ _ (7) _ _ _ _ AN.nd rfl (Or.inl rfl) (@Ak _ _ _ _ _ _ _ _ _ _ _ _ _ _ _ _ (Gw T) (hr.mono (by decide)) rfl T.m_law_slip T.F_law_slip.kp T.b_law_slip .nil Ap (@Aa _ _ _ _ _ (@Ai _ _ _ _ _ _ _ _ AY (pv 10) Ab) (@Aa _ _ _ _ _ (pv 2) Ac (by rfl)) (by rfl)) (by decide) (by rfl) (by rfl)) (by rfl) (by first | exact .inl rfl | exact .inr rfl | assumption))) Az) (@Ad _ _ _ _ _ (@Hy _ _ _ _ _ _ _ _ (PW.pt (@LE _ _ _ _ _ _ _ (@Aq _ _ _ _ _ _ _ _ CF (@Ai _ _ _ _ _ _ _ _ A7 (pv 6) Ab) Ab (Ar _)) (@JO _ _ _ _ (@Aq _ _ _ _ _ _ _ _ (Fk (K:=K) hr.units) (E7 GN (pv 11) FG (FH Ab)) (@AL _ _ _ _ _ (@Aa _ _ _ _ _ (@Ai _ _ _ _ _ _ _ _ C8 Ab (@Ai _ _ _ _ _ _ _ _ A7 (@Ai _ _ _ _ _ _ _ _ AY (pv 6) Ab) (pv 2))) Ac (by rfl))) (Ar _))))) (@Ah _ _ _ (@Al _ _ (12) _ _ _ _ AN.nd rfl (Or.inl rfl) Ab (by rfl) (by first | exact .inl rfl | exact .inr rfl | assumption))) Az) (@Ah _ _ _ (@AW _ _ _ _ _ _ _ _ (@Aq _ _ _ _ _ _ _ _ (Fk (K:=K) hr.units) (pv 7) (pv 11) (Ar _)) (@Ad _ _ _ _ _ (EJ (u1 hr.units) (pv 4) (pv 11) (@Ai _ _ _ _ _ _ _ _ Cb (Dx (u1 hr.units) (pv 4) (pv 11) (fun _ _=>rfl)) (pv 12)) rfl) (@Ad _ _ _ _ _ (EJ (u1 hr.units) (pv 4) (pv 7) (@Ai _ _ _ _ _ _ _ _ AA (FD (u1 hr.units) (pv 4) (pv 7) Ab ⟨rfl,rfl,rfl,rfl⟩) (pv 12)) rfl) (@Ah _ _ _ (@Al _ _ (8) _ _ _ _ AN.nd rfl (Or.inl rfl) (@Ai _ _ _ _ _ _ _ _ Cb (pv 8) (pv 12)) (by rfl) (by first | exact .inl rfl | exact .inr rfl | assumption))))) Az)))))))) (@Ah _ _ _ (@An _ _ _ _ (Cd (fsc:=Af Ch) (N:=["_law_script","_law_sheet_here","_law_hands","_law_most","_law_many","_law_left","_law_drawn","_law_new","_law_room","_law_k","_law_cell_here","_law_slip_here","_law_gone"]) (Nc:=["_law_script","_law_sheet_here","_law_hands","_law_most","_law_many","_law_left","_law_drawn","_law_new","_law_room","_law_k","_law_cell_here",".s11","_law_gone","_law_slip_here"]) rfl rfl ⟨rfl,by decide +kernel,by decide +kernel,rfl,by decide +kernel,rfl,by decide +kernel,rfl,by decide +kernel⟩ rfl (BD (@Ax _ _ _ _ _ _ _ _ _ (ER rfl hr.units) (by rfl) T.z_sorted PyProof.Rows.boot_sorted (@Aa _ _ _ _ _ (pv 4) Ac (by rfl)) (by decide) (by decide) (by rfl) (by rfl))) (fun _ _ _ _=>(Ep (@Aq _ _ _ _ _ _ _ _ Ho (Dx (u1 hr.units) (pv 4) (pv 13) (fun _ _=>rfl)) Ab (Ar _)))) (fun _ _ _ _=>(@AL _ _ _ _ _ (@Aa _ _ _ _ _ (pv 13) (@Aa _ _ _ _ _ (Dx (u1 hr.units) (pv 4) (pv 13) (fun _ _=>rfl)) Ac (by rfl)) (by rfl))))))))))))),?_⟩
 subst_eqs
 refine ⟨l,ls.map fun q=>((q.1,q.2.1,(q.2.2.1.map Sum.inl:List Key),V.int q.2.2.2):Pr),rfl,(by rw [show prs (ls.map fun q=>((q.1,q.2.1,(q.2.2.1.map Sum.inl:List Key),V.int q.2.2.2):Pr))=vls ls from by unfold prs vls;rw [List.map_map];rfl];exact hl),(fun x m=>by
  obtain ⟨y,ym,rfl⟩:=List.mem_map.mp m
  obtain ⟨g1,g2,_⟩:=gl y ym
  exact ⟨g1,by show H y.2.1=some (.tup ((y.2.2.1.map Sum.inl:List Key).map kV));rw [C7];exact g2⟩),(by rw [List.length_map];exact Be (by omega)),fun d nd=>?_⟩
 rw [Ef nds (fun _ _ z=>by simp at z),List.nil_append]
 have s0:=Ag nd (.dT (kvL ls))
 have e0:(upd H d (.dT (kvL ls))) d=some (.dT (kvL ls)):=Ae
 generalize upd H d (.dT (kvL ls))=H0 at s0 e0 ⊢
 subst_eqs
 refine ⟨l,ls.map fun q=>((q.1,q.2.1,(q.2.2.1.map Sum.inl:List Key),V.int q.2.2.2):Pr),rfl,(by rw [show prs (ls.map fun q=>((q.1,q.2.1,(q.2.2.1.map Sum.inl:List Key),V.int q.2.2.2):Pr))=vls ls from by unfold prs vls;rw [List.map_map];rfl];exact (s0 _ _ hl)),(fun x m=>by
  obtain ⟨y,ym,rfl⟩:=List.mem_map.mp m
  obtain ⟨g1,g2,_⟩:=(gl.same s0) y ym
  exact ⟨g1,by show H0 y.2.1=some (.tup ((y.2.2.1.map Sum.inl:List Key).map kV));rw [C7];exact g2⟩),(by rw [List.length_map];exact Be (by omega)),fun d2 nd2=>?_⟩
 rw [Ef nds (fun _ _ z=>by simp at z),List.nil_append]
 have s1:=Ag nd2 (.dT (kvL ls))
 have e1:(upd H0 d2 (.dT (kvL ls))) d2=some (.dT (kvL ls)):=Ae
 generalize upd H0 d2 (.dT (kvL ls))=H1 at s1 e1 ⊢
 have s01:=s0.trans s1
 have e0':=s1 _ _ e0
 have hp1:=s01.seq hp
 have hl1:=s01 _ _ hl
 have g1:=gl.same s01
 have dd:d≠d2:=fun e=>by rw [e,nd2] at e0;cases e0
 subst_eqs
 refine ⟨p,ns,1,rfl,hp1,n63,by decide,by decide,fun z1 z10 z11=>?_⟩
 subst_eqs
 refine ⟨z1,91,rfl,Bp (by omega) (by omega),Bp (by decide) (by decide),fun dr d0 d1=>?_⟩
 subst_eqs
 refine Rr (σ':=[some (.ref p),some (.ref l),some (.int (h:Int)),some (.int m),some (.ref d),some (.ref d2),some (.int dr),none,none,none,none,none,none]) rfl ?_
 subst_eqs
 refine ⟨(by show 0<=sizeLine;decide),fun t0 n0=>?_⟩
 have s2:=Ag n0 (.tup [])
 have et0:(upd H1 t0 (.tup [])) t0=some (.tup (([]:List Int).map V.int)):=Ae
 generalize upd H1 t0 (.tup [])=H2 at s2 et0 ⊢
 subst_eqs
 refine ⟨(by show (h:Int)≠0;omega),?_⟩
 obtain ⟨a,ea,ah⟩:=Lx (dr.fdiv 8) h1
 dsimp only
 rw [ea]
 subst_eqs
 refine ⟨⟨by omega,by omega,by decide⟩,?_⟩
 dsimp only
 rw [Int.one_mul,Int.toNat_natCast]
 refine ⟨(by show 1<=sizeLine;decide),fun t1 n1=>?_⟩
 have s3:=Ag n1 (.tup [V.int (2 ^ a)])
 have et1:(upd H2 t1 (.tup [V.int (2 ^ a)])) t1=some (.tup ([(2:Int) ^ a].map V.int)):=Ae
 generalize upd H2 t1 (.tup [V.int (2 ^ a)])=H3 at s3 et1 ⊢
 refine ⟨(by show 2<=sizeLine;decide),fun l0 nl0=>?_⟩
 have s4:=Ag nl0 (.lst [V.ref t0,V.ref t1])
 have el0:(upd H3 l0 (.lst [V.ref t0,V.ref t1])) l0=some (.lst [V.ref t0,V.ref t1]):=Ae
 generalize upd H3 l0 (.lst [V.ref t0,V.ref t1])=H4 at s4 el0 ⊢
 subst_eqs
 have Br:∀z:Int,∃(i:Nat) (tn:Addr) (ts:List Int),z.fmod 2=(i:Int)/\([V.ref t0,V.ref t1]:List V)[i]?=some (.ref tn)/\H4 tn=some (.tup (ts.map V.int))/\DG h ts:=fun z=>by
  obtain ⟨i,ei,i2⟩:=Lx z (h:=2) (by decide)
  rcases i with _ | _ | i
  ·exact ⟨0,t0,[],ei,rfl,(s3.trans s4) _ _ et0,.inl rfl⟩
  ·exact ⟨1,t1,_,ei,rfl,s4 _ _ et1,IR ah⟩
  ·omega
 obtain ⟨i0,tn,ts,ei0,ati,etn,fts⟩:=Br (dr.fdiv 4)
 dsimp only
 rw [ei0]
 refine ⟨l0,_,_,_,rfl,rfl,SqL.of el0,Dk ati,?_⟩
 subst_eqs
 have s14:=s2.trans (s3.trans s4)
 have sH4:=s01.trans s14
 clear Br ati ei0 et0 et1 el0 ea
 have hl4:=sH4 _ _ hl
 subst_eqs
 have vl:=DN ls
 obtain ⟨o,eo⟩:∃o:Nat,dr.fdiv 64=(o:Int):=⟨(dr.fdiv 64).toNat,by have:=Int.fdiv_nonneg d0 (by decide:(0:Int)<=64);omega⟩
 have num':∀q∈ls,0<=q.2.2.2/\q.2.2.2<=60000000000+(m - m):=fun q k=>by have:=num q k;omega
 have sHo:A0 H (off H4 d):=Fh sH4 nd
 have tnd:tn≠d:=fun e=>by rw [e,s14 _ _ e0'] at etn;cases etn
 refine ⟨by omega,by omega,ED (fun i σ' J=>∃(v9 v10 v11 v12:Option V) (tn:Addr) (ts:List Int) (room:Int) (kvs:List (List Key × V)),σ'=[some (.ref p),some (.ref l),some (.int (h:Int)),some (.int m),some (.ref d),some (.ref d2),some (.int dr),some (.ref tn),some (.int room),v9,v10,v11,v12]/\A0 (off H4 d) J/\J d=some (.dT kvs)/\J tn=some (.tup (ts.map V.int))/\DG h ts/\0<=room/\room<=m/\Bag h (60000000000+(m - room)) (ls.length+i) kvs/\(∀f,A5 f (dsL ls) - (m - room)<=A5 f (dsK kvs)/\A5 f (dsK kvs)<=A5 f (dsL ls)+(m - room))/\A5 (fun _=>true) (dsK kvs)=A5 (fun _=>true) (dsL ls)/\∀j q,ls[j]?=some q->(∀i',i' < i->(i'+o) % ls.length≠j)->q.2.2.2<=nvK kvs q.2.2.1) ⟨none,none,none,none,tn,ts,m,kvL ls,rfl,Hi _ _,s14 _ _ e0',etn,fts,m0,Int.le_refl _,Mi gl nds num',fun f=>by rw [J6];omega,J6 _ _,fun j q e _=>by rw [(L4 nds (List.mem_of_getElem? e)).1];exact Int.le_refl _⟩ ?_ ?_⟩
 ·clear tnd etn fts
  rintro i σ' J hi ⟨v9,v10,v11,v12,tn,ts,room,kvs,rfl,z,ed,etn,fts,r0,rm,bag,sm,tot,lft⟩
  rw [vl] at hi
  have hi:i < ls.length:=by omega
  have sJ:A0 H J:=sHo.trans z
  have ed2:J d2=some (.dT (kvL ls)):=z _ _ (Fg (s14 _ _ e1) (Ne.symm dd))
  refine ⟨_,rfl,?_⟩
  subst_eqs
  refine ⟨p,ns,_,rfl,sJ.seq hp,n63,by omega,by omega,fun c1 c10 c11=>?_⟩
  subst_eqs
  refine ⟨c1,_,rfl,Bp (by omega) (by omega),Bp (by omega) (by omega),fun ce ce0 ce1=>?_⟩
  have hlJ:=sJ _ _ hl
  subst_eqs
  refine ⟨(by show ((vls ls).length:Int)≠0;omega),?_⟩
  have jx:(0+(i:Int)+dr.fdiv 64).fmod ((vls ls).length:Int)=(((i+o) % ls.length:Nat):Int):=by
   rw [eo,vl,Int.fmod_eq_emod_of_nonneg _ (by omega),Int.zero_add]
   push_cast
   rfl
  have jl:(i+o) % ls.length < ls.length:=Nat.mod_lt _ (by omega)
  obtain ⟨f,hf⟩:∃f,ls[(i+o) % ls.length]?=some f:=⟨_,List.getElem?_eq_getElem jl⟩
  have fm:=List.mem_of_getElem? hf
  have nf:=num f fm
  have ff:=(gl f fm).2.2
  have gJ1:=sJ _ _ (gl f fm).1
  have gJ2:=sJ _ _ (gl f fm).2.1
  have kJ:J f.2.1=some (.tup ((f.2.2.1.map Sum.inl:List Key).map kV)):=by rw [C7];exact gJ2
  have mine:=lft _ f hf (fun i' hi' e=>by
   have:=Px (n:=ls.length) (a:=i'+o) (b:=i+o) e (by omega) (by omega)
   omega)
  dsimp only
  rw [jx]
  refine ⟨l,_,_,_,rfl,rfl,SqL.of hlJ,Dk (show (vls ls)[(i+o) % ls.length]?=some (.ref f.1) by unfold vls;rw [List.getElem?_map,hf];rfl),?_⟩
  subst_eqs
  have dg:=Ev.t (k:=(f.2.2.1.map Sum.inl:List Key)) ed2 kJ
  rw [(L4 nds fm).2] at dg
  refine ⟨d2,_,rfl,dg,?_⟩
  subst_eqs
  refine ⟨(by show room+1≠0;omega),?_⟩
  dsimp only
  refine ⟨(by show 2<=sizeLine;decide),fun l5 n5=>?_⟩
  have y0:=Int.fmod_nonneg_of_pos (ce.fdiv 16) (b:=room+1) (by omega)
  have y1:=Int.fmod_lt_of_pos (ce.fdiv 16) (b:=room+1) (by omega)
  generalize (ce.fdiv 16).fmod (room+1)=y at y0 y1 ⊢
  have j1:=Ag n5 (.lst [V.int room,V.int y])
  have el5:(upd J l5 (.lst [V.int room,V.int y])) l5=some (.lst [V.int room,V.int y]):=Ae
  generalize upd J l5 (.lst [V.int room,V.int y])=J1 at j1 el5 ⊢
  subst_eqs
  refine .inr ⟨_,rfl,?_⟩
  have Br:∀b:Bool,∃x:Int,atI [V.int room,V.int y] (if b=true then 1 else 0)=some (V.int x)/\0<=x/\x<=room:=fun b=>by
   cases b with
   | true=>exact ⟨y,Dk (j:=1) rfl,y0,by omega⟩
   | false=>exact ⟨room,Dk (j:=0) rfl,r0,Int.le_refl _⟩
  obtain ⟨x5,at5,x50,x51⟩:=Br (decide (V.int (dr.fmod 4)=V.int 0))
  refine ⟨l5,_,_,_,rfl,rfl,SqL.of el5,at5,?_⟩
  subst_eqs
  refine ⟨_,_,_,rfl,fun gone g1 g2 g3 g4=>?_⟩
  have gn:0<=gone:=by omega
  clear Br at5 el5 g4 g3
  subst_eqs
  refine ⟨fun σ' J'=>∃(tn:Addr) (ts:List Int),σ'=[some (.ref p),some (.ref l),some (.int (h:Int)),some (.int m),some (.ref d),some (.ref d2),some (.int dr),some (.ref tn),some (.int room),some (.int (0+(i:Int))),some (.int ce),some (.ref f.2.1),some (.int gone)]/\A0 J1 J'/\J' tn=some (.tup (ts.map V.int))/\DG h ts,?_,?_⟩
  ·subst_eqs
   by_cases c:dr.fmod 4=0
   ·refine ifT (Kj c) ?_
    subst_eqs
    refine ⟨_,_,rfl,Bp (by have:=Int.fdiv_nonneg ce0 (by decide:(0:Int)<=3);omega) (by rw [Int.fdiv_eq_ediv_of_nonneg _ (by decide)];omega),by omega,by omega,fun t9 ts9 J2 j2 et9 ft9=>?_⟩
    subst_eqs
    exact ⟨t9,ts9,rfl,j2,et9,by rw [Int.toNat_natCast] at ft9;exact ft9⟩
   ·refine ifF (Ki c) ?_
    exact ⟨tn,ts,rfl,A0.refl _,j1 _ _ etn,fts⟩
  rintro σ' J2 ⟨tn2,ts2,rfl,j2,etn2,fts2⟩
  clear etn fts
  have gJ2':=(j1.trans j2) _ _ gJ2
  subst_eqs
  refine ⟨fun σ' J'=>∃g:Int,σ'=[some (.ref p),some (.ref l),some (.int (h:Int)),some (.int m),some (.ref d),some (.ref d2),some (.int dr),some (.ref tn2),some (.int room),some (.int (0+(i:Int))),some (.int ce),some (.ref f.2.1),some (.int g)]/\A0 J2 J'/\0<=g/\g<=f.2.2.2/\g<=room,?_,?_⟩
  ·subst_eqs
   by_cases c:dr.fmod 4=1
   ·refine ifT (Kj c) ?_
    subst_eqs
    refine ⟨_,_,rfl,gJ2',fun p6 J3 j3 e6=>?_⟩
    obtain ⟨us,eu⟩:=N4 f.2.2.1 none (some 1)
    rw [eu] at e6
    subst_eqs
    refine ⟨(by show (h:Int)≠0;omega),?_⟩
    obtain ⟨a,ea,ah⟩:=Lx (dr.fdiv 1024) h1
    dsimp only
    rw [ea]
    subst_eqs
    refine ⟨⟨by omega,by omega,by decide⟩,?_⟩
    dsimp only
    rw [Int.one_mul,Int.toNat_natCast]
    refine ⟨(by show 1<=sizeLine;decide),fun t7 n7=>?_⟩
    have j4:=Ag n7 (.tup [V.int (2 ^ a)])
    have e7:(upd J3 t7 (.tup [V.int (2 ^ a)])) t7=some (.tup ([(2:Int) ^ a].map V.int)):=Ae
    generalize upd J3 t7 (.tup [V.int (2 ^ a)])=J4 at j4 e7 ⊢
    subst_eqs
    refine ⟨.tuple (us.map .int),.tuple ([(2:Int) ^ a].map .int),.tup (SqT.of (j4 _ _ e6)) (.ints _),.tup (SqT.of e7) (.ints _),Gi _,Gi _,?_⟩
    rw [Qh]
    by_cases c:us=[(2:Int) ^ a]
    ·refine ⟨_,rfl,ifF (by rw [decide_eq_true c];rfl) ?_⟩
     exact ⟨gone,rfl,j3.trans j4,gn,g1,g2⟩
    ·refine ⟨_,rfl,ifT (by rw [decide_eq_false c];rfl) ?_⟩
     subst_eqs
     exact ⟨j3.trans j4,Int.le_refl _,by omega,r0⟩
   ·refine ifF (Ki c) ?_
    subst_eqs
    exact ⟨A0.refl _,gn,g1,g2⟩
  rintro σ' J3 ⟨g,rfl,j3,g0,gf,gr⟩
  clear gn g1 g2
  have j13:=j1.trans (j2.trans j3)
  have etn3:=j3 _ _ etn2
  have gJ3:=j3 _ _ gJ2'
  have ed3:=j13 _ _ ed
  have z3:=z.trans j13
  subst_eqs
  refine ⟨.tuple (ts2.map .int),.tuple (f.2.2.1.map .int),.tup (SqT.of etn3) (.ints _),.tup (SqT.of gJ3) (.ints _),Gi _,Gi _,?_⟩
  rw [Qh]
  by_cases c:ts2=f.2.2.1
  ·refine ⟨_,rfl,ifF (by rw [decide_eq_true c];rfl) ?_⟩
   exact ⟨_,_,_,_,tn2,ts2,room,kvs,rfl,z3,ed3,etn3,fts2,r0,rm,⟨bag.g,bag.nd,bag.lw,by have:=bag.len;omega⟩,sm,tot,fun j q e k=>lft j q e fun i' h'=>k i' (by omega)⟩
  ·refine ⟨_,rfl,ifT (by rw [decide_eq_false c];rfl) ?_⟩
   have kt1:J3 f.2.1=some (.tup ((f.2.2.1.map Sum.inl:List Key).map kV)):=by rw [C7];exact gJ3
   have td:tn2≠d:=Ds etn3 ed3 (fun z=>nomatch z)
   have nv1:=bag.has (ts:=f.2.2.1) (by omega)
   have nvb:=bag.nv (by omega) f.2.2.1
   have dg1:=Ev.t (k:=(f.2.2.1.map Sum.inl:List Key)) ed3 kt1
   rw [nv1] at dg1
   subst_eqs
   refine ⟨d,_,rfl,dg1,?_⟩
   subst_eqs
   refine ⟨d,_,rfl,FO.t ed3 kt1 (Be (by have:=bag.len;omega)),?_⟩
   have bl:=bag.len
   have b1:Bag h (60000000000+(m - room)) (ls.length+i) (Bj kvs (f.2.2.1.map Sum.inl) (.int (nvK kvs f.2.2.1 - g))):=bag.put ff (by omega) (by omega) (Int.le_refl _) (by rw [Dn nv1];exact bl)
   have t1:∀k,A5 k (dsK (Bj kvs (f.2.2.1.map Sum.inl) (.int (nvK kvs f.2.2.1 - g))))=A5 k (dsK kvs)+if k f.2.2.1 then -g else 0:=fun k=>HV k bag.g bag.nd _ (-g)
   have n1:∀b,nvK (Bj kvs (f.2.2.1.map Sum.inl) (.int (nvK kvs f.2.2.1 - g))) b=if b=f.2.2.1 then nvK kvs f.2.2.1 - g else nvK kvs b:=fun b=>Hh ..
   generalize Bj kvs (f.2.2.1.map Sum.inl) (.int (nvK kvs f.2.2.1 - g))=kvs1 at b1 t1 n1 ⊢
   have ed5:(upd J3 d (.dT kvs1)) d=some (.dT kvs1):=Ae
   have etn5:(upd J3 d (.dT kvs1)) tn2=some (.tup (ts2.map V.int)):=by rw [Ay td];exact etn3
   have z5:A0 (off H4 d) (upd J3 d (.dT kvs1)):=Dw z3
   generalize upd J3 d (.dT kvs1)=J5 at ed5 etn5 z5 ⊢
   have kt2:J5 tn2=some (.tup ((ts2.map Sum.inl:List Key).map kV)):=by rw [C7];exact etn5
   have nv2:=b1.nv (by omega) ts2
   have kept:∃kvs2,FO J5 d (.ref tn2) (.int (nvK kvs1 ts2+g)) (upd J5 d (.dT kvs2))/\Bag h (60000000000+(m - (room - g))) (ls.length+(i+1)) kvs2/\(∀k,A5 k (dsL ls) - (m - (room - g))<=A5 k (dsK kvs2)/\A5 k (dsK kvs2)<=A5 k (dsL ls)+(m - (room - g)))/\A5 (fun _=>true) (dsK kvs2)=A5 (fun _=>true) (dsL ls)/\∀j q,ls[j]?=some q->(∀i',i' < i+1->(i'+o) % ls.length≠j)->q.2.2.2<=nvK kvs2 q.2.2.1:=by
    refine ⟨_,FO.t ed5 kt2 (Be (by have:=b1.len;omega)),b1.put fts2 (by omega) (by omega) (by omega) (Nat.le_trans (HQ ..) (by have:=b1.len;omega)),fun k=>?_,?_,fun j q e k=>?_⟩
    ·rw [HV k b1.g b1.nd,t1 k]
     have:=sm k
     split <;> split <;> omega
    ·rw [HV _ b1.g b1.nd,t1,tot,if_pos rfl,if_pos rfl]
     omega
    ·have q1:=lft j q e fun i' h'=>k i' (by omega)
     have qf:q.2.2.1≠f.2.2.1:=fun z=>k i (Nat.lt_succ_self _) ((List.getElem?_inj (l:=ls.map fun q=>q.2.2.1) (by rw [List.length_map];exact jl) nds).mp (by rw [List.getElem?_map,List.getElem?_map,hf,e];exact congrArg some z.symm))
     rw [Hh,n1,n1,if_neg qf]
     split
     ·rename_i e2
      rw [<- e2]
      omega
     ·exact q1
   obtain ⟨kvs2,dp,b2,sm2,tot2,lft2⟩:=kept
   subst_eqs
   refine ⟨.inr ⟨_,.inl ed5⟩,_,rfl,_,Ev.t ed5 kt2,?_⟩
   rw [b1.getD ts2]
   subst_eqs
   refine ⟨d,_,rfl,dp,?_⟩
   subst_eqs
   exact ⟨_,_,_,_,tn2,ts2,room - g,kvs2,rfl,Dw z5,Ae,(by rw [Ay td];exact etn5),fts2,by omega,by omega,b2,sm2,tot2,lft2⟩
 ·rintro σ' J ⟨v9,v10,v11,v12,tn9,ts9,room,kvs,rfl,z,ed,_,_,r0,rm,bag,sm,tot,_⟩
  rw [vl,Int.toNat_natCast] at bag
  have sJ:A0 H J:=sHo.trans z
  have bl:=bag.len
  subst_eqs
  obtain ⟨ks,k1,k2,k3⟩:=Fc bag.g
  refine ⟨d,kvs,ks,rfl,.inl ed,k1,by omega,fun l2 rs r1 r2 hl2=>?_⟩
  have sl:=Ag hl2 (.lst (rs.map fun q=>V.ref q.1))
  have el:(upd J l2 (.lst (rs.map fun q=>V.ref q.1))) l2=some (.lst (rs.map fun q=>V.ref q.1)):=Ae
  generalize upd J l2 (.lst (rs.map fun q=>V.ref q.1))=J9 at sl el ⊢
  have rl:rs.length<=kvs.length:=by
   have:=r2.length_eq
   rw [List.length_map] at this
   omega
  subst_eqs
  refine ⟨⟨_,SqL.of el⟩,?_⟩
  refine BF (xs:=rs.map fun q=>V.ref q.1) (by rw [List.length_map];exact Bu (by omega)) (fun D i ys H2=>∃ms:Ls,ys=vls ms/\ms.length<=i/\H2 D=some (.lst ys)/\A0 J9 H2/\BA h H2 ms/\(∀q∈ms,1<=q.2.2.2/\q.2.2.2<=20000000000000)/\(ms.map fun q=>q.2.2.1).Sublist ((rs.take i).map (·.2))/\∀f,A5 f (dsL ms)=A5 f ((rs.take i).map fun r=>(r.2,nvK kvs r.2))) (fun D hD=>⟨[],rfl,Nat.le_refl _,Ae,Ag hD _,(fun _ m=>nomatch m),(fun _ m=>nomatch m),List.Sublist.refl _,fun _=>rfl⟩) (fun D i ys H2 ⟨ms,f1,f2,f3,_⟩=>⟨f3,by rw [f1,DN];omega⟩) (fun D i ys H2 hD ⟨ms,_,_,_,f4,_⟩=>SqL.of (f4 _ _ el)) ?_ ?_
  ·rintro D i x ys H2 K1 K2 hD hx ⟨ms,rfl,f2,f3,f4,f5,f6,f8,f7⟩ kk1 kk2
   rw [List.getElem?_map] at hx
   obtain ⟨r,er,rfl⟩:=Option.map_eq_some_iff.mp hx
   have rm:=List.mem_of_getElem? er
   have sH:=sl.trans f4
   have ek:=sH _ _ (r1 r rm)
   obtain ⟨fr,n,ev⟩:=k3 r.2 (r2.mem_iff.mp (List.mem_map.mpr ⟨r,rm,rfl⟩))
   have dg:=Ev.t (k:=(r.2.map Sum.inl:List Key)) (sH _ _ ed) (by rw [C7];exact ek)
   rw [ev] at dg
   have lv:=bag.lw.val ev
   have nv:nvK kvs r.2=n:=by unfold nvK;rw [ev]
   have tk:rs.take (i+1)=rs.take i++[r]:=by rw [List.take_add_one,er];rfl
   refine ⟨_,rfl,_,rfl,d,_,rfl,dg,?_⟩
   subst_eqs
   by_cases p:0 < n
   ·refine ifT (decide_eq_true p) ?_
    refine ⟨_,rfl,_,rfl,_,rfl,d,.int n,rfl,dg,(by show 2<=sizeLine;decide),fun t ht=>?_⟩
    have s6:=Ag ht (.tup [V.ref r.1,V.int n])
    refine kk1 _ _ (s6 _ _ f3) ⟨ms++[(t,r.1,r.2,n)],by unfold vls;rw [List.map_append];rfl,by rw [List.length_append];exact Nat.succ_le_succ f2,Ae,AB (f4.trans s6) hD,fun q m=>?_,fun q m=>?_,by rw [tk,List.map_append,List.map_append];exact f8.append (List.Sublist.refl _),fun k=>?_⟩
    ·have keep:∀b u,(upd H2 t (.tup [V.ref r.1,V.int n])) b=some (.tup u)->(upd (upd H2 t (.tup [V.ref r.1,V.int n])) D (.lst (vls ms++[V.ref t]))) b=some (.tup u):=fun b u e=>by
      rw [Ay (Ds e (s6 _ _ f3) (fun z=>nomatch z))]
      exact e
     rcases List.mem_append.mp m with m | m
     ·obtain ⟨a1,a2,a3⟩:=f5 q m
      exact ⟨keep _ _ (s6 _ _ a1),keep _ _ (s6 _ _ a2),a3⟩
     ·rw [List.mem_singleton.mp m]
      exact ⟨keep _ _ Ae,keep _ _ (s6 _ _ ek),fr⟩
    ·rcases List.mem_append.mp m with m | m
     ·exact f6 q m
     ·rw [List.mem_singleton.mp m]
      exact ⟨p,by show n<=_;omega⟩
    ·rw [tk,List.map_append,BL,<- f7 k,Fs,BL]
     show _=_+A5 k [(r.2,nvK kvs r.2)]
     rw [nv]
     rfl
   ·refine ifF (decide_eq_false p) ?_
    refine kk2 _ ⟨ms,rfl,Nat.le_succ_of_le f2,f3,f4,f5,f6,by rw [tk,List.map_append];exact f8.trans (List.sublist_append_left ..),fun k=>?_⟩
    rw [tk,List.map_append,BL,<- f7 k]
    show _=_+A5 k [(r.2,nvK kvs r.2)]
    rw [nv,show n=0 from by omega,Bf]
    show _=_+((if k r.2=true then (0:Int) else 0)+0)
    rw [ite_self]
    omega
  rintro D ys H2 hD ⟨ms,rfl,f2,f3,f4,f5,f6,f8,f7⟩
  rw [List.length_map,List.take_of_length_le (Nat.le_refl _)] at f7 f8
  rw [List.length_map] at f2
  have smm:∀f,A5 f (dsL ms)=A5 f (dsK kvs):=fun f=>by
   rw [f7,<- Id bag.nd k1 r2 f,List.map_map]
   rfl
  have ndm:(ms.map fun q=>q.2.2.1).Nodup:=f8.nodup (r2.nodup_iff.mpr (by
   have:=bag.nd
   rw [k1] at this
   exact List.Pairwise.of_map _ (fun a b z e=>z (congrArg _ e)) this))
  subst_eqs
  exact q D ms H2 (sJ.trans (sl.trans f4)) f3 f5 (by omega) f6 ndm (fun f=>by rw [smm];have:=sm f;omega) (by rw [smm];exact tot)
theorem Hk (T:Tx K mg ad):AO P w K mg base CX0 3 ad.f_law_changed ad.d_law_changed ["_law_sheet_here","_law_change","_law_low","_law_hands"] G6:=by
 refine T.F_law_changed.ok BH (fun vs H Q E h=>?_) (fun cdv A outer s H vs Q E hr h=>?_)
 ·obtain ⟨l,r,sl,h,ls,rs,c,low,rfl,_⟩:=h
  rfl
 obtain ⟨l,r,sl,h,ls,rs,c,low,rfl,hl,gl,l124,num,nds,chg,fresh,sc,lowE,low9,h12,q⟩:=h
 refine ⟨_,(@Ad _ _ _ _ _ (@AW _ _ _ _ _ _ _ _ (@Bo _ _ _ _ (@Bi _ _ _ (@Ax _ _ _ _ _ _ _ _ _ BR (by rfl) T.z_isinstance PyProof.Rows.boot_isinstance (@Aa _ _ _ _ _ (pv 1) (@Aa _ _ _ _ _ (C2 (v:=.ty "list") rfl T.z_list PyProof.Rows.boot_list rfl) Ac (by rfl)) (by rfl)) (by decide) (by decide) (by rfl) (by rfl)) (by intro _;rfl))) (@Ah _ _ _ (@An _ _ _ _ B8)) Az) (@Ad _ _ _ _ _ (@Al _ _ (4) _ _ _ _ BH.nd rfl (Or.inr rfl) (@AK _ _ _ _ _ _ _ _ _ (El rfl hr.units) (by rfl) T.z_dict PyProof.Rows.boot_dict (@Aa _ _ _ _ _ (pv 0) Ac (by rfl)) (by decide) (by decide) (by rfl) (by rfl)) (by rfl) (by first | exact .inl rfl | exact .inr rfl | assumption)) (@Ad _ _ _ _ _ (@Al _ _ (5) _ _ _ _ BH.nd rfl (Or.inl rfl) (@AK _ _ _ _ _ _ _ _ _ (El rfl hr.units) (by rfl) T.z_dict PyProof.Rows.boot_dict (@Aa _ _ _ _ _ (pv 0) Ac (by rfl)) (by decide) (by decide) (by rfl) (by rfl)) (by rfl) (by first | exact .inl rfl | exact .inr rfl | assumption)) (@Ad _ _ _ _ _ (@Al _ _ (6) _ _ _ _ BH.nd rfl (Or.inl rfl) Ab (by rfl) (by first | exact .inl rfl | exact .inr rfl | assumption)) (@Ad _ _ _ _ _ (Es PassesOwn.never rfl (BD (pv 1)) (Ce (i:=7) BH.nd rfl (Or.inl rfl)) (@Ad _ _ _ _ _ (@AW _ _ _ _ _ _ _ _ (PW.pt (@BS _ _ _ _ _ _ _ (@Bo _ _ _ _ (@Bi _ _ _ (@Ax _ _ _ _ _ _ _ _ _ BR (by rfl) T.z_isinstance PyProof.Rows.boot_isinstance (@Aa _ _ _ _ _ (pv 7) (@Aa _ _ _ _ _ (C2 (v:=.ty "tuple") rfl T.z_tuple PyProof.Rows.boot_tuple rfl) Ac (by rfl)) (by rfl)) (by decide) (by decide) (by rfl) (by rfl)) (by intro _;rfl))) (@BS _ _ _ _ _ _ _ (@Aq _ _ _ _ _ _ _ _ E6 (@Ax _ _ _ _ _ _ _ _ _ Bl (by rfl) T.z_len PySem.boot_len (@Aa _ _ _ _ _ (pv 7) Ac (by rfl)) (by decide) (by decide) (by rfl) (by rfl)) Ab (Ar _)) (@BS _ _ _ _ _ _ _ (@Bo _ _ _ _ (@Bi _ _ _ (@Ak _ _ _ _ _ _ _ _ _ _ _ _ _ _ _ _ (CS T) (hr.mono (by decide)) rfl T.m_law_whole T.F_law_whole.kp T.b_law_whole .nil Ap (@Aa _ _ _ _ _ (@At _ _ _ _ _ _ _ Aw (pv 7) Ab (fun _ _=>rfl)) Ac (by rfl)) (by decide) (by rfl) (by rfl)) (by intro _;rfl))) (@BS _ _ _ _ _ _ _ (@Aq _ _ _ _ _ _ _ _ Eb (@At _ _ _ _ _ _ _ Aw (pv 7) Ab (fun _ _=>rfl)) Ab (Ar _)) (@CU _ _ _ _ (@Aq _ _ _ _ _ _ _ _ (JG (K:=K) hr.units) (@At _ _ _ _ _ _ _ Aw (pv 7) Ab (fun _ _=>rfl)) (@At _ _ _ _ _ _ _ Aw (pv 7) Ab (fun _ _=>rfl)) (Ar _)))))))) (@Ah _ _ _ (@An _ _ _ _ B8)) Az) (@Ad _ _ _ _ _ (@AW _ _ _ _ _ _ _ _ (PW.pt (@BS _ _ _ _ _ _ _ (@Bo _ _ _ _ (@Bi _ _ _ (@Ax _ _ _ _ _ _ _ _ _ BR (by rfl) T.z_isinstance PyProof.Rows.boot_isinstance (@Aa _ _ _ _ _ (@At _ _ _ _ _ _ _ Aw (pv 7) Ab (fun _ _=>rfl)) (@Aa _ _ _ _ _ (C2 (v:=.ty "tuple") rfl T.z_tuple PyProof.Rows.boot_tuple rfl) Ac (by rfl)) (by rfl)) (by decide) (by decide) (by rfl) (by rfl)) (by intro _;rfl))) (@BS _ _ _ _ _ _ _ (@Bo _ _ _ _ (@Bi _ _ _ (@Ak _ _ _ _ _ _ _ _ _ _ _ _ _ _ _ _ (Hm T) (hr.mono (by decide)) rfl T.m_law_is_slip T.F_law_is_slip.kp T.b_law_is_slip .nil Ap (@Aa _ _ _ _ _ (@At _ _ _ _ _ _ _ Aw (pv 7) Ab (fun _ _=>rfl)) (@Aa _ _ _ _ _ (pv 3) Ac (by rfl)) (by rfl)) (by decide) (by rfl) (by rfl)) (by intro _;rfl))) (@CU _ _ _ _ (@Aq _ _ _ _ _ _ _ _ Eb (FD (u1 hr.units) (pv 5) (@At _ _ _ _ _ _ _ Aw (pv 7) Ab (fun _ _=>rfl)) Ab ⟨rfl,rfl,rfl,rfl⟩) (@At _ _ _ _ _ _ _ Aw (pv 7) Ab (fun _ _=>rfl)) (Ar _)))))) (@Ah _ _ _ (@An _ _ _ _ B8)) Az) (@Ad _ _ _ _ _ (EJ (u1 hr.units) (pv 5) (@At _ _ _ _ _ _ _ Aw (pv 7) Ab (fun _ _=>rfl)) (@Ai _ _ _ _ _ _ _ _ Cb (Dx (u1 hr.units) (pv 5) (@At _ _ _ _ _ _ _ Aw (pv 7) Ab (fun _ _=>rfl)) (fun _ _=>rfl)) (@At _ _ _ _ _ _ _ Aw (pv 7) Ab (fun _ _=>rfl))) rfl) (@Ad _ _ _ _ _ (EJ (u1 hr.units) (pv 4) (@At _ _ _ _ _ _ _ Aw (pv 7) Ab (fun _ _=>rfl)) (@Ai _ _ _ _ _ _ _ _ Cb (Dx (u1 hr.units) (pv 4) (@At _ _ _ _ _ _ _ Aw (pv 7) Ab (fun _ _=>rfl)) (fun _ _=>rfl)) (@At _ _ _ _ _ _ _ Aw (pv 7) Ab (fun _ _=>rfl))) rfl) (@Ad _ _ _ _ _ (EJ (u1 hr.units) (pv 4) (@At _ _ _ _ _ _ _ Aw (pv 7) Ab (fun _ _=>rfl)) (@Ai _ _ _ _ _ _ _ _ AA (FD (u1 hr.units) (pv 4) (@At _ _ _ _ _ _ _ Aw (pv 7) Ab (fun _ _=>rfl)) Ab ⟨rfl,rfl,rfl,rfl⟩) (@At _ _ _ _ _ _ _ Aw (pv 7) Ab (fun _ _=>rfl))) rfl) (@Ah _ _ _ (@Al _ _ (6) _ _ _ _ BH.nd rfl (Or.inl rfl) (@Ai _ _ _ _ _ _ _ _ AA (pv 6) (@At _ _ _ _ _ _ _ Aw (pv 7) Ab (fun _ _=>rfl))) (by rfl) (by first | exact .inl rfl | exact .inr rfl | assumption))))))))) (@Ad _ _ _ _ _ (@AW _ _ _ _ _ _ _ _ (@Aq _ _ _ _ _ _ _ _ E6 (pv 6) (pv 2) (Ar _)) (@Ah _ _ _ (@An _ _ _ _ B8)) Az) (@Ah _ _ _ (@An _ _ _ _ (Cd (fsc:=Af B9) (N:=["_law_sheet_here","_law_change","_law_low","_law_hands","_law_many","_law_left","_law_moved","_law_row"]) (Nc:=["_law_sheet_here","_law_change","_law_low","_law_hands","_law_many","_law_left","_law_moved","_law_row","_law_slip_here"]) rfl rfl ⟨rfl,by decide +kernel,by decide +kernel,rfl,by decide +kernel,rfl,by decide +kernel,rfl,by decide +kernel⟩ rfl (BD (@Ax _ _ _ _ _ _ _ _ _ (ER rfl hr.units) (by rfl) T.z_sorted PyProof.Rows.boot_sorted (@Aa _ _ _ _ _ (pv 4) Ac (by rfl)) (by decide) (by decide) (by rfl) (by rfl))) (fun _ _ _ _=>(Ep (@Aq _ _ _ _ _ _ _ _ Ho (Dx (u1 hr.units) (pv 4) (pv 8) (fun _ _=>rfl)) Ab (Ar _)))) (fun _ _ _ _=>(@AL _ _ _ _ _ (@Aa _ _ _ _ _ (pv 8) (@Aa _ _ _ _ _ (Dx (u1 hr.units) (pv 4) (pv 8) (fun _ _=>rfl)) Ac (by rfl)) (by rfl))))))))))))),?_⟩
 have er:=chg.r
 obtain ⟨ndr,rowf⟩:=chg.rows nds
 subst_eqs
 refine ⟨_,_,_,_,rfl,Dp.lst er,ET,?_⟩
 subst_eqs
 refine ⟨l,ls.map fun q=>((q.1,q.2.1,(q.2.2.1.map Sum.inl:List Key),V.int q.2.2.2):Pr),rfl,(by rw [show prs (ls.map fun q=>((q.1,q.2.1,(q.2.2.1.map Sum.inl:List Key),V.int q.2.2.2):Pr))=vls ls from by unfold prs vls;rw [List.map_map];rfl];exact hl),(fun x m=>by
  obtain ⟨y,ym,rfl⟩:=List.mem_map.mp m
  obtain ⟨g1,g2,_⟩:=gl y ym
  exact ⟨g1,by show H y.2.1=some (.tup ((y.2.2.1.map Sum.inl:List Key).map kV));rw [C7];exact g2⟩),(by rw [List.length_map];exact Be (by omega)),fun d nd=>?_⟩
 rw [Ef nds (fun _ _ z=>by simp at z),List.nil_append]
 have s0:=Ag nd (.dT (kvL ls))
 have e0:(upd H d (.dT (kvL ls))) d=some (.dT (kvL ls)):=Ae
 generalize upd H d (.dT (kvL ls))=H0 at s0 e0 ⊢
 subst_eqs
 refine ⟨l,ls.map fun q=>((q.1,q.2.1,(q.2.2.1.map Sum.inl:List Key),V.int q.2.2.2):Pr),rfl,(by rw [show prs (ls.map fun q=>((q.1,q.2.1,(q.2.2.1.map Sum.inl:List Key),V.int q.2.2.2):Pr))=vls ls from by unfold prs vls;rw [List.map_map];rfl];exact (s0 _ _ hl)),(fun x m=>by
  obtain ⟨y,ym,rfl⟩:=List.mem_map.mp m
  obtain ⟨g1,g2,_⟩:=(gl.same s0) y ym
  exact ⟨g1,by show H0 y.2.1=some (.tup ((y.2.2.1.map Sum.inl:List Key).map kV));rw [C7];exact g2⟩),(by rw [List.length_map];exact Be (by omega)),fun d2 nd2=>?_⟩
 rw [Ef nds (fun _ _ z=>by simp at z),List.nil_append]
 have s1:=Ag nd2 (.dT (kvL ls))
 have e1:(upd H0 d2 (.dT (kvL ls))) d2=some (.dT (kvL ls)):=Ae
 generalize upd H0 d2 (.dT (kvL ls))=H1 at s1 e1 ⊢
 have s01:=s0.trans s1
 have e0':=s1 _ _ e0
 have er1:=s01 _ _ er
 have nd2':=none_of s0 nd2
 have dd:d≠d2:=fun e=>by rw [e,nd2] at e0;cases e0
 have num':∀q∈ls,0<=q.2.2.2/\q.2.2.2<=20000000000000:=fun q k=>by have:=num q k;omega
 have b0:Bag h 20000000000000 ls.length (kvL ls):=Mi gl nds num'
 have pos:∀q∈rs,1<=q.2.2.2:=fun q m=>(rowf q m).1
 subst_eqs
 refine ⟨⟨_,SqL.of er1⟩,Ft (xs:=vls rs) (fun i σ' J=>∃(v7:Option V) (kvs kws:List (List Key × V)),σ'=[some (.ref l),some (.ref r),some (.int low),some (.int (h:Int)),some (.ref d),some (.ref d2),some (.int ((rs.take i).map fun q=>q.2.2.2).sum),v7]/\A0 H J/\J d=some (.dT kvs)/\J d2=some (.dT kws)/\Bag h (20000000000000+((rs.take i).map fun q=>q.2.2.2).sum) (ls.length+1) kvs/\(Bn kvs ((B5 c).map Sum.inl:List Key)=none->kvs.length<=ls.length)/\Bag h 20000000000000 ls.length kws/\(∀f,A5 f (dsK kvs)=A5 f (dsL ls) - A5 f (dsL (rs.take i))+if f (B5 c) then ((rs.take i).map fun q=>q.2.2.2).sum else 0)/\∀j q,i<=j->rs[j]?=some q->q.2.2.2<=nvK kvs q.2.2.1/\q.2.2.2<=nvK kws q.2.2.1) ⟨none,kvL ls,kvL ls,rfl,s01,e0',e1,⟨b0.g,b0.nd,fun q m n e=>by have:=b0.lw q m n e;show 0<=n/\n<=20000000000000+0;omega,Nat.le_succ_of_le b0.len⟩,fun _=>b0.len,b0,fun f=>by rw [J6];show _=_ - 0+(if f (B5 c) then (0:Int) else 0);rw [ite_self];omega,fun j q _ e=>by
  obtain ⟨_,p,pm,pe,ple⟩:=rowf q (List.mem_of_getElem? e)
  rw [<- pe,(L4 nds pm).1]
  exact ⟨ple,ple⟩⟩ (fun i σ' J _ ⟨_,_,_,_,z,_⟩=>SqL.of (z _ _ er)) ?_ ?_⟩
 ·rintro i x σ' J hx ⟨v7,kvs,kws,rfl,sJ,ed,ed2,bag,newl,bal,sm,lft⟩
  obtain ⟨f,hf,rfl,fm,et⟩:=JW hx
  have fil:i < rs.length:=(List.getElem?_eq_some_iff.mp hf).1
  obtain ⟨g1,g2⟩:=chg.g f fm
  obtain ⟨f1,pf,pfm,pfe,pfl⟩:=rowf f fm
  have ff:DG h f.2.2.1:=by rw [<- pfe];exact (gl pf pfm).2.2
  have g1J:=sJ _ _ g1
  have g2J:=sJ _ _ g2
  have slJ:=sJ _ _ chg.sl
  obtain ⟨lf1,lf2⟩:=lft i f (Nat.le_refl _) hf
  have mvs:=Fl pos i
  have mv1:((rs.take (i+1)).map fun q=>q.2.2.2).sum=((rs.take i).map fun q=>q.2.2.2).sum+f.2.2.2:=by rw [et];exact Nm ..
  have mvs1:=Fl pos (i+1)
  have kt1:J f.2.1=some (.tup ((f.2.2.1.map Sum.inl:List Key).map kV)):=by rw [C7];exact g2J
  have kt2:J sl=some (.tup (((B5 c).map Sum.inl:List Key).map kV)):=by rw [C7];exact slJ
  refine ⟨_,rfl,?_⟩
  subst_eqs
  refine ⟨_,_,_,_,rfl,Dp.tup g1J,B0,?_⟩
  subst_eqs
  refine ifF (decide_eq_false (by omega)) ?_
  subst_eqs
  refine ⟨.tuple (f.2.2.1.map .int),.tuple ((B5 c).map .int),.tup (SqT.of g2J) (.ints _),.tup (SqT.of slJ) (.ints _),Gi _,Gi _,?_⟩
  rw [Qh,decide_eq_false (fresh f fm)]
  subst_eqs
  refine ⟨_,_,_,_,rfl,Dp.tup g2J,B0,?_⟩
  subst_eqs
  refine ⟨sl,B5 c,h,rfl,slJ,sc,h12,?_⟩
  subst_eqs
  refine ⟨.inr ⟨_,.inl ed2⟩,?_⟩
  subst_eqs
  refine ⟨_,Ev.t ed2 kt1,?_⟩
  rw [bal.getD]
  subst_eqs
  refine ifF (decide_eq_false (by omega)) ?_
  have nw:=bal.has (ts:=f.2.2.1) (by omega)
  have dg:=Ev.t (k:=(f.2.2.1.map Sum.inl:List Key)) ed2 kt1
  rw [nw] at dg
  subst_eqs
  refine ⟨d2,_,rfl,dg,?_⟩
  subst_eqs
  refine ⟨d2,_,rfl,FO.t ed2 kt1 (Be (by have:=bal.len;omega)),?_⟩
  have nwb:=bal.nv (by decide) f.2.2.1
  have bal1:Bag h 20000000000000 ls.length (Bj kws (f.2.2.1.map Sum.inl) (.int (nvK kws f.2.2.1 - f.2.2.2))):=bal.put ff (by omega) (by omega) (Int.le_refl _) (by rw [Dn nw];exact bal.len)
  have nw1:∀b,nvK (Bj kws (f.2.2.1.map Sum.inl) (.int (nvK kws f.2.2.1 - f.2.2.2))) b=if b=f.2.2.1 then nvK kws f.2.2.1 - f.2.2.2 else nvK kws b:=fun b=>Hh ..
  generalize Bj kws (f.2.2.1.map Sum.inl) (.int (nvK kws f.2.2.1 - f.2.2.2))=kws1 at bal1 nw1 ⊢
  have ed2':(upd J d2 (.dT kws1)) d2=some (.dT kws1):=Ae
  have ed':(upd J d2 (.dT kws1)) d=some (.dT kvs):=by rw [Ay dd];exact ed
  have sJ1:A0 H (upd J d2 (.dT kws1)):=AB sJ nd2'
  generalize upd J d2 (.dT kws1)=J1 at ed2' ed' sJ1 ⊢
  clear dg nw kt1 kt2 g1J g2J slJ ed ed2 sJ
  have g1J:=sJ1 _ _ g1
  have kt1:J1 f.2.1=some (.tup ((f.2.2.1.map Sum.inl:List Key).map kV)):=by rw [C7];exact sJ1 _ _ g2
  have nv:=bag.has (ts:=f.2.2.1) (by omega)
  have dg:=Ev.t (k:=(f.2.2.1.map Sum.inl:List Key)) ed' kt1
  rw [nv] at dg
  subst_eqs
  refine ⟨d,_,rfl,dg,?_⟩
  subst_eqs
  refine ⟨d,_,rfl,FO.t ed' kt1 (Be (by have:=bag.len;omega)),?_⟩
  have nvb:=bag.nv (by omega) f.2.2.1
  have b1:Bag h (20000000000000+((rs.take i).map fun q=>q.2.2.2).sum) (ls.length+1) (Bj kvs (f.2.2.1.map Sum.inl) (.int (nvK kvs f.2.2.1 - f.2.2.2))):=bag.put ff (by omega) (by omega) (Int.le_refl _) (by rw [Dn nv];exact bag.len)
  have n1:∀b,nvK (Bj kvs (f.2.2.1.map Sum.inl) (.int (nvK kvs f.2.2.1 - f.2.2.2))) b=if b=f.2.2.1 then nvK kvs f.2.2.1 - f.2.2.2 else nvK kvs b:=fun b=>Hh ..
  have t1:∀k,A5 k (dsK (Bj kvs (f.2.2.1.map Sum.inl) (.int (nvK kvs f.2.2.1 - f.2.2.2))))=A5 k (dsK kvs)+if k f.2.2.1 then -f.2.2.2 else 0:=fun k=>HV k bag.g bag.nd _ (-f.2.2.2)
  have l1:Bn (Bj kvs (f.2.2.1.map Sum.inl) (.int (nvK kvs f.2.2.1 - f.2.2.2))) ((B5 c).map Sum.inl:List Key)=none->(Bj kvs (f.2.2.1.map Sum.inl) (.int (nvK kvs f.2.2.1 - f.2.2.2))).length<=ls.length:=fun z=>by
   rw [Dn nv]
   rw [Iu,if_neg (fun e=>fresh f fm (Fw e).symm)] at z
   exact newl z
  generalize Bj kvs (f.2.2.1.map Sum.inl) (.int (nvK kvs f.2.2.1 - f.2.2.2))=kvs1 at b1 n1 t1 l1 ⊢
  have ed5:(upd J1 d (.dT kvs1)) d=some (.dT kvs1):=Ae
  have ed25:(upd J1 d (.dT kvs1)) d2=some (.dT kws1):=by rw [Ay (Ne.symm dd)];exact ed2'
  have sJ2:A0 H (upd J1 d (.dT kvs1)):=AB sJ1 nd
  generalize upd J1 d (.dT kvs1)=J2 at ed5 ed25 sJ2 ⊢
  clear dg nv kt1 g1J ed' ed2'
  have g1J:=sJ2 _ _ g1
  have kt2:J2 sl=some (.tup (((B5 c).map Sum.inl:List Key).map kV)):=by rw [C7];exact sJ2 _ _ chg.sl
  have nvn:=b1.nv (by omega) (B5 c)
  have fc:DG h (B5 c):=by
   rcases sc with e | ⟨a,ah,e⟩
   ·rw [e];exact .inl rfl
   ·rw [e];exact IR ah
  have kept:∃kvs2,FO J2 d (.ref sl) (.int (nvK kvs1 (B5 c)+f.2.2.2)) (upd J2 d (.dT kvs2))/\Bag h (20000000000000+((rs.take (i+1)).map fun q=>q.2.2.2).sum) (ls.length+1) kvs2/\(Bn kvs2 ((B5 c).map Sum.inl:List Key)=none->kvs2.length<=ls.length)/\(∀k,A5 k (dsK kvs2)=A5 k (dsL ls) - A5 k (dsL (rs.take (i+1)))+if k (B5 c) then ((rs.take (i+1)).map fun q=>q.2.2.2).sum else 0)/\∀j q,i+1<=j->rs[j]?=some q->q.2.2.2<=nvK kvs2 q.2.2.1/\q.2.2.2<=nvK kws1 q.2.2.1:=by
   refine ⟨_,FO.t ed5 kt2 (Be (by have:=b1.len;omega)),b1.put fc (by omega) (by omega) (by omega) ?_,fun z=>?_,fun k=>?_,fun j q ij e=>?_⟩
   ·cases ev:Bn kvs1 ((B5 c).map Sum.inl:List Key) with
    | none=>exact Nat.le_trans (HQ ..) (by have:=l1 ev;omega)
    | some w=>rw [Dn ev];exact b1.len
   ·rw [Iu,if_pos rfl] at z
    cases z
   ·rw [HV k b1.g b1.nd,t1 k,sm k,mv1,et,Fs,BL]
    show _+_+_=_ - (_+A5 k [(f.2.2.1,f.2.2.2)])+_
    rw [Bf]
    show _+_+_=_ - (_+((if k f.2.2.1 then f.2.2.2 else 0)+0))+_
    split <;> split <;> omega
   ·obtain ⟨q1,q2⟩:=lft j q (by omega) e
    have qm:=List.mem_of_getElem? e
    have qf:q.2.2.1≠f.2.2.1:=fun z=>by
     have:=(List.getElem?_inj (l:=rs.map fun q=>q.2.2.1) (i:=i) (j:=j) (by rw [List.length_map];exact fil) ndr).mp (by rw [List.getElem?_map,List.getElem?_map,hf,e];exact congrArg some z.symm)
     omega
    rw [Hh,if_neg (fresh q qm),n1,if_neg qf,nw1,if_neg qf]
    exact ⟨q1,q2⟩
  obtain ⟨kvs2,dp,b2,l2,sm2,lft2⟩:=kept
  subst_eqs
  refine ⟨.inr ⟨_,.inl ed5⟩,?_⟩
  subst_eqs
  refine ⟨_,Ev.t ed5 kt2,?_⟩
  rw [b1.getD]
  subst_eqs
  refine ⟨d,_,rfl,dp,?_⟩
  have g1J:=AB sJ2 nd (o:=.dT kvs2) _ _ g1
  subst_eqs
  exact ⟨_,kvs2,kws1,by rw [mv1];rfl,AB sJ2 nd,Ae,(by rw [Ay (Ne.symm dd)];exact ed25),b2,l2,bal1,sm2,lft2⟩
 rintro σ' J ⟨v7,kvs,kws,rfl,sJ,ed,_,bag,_,_,sm,_⟩
 rw [DN,List.take_of_length_le (Nat.le_refl _)] at *
 rw [lowE] at bag sm ⊢
 subst_eqs
 refine ifF (MY rfl) ?_
 have bl:=bag.len
 subst_eqs
 obtain ⟨ks,k1,k2,k3⟩:=Fc bag.g
 refine ⟨d,kvs,ks,rfl,.inl ed,k1,by omega,fun l2 rs r1 r2 hl2=>?_⟩
 have sl:=Ag hl2 (.lst (rs.map fun q=>V.ref q.1))
 have el:(upd J l2 (.lst (rs.map fun q=>V.ref q.1))) l2=some (.lst (rs.map fun q=>V.ref q.1)):=Ae
 generalize upd J l2 (.lst (rs.map fun q=>V.ref q.1))=J9 at sl el ⊢
 have rl:rs.length<=kvs.length:=by
  have:=r2.length_eq
  rw [List.length_map] at this
  omega
 subst_eqs
 refine ⟨⟨_,SqL.of el⟩,?_⟩
 refine BF (xs:=rs.map fun q=>V.ref q.1) (by rw [List.length_map];exact Bu (by omega)) (fun D i ys H2=>∃ms:Ls,ys=vls ms/\ms.length<=i/\H2 D=some (.lst ys)/\A0 J9 H2/\BA h H2 ms/\(∀q∈ms,1<=q.2.2.2/\q.2.2.2<=100000000000000)/\(ms.map fun q=>q.2.2.1).Sublist ((rs.take i).map (·.2))/\∀f,A5 f (dsL ms)=A5 f ((rs.take i).map fun r=>(r.2,nvK kvs r.2))) (fun D hD=>⟨[],rfl,Nat.le_refl _,Ae,Ag hD _,(fun _ m=>nomatch m),(fun _ m=>nomatch m),List.Sublist.refl _,fun _=>rfl⟩) (fun D i ys H2 ⟨ms,f1,f2,f3,_⟩=>⟨f3,by rw [f1,DN];omega⟩) (fun D i ys H2 hD ⟨ms,_,_,_,f4,_⟩=>SqL.of (f4 _ _ el)) ?_ ?_
 ·rintro D i x ys H2 K1 K2 hD hx ⟨ms,rfl,f2,f3,f4,f5,f6,f8,f7⟩ kk1 kk2
  rw [List.getElem?_map] at hx
  obtain ⟨r,er,rfl⟩:=Option.map_eq_some_iff.mp hx
  have rm:=List.mem_of_getElem? er
  have sH:=sl.trans f4
  have ek:=sH _ _ (r1 r rm)
  obtain ⟨fr,n,ev⟩:=k3 r.2 (r2.mem_iff.mp (List.mem_map.mpr ⟨r,rm,rfl⟩))
  have dg:=Ev.t (k:=(r.2.map Sum.inl:List Key)) (sH _ _ ed) (by rw [C7];exact ek)
  rw [ev] at dg
  have lv:=bag.lw.val ev
  have nv:nvK kvs r.2=n:=by unfold nvK;rw [ev]
  have tk:rs.take (i+1)=rs.take i++[r]:=by rw [List.take_add_one,er];rfl
  refine ⟨_,rfl,_,rfl,d,_,rfl,dg,?_⟩
  subst_eqs
  by_cases p:0 < n
  ·refine ifT (decide_eq_true p) ?_
   refine ⟨_,rfl,_,rfl,_,rfl,d,.int n,rfl,dg,(by show 2<=sizeLine;decide),fun t ht=>?_⟩
   have s6:=Ag ht (.tup [V.ref r.1,V.int n])
   refine kk1 _ _ (s6 _ _ f3) ⟨ms++[(t,r.1,r.2,n)],by unfold vls;rw [List.map_append];rfl,by rw [List.length_append];exact Nat.succ_le_succ f2,Ae,AB (f4.trans s6) hD,fun q m=>?_,fun q m=>?_,by rw [tk,List.map_append,List.map_append];exact f8.append (List.Sublist.refl _),fun k=>?_⟩
   ·have keep:∀b u,(upd H2 t (.tup [V.ref r.1,V.int n])) b=some (.tup u)->(upd (upd H2 t (.tup [V.ref r.1,V.int n])) D (.lst (vls ms++[V.ref t]))) b=some (.tup u):=fun b u e=>by
     rw [Ay (Ds e (s6 _ _ f3) (fun z=>nomatch z))]
     exact e
    rcases List.mem_append.mp m with m | m
    ·obtain ⟨a1,a2,a3⟩:=f5 q m
     exact ⟨keep _ _ (s6 _ _ a1),keep _ _ (s6 _ _ a2),a3⟩
    ·rw [List.mem_singleton.mp m]
     exact ⟨keep _ _ Ae,keep _ _ (s6 _ _ ek),fr⟩
   ·rcases List.mem_append.mp m with m | m
    ·exact f6 q m
    ·rw [List.mem_singleton.mp m]
     exact ⟨p,by show n<=_;omega⟩
   ·rw [tk,List.map_append,BL,<- f7 k,Fs,BL]
    show _=_+A5 k [(r.2,nvK kvs r.2)]
    rw [nv]
    rfl
  ·refine ifF (decide_eq_false p) ?_
   refine kk2 _ ⟨ms,rfl,Nat.le_succ_of_le f2,f3,f4,f5,f6,by rw [tk,List.map_append];exact f8.trans (List.sublist_append_left ..),fun k=>?_⟩
   rw [tk,List.map_append,BL,<- f7 k]
   show _=_+A5 k [(r.2,nvK kvs r.2)]
   rw [nv,show n=0 from by omega,Bf]
   show _=_+((if k r.2=true then (0:Int) else 0)+0)
   rw [ite_self]
   omega
 rintro D ys H2 hD ⟨ms,rfl,f2,f3,f4,f5,f6,f8,f7⟩
 rw [List.length_map,List.take_of_length_le (Nat.le_refl _)] at f7 f8
 rw [List.length_map] at f2
 have smm:∀f,A5 f (dsL ms)=A5 f (dsK kvs):=fun f=>by
  rw [f7,<- Id bag.nd k1 r2 f,List.map_map]
  rfl
 have ndm:(ms.map fun q=>q.2.2.1).Nodup:=f8.nodup (r2.nodup_iff.mpr (by
  have:=bag.nd
  rw [k1] at this
  exact List.Pairwise.of_map _ (fun a b z e=>z (congrArg _ e)) this))
 subst_eqs
 exact q D ms H2 (sJ.trans (sl.trans f4)) f3 f5 (by omega) (fun q m=>by have:=f6 q m;omega) (fun f=>by rw [smm];exact sm f)
theorem Kv (T:Tx K mg ad):AO P w K mg base CX0 3 ad.f_Way_init ad.d_Way_init ["self","hands","seats","lots"] (Ji K):=by
 refine T.F_Way_init.ok KF (fun vs H Q E h=>?_) (fun cdv A outer s H vs Q E hr h=>?_)
 ·obtain ⟨a,C,dx,l,h,s,ns,rfl,_⟩:=h
  rfl
 obtain ⟨a,C,dx,l,h,s,ns,rfl,ha,cl,n1,n2,n3,h1,h12,s1,s60,hl,pm,q⟩:=h
 refine ⟨_,(@Ad _ _ _ _ _ (@AW _ _ _ _ _ _ _ _ (PW.pt (@BS _ _ _ _ _ _ _ (@Bo _ _ _ _ (@Bi _ _ _ (@Ak _ _ _ _ _ _ _ _ _ _ _ _ _ _ _ _ (JC T) (hr.mono (by decide)) rfl T.m_are_hands T.F_are_hands.kp T.b_are_hands .nil Ap (@Aa _ _ _ _ _ (pv 1) Ac (by rfl)) (by decide) (by rfl) (by rfl)) (by intro _;rfl))) (@CU _ _ _ _ (@Bo _ _ _ _ (@Bi _ _ _ (@Ak _ _ _ _ _ _ _ _ _ _ _ _ _ _ _ _ (JD T) (hr.mono (by decide)) rfl T.m_are_seats T.F_are_seats.kp T.b_are_seats .nil Ap (@Aa _ _ _ _ _ (pv 2) Ac (by rfl)) (by decide) (by rfl) (by rfl)) (by intro _;rfl)))))) (@Ah _ _ _ Ee) Az) (@Ad _ _ _ _ _ (@AW _ _ _ _ _ _ _ _ (PW.pt (@LE _ _ _ _ _ _ _ (@Aq _ _ _ _ _ _ _ _ FB (pv 3) B8 (Ar _)) (@JO _ _ _ _ (@Bo _ _ _ _ (@Bi _ _ _ (@Ak _ _ _ _ _ _ _ _ _ _ _ _ _ _ _ _ (Kw T) (hr.mono (by decide)) rfl T.m_are_lots T.F_are_lots.kp T.b_are_lots .nil Ap (@Aa _ _ _ _ _ (pv 3) (@Aa _ _ _ _ _ (pv 1) Ac (by rfl)) (by rfl)) (by decide) (by rfl) (by rfl)) (by intro _;rfl)))))) (@Ah _ _ _ Ee) Az) (@Ad _ _ _ _ _ (Gg (pv 0) (pv 1) rfl) (@Ad _ _ _ _ _ (Gg (pv 0) (pv 2) rfl) (@Ah _ _ _ (Gg (pv 0) (Ec (@Aq _ _ _ _ _ _ _ _ Hq (pv 3) B8 (Ar _)) (FE rfl (by rfl) T.z_list (by rfl) T.z_range (pv 1)) (@AK _ _ _ _ _ _ _ _ _ AU (by rfl) T.z_list PyProof.Rows.boot_list (@Aa _ _ _ _ _ (pv 3) Ac (by rfl)) (by decide) (by decide) (by rfl) (by rfl))) rfl)))))),?_⟩
 refine ⟨_,rfl,h,rfl,h1,h12,?_⟩
 and_intros
 refine ⟨s1,s60,?_⟩
 and_intros
 obtain ⟨n,rfl⟩:∃n:Nat,h=(n:Int):=⟨h.toNat,by omega⟩
 rw [Int.toNat_natCast] at pm
 and_intros
 refine ⟨l,ns,n,rfl,hl,pm,by omega,fun H1 e1=>?_⟩
 and_intros
 have g1:=(Hi H a).trans e1
 refine ⟨a,C,dx,[],rfl,e1 _ _ ha,cl,n1,(by simp only [List.length_cons,List.length_nil];decide),?_⟩
 rw [RJ]
 have g2:=Dw (o:=.ins C dx [("hands",.int (n:Int))]) g1
 have a2:(upd H1 a (.ins C dx [("hands",.int (n:Int))])) a=_:=Ae
 generalize upd H1 a (.ins C dx [("hands",.int (n:Int))])=H2 at g2 a2 ⊢
 and_intros
 refine ⟨a,C,dx,_,rfl,a2,cl,n2,(by simp only [List.length_cons,List.length_nil];decide),?_⟩
 rw [RK]
 have g3:=Dw (o:=.ins C dx [("hands",.int (n:Int)),("seats",.int s)]) g2
 have a3:(upd H2 a (.ins C dx [("hands",.int (n:Int)),("seats",.int s)])) a=_:=Ae
 generalize upd H2 a (.ins C dx [("hands",.int (n:Int)),("seats",.int s)])=H3 at g3 a3 ⊢
 have la:l≠a:=fun z=>by rw [z,ha] at hl;cases hl
 have l3:=g3 _ _ (Fg hl la)
 and_intros
 intro b hb
 have ba:b≠a:=fun z=>by rw [z,a3] at hb;cases hb
 have hbH:H b=none:=by
  cases e:H b with
  | none=>rfl
  | some o =>
    have:=g3 _ _ (Fg e ba)
    rw [hb] at this
    cases this
 have g4:=g3.trans (Ag hb (.lst (ns.map V.int)))
 have a4:=Ag hb (.lst (ns.map V.int)) _ _ a3
 have b4:(upd H3 b (.lst (ns.map V.int))) b=some (.lst (ns.map V.int)):=Ae
 generalize upd H3 b (.lst (ns.map V.int))=H4 at g4 a4 b4 ⊢
 and_intros
 refine ⟨a,C,dx,_,rfl,a4,cl,n3,(by simp only [List.length_cons,List.length_nil];decide),?_⟩
 rw [RL]
 exact q b _ ba hbH (Dw g4) Ae (by rw [Ay ba];exact b4)
theorem IB (T:Tx K mg ad):AO P w K mg base CX0 3 ad.f_Lists_mark ad.d_Lists_mark ["self","many","had"] (O6 ad.c_Lists):=by
 refine T.F_Lists_mark.ok IG (fun vs H Q E h=>?_) (fun cdv A outer s H vs Q E hr h=>?_)
 ·obtain ⟨a,h,s,st,u,v,ns,n,k,rfl,_⟩:=h
  rfl
 obtain ⟨a,h,s,st,u,v,ns,n,k,rfl,kk,st1,st9,k0,sn,sk,q⟩:=h
 refine ⟨_,(@Ah _ _ _ (@An _ _ _ _ (@Ak _ _ _ _ _ _ _ _ _ _ _ _ _ _ _ _ (Kx T) (hr.mono (by decide)) rfl T.m_fraction T.F_fraction.kp T.b_fraction .nil Ap (@Aa _ _ _ _ _ (pv 1) (@Aa _ _ _ _ _ (@Ai _ _ _ _ _ _ _ _ AA Ab (@Ai _ _ _ _ _ _ _ _ Cc (Bh (pv 0) rfl) (pv 2))) Ac (by rfl)) (by rfl)) (by decide) (by rfl) (by rfl)))),?_⟩
 obtain ⟨dx,l,t,k1,k2,k3⟩:=kk
 have szs:Sz 64 st:=Bp (by omega) (by omega)
 have pk:0<=st*k:=Int.mul_nonneg (by omega) k0
 and_intros
 refine ⟨a,_,dx,_,_,rfl,k1,T.cl_Lists,T.na_Lists_step,rfl,?_⟩
 and_intros
 exact ⟨n,1+st*k,rfl,by omega,sn.mono (by decide),((szd 64).add (szs.mul sk)).mono (by decide),q⟩
theorem Dq (T:Tx K mg ad):AO P w K mg base CX0 3 ad.f_ListsMargin_cases_of_hand ad.d_ListsMargin_cases_of_hand ["self","votes","outcome","least","b"] (KO ad.c_ListsMargin ad.c_Lists):=by
 refine T.F_ListsMargin_cases_of_hand.ok AD (fun vs H Q E h=>?_) (fun cdv A outer s H vs Q E hr h=>?_)
 ·obtain ⟨g,a,vv,oo,h,s,st,u,v,l,ns,xs,out,i,rfl,_⟩:=h
  rfl
 obtain ⟨g,a,vv,oo,h,s,st,u,v,l,ns,xs,out,i,rfl,im,md,hv,ho,nm,ih,op,q⟩:=h
 refine ⟨_,(@Ad _ _ _ _ _ (@Al _ _ (5) _ _ _ _ AD.nd rfl (Or.inl rfl) (@Ai _ _ _ _ _ _ _ _ AA (@Ai _ _ _ _ _ _ _ _ Cb (@At _ _ _ _ _ _ _ Ba (pv 1) (pv 4) (fun _ _=>rfl)) (pv 3)) Ab) (by rfl) (by first | exact .inl rfl | exact .inr rfl | assumption)) (@Ad _ _ _ _ _ (@Al _ _ (6) _ _ _ _ AD.nd rfl (Or.inl rfl) (@CT _ _ _ _ (@Aa _ _ _ _ _ (@AL _ _ _ _ _ (@Aa _ _ _ _ _ Hu (@Aa _ _ _ _ _ (pv 4) (@Aa _ _ _ _ _ B8 (@Aa _ _ _ _ _ (pv 5) Ac (by rfl)) (by rfl)) (by rfl)) (by rfl))) Ac (by rfl))) (by rfl) (by first | exact .inl rfl | exact .inr rfl | assumption)) (@Ad _ _ _ _ _ (Es PassesOwn.never rfl (BU rfl T.z_range (@Aa _ _ _ _ _ (Bh (Bh (pv 0) rfl) rfl) Ac (by rfl))) (Ce (i:=7) AD.nd rfl (Or.inl rfl)) (@Ah _ _ _ (@AW _ _ _ _ _ _ _ _ (@Aq _ _ _ _ _ _ _ _ E6 (pv 7) (pv 4) (Ar _)) (@Ad _ _ _ _ _ (@Al _ _ (8) _ _ _ _ AD.nd rfl (Or.inl rfl) (@Ax _ _ _ _ _ _ _ _ _ (FS rfl) (by rfl) T.z_min PyProof.Rows.boot_min (@Aa _ _ _ _ _ (pv 5) (@Aa _ _ _ _ _ (AE (pv 0) T.cl_ListsMargin T.me_ListsMargin_votes_to_overtake (CQ T) (hr.mono (by decide)) T.b_ListsMargin_votes_to_overtake .nil Ap (@Aa _ _ _ _ _ (pv 1) (@Aa _ _ _ _ _ (pv 2) (@Aa _ _ _ _ _ (pv 4) (@Aa _ _ _ _ _ (pv 7) Ac (by rfl)) (by rfl)) (by rfl)) (by rfl))) Ac (by rfl)) (by rfl)) (by decide) (by decide) (by rfl) (by rfl)) (by rfl) (by first | exact .inl rfl | exact .inr rfl | assumption)) (@Ah _ _ _ (@Er _ _ _ _ (Ht PySem.F.plainAttrs_list PySem.F.slot_list_append PySem.F.type_list_append EG (pv 6) (@Aa _ _ _ _ _ (@AL _ _ _ _ _ (@Aa _ _ _ _ _ Hu (@Aa _ _ _ _ _ (pv 4) (@Aa _ _ _ _ _ (pv 7) (@Aa _ _ _ _ _ (@Ax _ _ _ _ _ _ _ _ _ (FR rfl) (by rfl) T.z_max PyProof.Rows.boot_max (@Aa _ _ _ _ _ (@Ai _ _ _ _ _ _ _ _ Cb (pv 3) (@At _ _ _ _ _ _ _ Ba (pv 1) (pv 7) (fun _ _=>rfl))) (@Aa _ _ _ _ _ (pv 8) Ac (by rfl)) (by rfl)) (by decide) (by decide) (by rfl) (by rfl)) Ac (by rfl)) (by rfl)) (by rfl)) (by rfl))) Ac (by rfl))) (by rfl)))) Az))) (@Ah _ _ _ (@An _ _ _ _ (pv 6)))))),?_⟩
 obtain ⟨dm,hg⟩:=id im
 obtain ⟨dx,la,t,k1,k2,k3⟩:=id md.is
 have h12:=md.h12
 have ol:=nm.ol
 have vl:=nm.vl
 and_intros
 refine ⟨vv,_,_,_,rfl,rfl,SqL.of hv,atG (by omega),?_⟩
 and_intros
 refine ⟨(by show 4<=sizeLine;decide),fun t0 ht0=>?_⟩
 dsimp only
 have s1:=Ag ht0 (.tup [V.str "fall",V.int (i:Int),V.non,V.int (xs.getD i 0 - l+1)])
 have e1:(upd H t0 (.tup [V.str "fall",V.int (i:Int),V.non,V.int (xs.getD i 0 - l+1)])) t0=some (.tup [V.str "fall",V.int (i:Int),V.non,V.int (xs.getD i 0 - l+1)]):=Ae
 generalize upd H t0 (.tup [V.str "fall",V.int (i:Int),V.non,V.int (xs.getD i 0 - l+1)])=H1 at s1 e1 ⊢
 refine ⟨(by show 1<=sizeLine;decide),fun c hc=>?_⟩
 have s2:=Ag hc (.lst [V.ref t0])
 have e2:(upd H1 c (.lst [V.ref t0])) c=some (.lst [V.ref t0]):=Ae
 generalize upd H1 c (.lst [V.ref t0])=H2 at s2 e2 ⊢
 have s12:=s1.trans s2
 have hcH:=none_of s1 hc
 and_intros
 refine ⟨g,_,dm,_,_,rfl,s12 _ _ hg,T.cl_ListsMargin,T.na_ListsMargin_way,rfl,?_⟩
 refine ⟨a,_,dx,_,_,rfl,s12 _ _ k1,T.cl_Lists,T.na_Lists_hands,rfl,?_⟩
 and_intros
 refine ⟨by omega,by omega,ED (fun k σ' J=>∃(v7 v8:Option V) (cs:CL),σ'=[some (.ref g),some (.ref vv),some (.ref oo),some (.int l),some (.int (i:Int)),some (.int (xs.getD i 0 - l+1)),some (.ref c),v7,v8]/\A0 H J/\J c=some (.lst (vcl cs))/\BI J cs/\Db cs=(0,some (i:Int),none,xs.getD i 0 - l+1) :: (EH k i).map (D8 xs out ns st l i)) ⟨none,none,[(t0,(0,some (i:Int),none,xs.getD i 0 - l+1))],rfl,s12,e2,(fun q m=>by rw [List.mem_singleton.mp m];exact s2 _ _ e1),rfl⟩ ?_ ?_⟩
 ·rintro k σ' J hk ⟨v7,v8,cs,rfl,sJ,eC,gC,dC⟩
  rw [Int.toNat_natCast] at hk
  have cl:cs.length<=k+1:=by
   have:=congrArg List.length dC
   rw [E3,List.length_cons,List.length_map] at this
   have:=Hr k i
   omega
  and_intros
  by_cases ne:k=i
  ·refine ifF (MY (by omega)) ?_
   exact ⟨_,_,cs,rfl,sJ,eC,gC,by rw [Gz,if_neg (by omega),List.append_nil];exact dC⟩
  ·refine ifT (Ra (by omega)) ?_
   and_intros
   refine ⟨g,dm,_,rfl,sJ _ _ hg,rfl,?_⟩
   and_intros
   refine ⟨g,a,vv,oo,h,s,st,u,v,ns,xs,out,i,k,(by show [_,_,_,_,V.int (0+(k:Int))]=_;rw [Int.zero_add]),im.same sJ,md.same sJ,sJ _ _ hv,sJ _ _ ho,nm,ih,hk,op,?_⟩
   refine ⟨_,_,rfl,?_⟩
   rw [show (if D7 xs out ns st i k < xs.getD i 0 - l+1 then D7 xs out ns st i k else xs.getD i 0 - l+1)=mnI (xs.getD i 0 - l+1) (D7 xs out ns st i k) from rfl]
   and_intros
   refine ⟨.inl ⟨rfl,_,SqL.of eC⟩,?_⟩
   and_intros
   refine ⟨vv,_,_,_,rfl,rfl,SqL.of (sJ _ _ hv),(by rw [Int.zero_add];exact atG (by omega)),?_⟩
   and_intros
   refine ⟨_,_,rfl,?_⟩
   rw [show (if mnI (xs.getD i 0 - l+1) (D7 xs out ns st i k) > l - xs.getD k 0 then mnI (xs.getD i 0 - l+1) (D7 xs out ns st i k) else l - xs.getD k 0)=(D8 xs out ns st l i k).2.2.2 from rfl]
   refine ⟨(by show 4<=sizeLine;decide),fun t1 ht1=>?_⟩
   rw [Int.zero_add]
   have s3:=Ag ht1 (.tup [V.str "pass",V.int (i:Int),V.int (k:Int),V.int (D8 xs out ns st l i k).2.2.2])
   have e3:(upd J t1 (.tup [V.str "pass",V.int (i:Int),V.int (k:Int),V.int (D8 xs out ns st l i k).2.2.2])) t1=some (.tup (cv (D8 xs out ns st l i k))):=Ae
   generalize upd J t1 (.tup [V.str "pass",V.int (i:Int),V.int (k:Int),V.int (D8 xs out ns st l i k).2.2.2])=J1 at s3 e3 ⊢
   have eC1:=s3 _ _ eC
   refine ⟨c,_,_,rfl,rfl,eC1,(by rw [EQ];exact Be (by omega)),?_⟩
   refine ⟨_,_,cs++[(t1,D8 xs out ns st l i k)],rfl,AB (sJ.trans s3) hcH,(by rw [Ae,Fo];rfl),BI.upd eC1 ((gC.same s3).append (fun q m=>by rw [List.mem_singleton.mp m];exact e3)),?_⟩
   rw [DI,dC,Gz,if_pos (by omega),List.map_append]
   rfl
 ·rintro σ' J ⟨v7,v8,cs,rfl,sJ,eC,gC,dC⟩
  rw [Int.toNat_natCast] at dC
  exact ⟨_,rfl,q c cs J hcH sJ eC gC dC⟩
theorem DF (T:Tx K mg ad):AO P w K mg base CX0 3 ad.f_ListsMargin_change_for ad.d_ListsMargin_change_for ["self","sheet","word","b","a","many"] KP:=by
 refine T.F_ListsMargin_change_for.ok Ct (fun vs H Q E h=>?_) (fun cdv A outer s H vs Q E hr h=>?_)
 ·obtain ⟨g,l,h,ls,c,m,rfl,_⟩:=h
  rfl
 obtain ⟨g,l,h,ls,c,m,rfl,hl,gl,l125,h12,c3,cb,ca,ck,cj,q⟩:=h
 refine ⟨_,(@Ad _ _ _ _ _ (@Al _ _ (6) _ _ _ _ Ct.nd rfl (Or.inl rfl) (Ec (@Aq _ _ _ _ _ _ _ _ CF (pv 2) Hu (Ar _)) (@AL _ _ _ _ _ Ac) (@AL _ _ _ _ _ (@Aa _ _ _ _ _ (@Ak _ _ _ _ _ _ _ _ _ _ _ _ _ _ _ _ (Kz T) (hr.mono (by decide)) rfl T.m_with_one T.F_with_one.kp T.b_with_one .nil Ap (@Aa _ _ _ _ _ Ab (@Aa _ _ _ _ _ (pv 4) Ac (by rfl)) (by rfl)) (by decide) (by rfl) (by rfl)) Ac (by rfl)))) (by rfl) (by first | exact .inl rfl | exact .inr rfl | assumption)) (@Ad _ _ _ _ _ (@AW _ _ _ _ _ _ _ _ (@Aq _ _ _ _ _ _ _ _ CF (pv 2) Hu (Ar _)) (@Ah _ _ _ (@An _ _ _ _ (@Ak _ _ _ _ _ _ _ _ _ _ _ _ _ _ _ _ (Hn T) (hr.mono (by decide)) rfl T.m_rows_to T.F_rows_to.kp T.b_rows_to .nil Ap (@Aa _ _ _ _ _ (Cd (fsc:=Af A4) (N:=["self","sheet","word","b","a","many","slip"]) (Nc:=["self","sheet","word","b","a","many","slip","line"]) rfl rfl ⟨rfl,by decide +kernel,by decide +kernel,rfl,by decide +kernel,rfl,by decide +kernel,rfl,by decide +kernel⟩ rfl (BD (pv 1)) (fun _ _ _ _=>(Ep (@Aq _ _ _ _ _ _ _ _ E6 (@Ak _ _ _ _ _ _ _ _ _ _ _ _ _ _ _ _ (Fj T) (hr.mono (by decide)) rfl T.m_vote_of T.F_vote_of.kp T.b_vote_of .nil Ap (@Aa _ _ _ _ _ (@At _ _ _ _ _ _ _ (EF K) (pv 7) Ab (fun _ _=>rfl)) Ac (by rfl)) (by decide) (by rfl) (by rfl)) (pv 4) (Ar _)))) (fun _ _ _ _=>(pv 7))) (@Aa _ _ _ _ _ (pv 6) (@Aa _ _ _ _ _ (pv 5) Ac (by rfl)) (by rfl)) (by rfl)) (by decide) (by rfl) (by rfl)))) Az) (@Ah _ _ _ (@An _ _ _ _ (@Ak _ _ _ _ _ _ _ _ _ _ _ _ _ _ _ _ (Hn T) (hr.mono (by decide)) rfl T.m_rows_to T.F_rows_to.kp T.b_rows_to .nil Ap (@Aa _ _ _ _ _ (Cd (fsc:=Af A4) (N:=["self","sheet","word","b","a","many","slip"]) (Nc:=["self","sheet","word","b","a","many","slip","line"]) rfl rfl ⟨rfl,by decide +kernel,by decide +kernel,rfl,by decide +kernel,rfl,by decide +kernel,rfl,by decide +kernel⟩ rfl (BD (pv 1)) (fun _ _ _ _=>(Ep (@Aq _ _ _ _ _ _ _ _ CF (@Ak _ _ _ _ _ _ _ _ _ _ _ _ _ _ _ _ (Fj T) (hr.mono (by decide)) rfl T.m_vote_of T.F_vote_of.kp T.b_vote_of .nil Ap (@Aa _ _ _ _ _ (@At _ _ _ _ _ _ _ (EF K) (pv 7) Ab (fun _ _=>rfl)) Ac (by rfl)) (by decide) (by rfl) (by rfl)) (pv 3) (Ar _)))) (fun _ _ _ _=>(pv 7))) (@Aa _ _ _ _ _ (pv 6) (@Aa _ _ _ _ _ (pv 5) Ac (by rfl)) (by rfl)) (by rfl)) (by decide) (by rfl) (by rfl)))))),?_⟩
 obtain ⟨w,ob,oa,n0⟩:=c
 have w3:w=0\/w=1\/w=2:=by
  have:∀w:Fin 4,w≠3->w=0\/w=1\/w=2:=by decide
  exact this w c3
 rcases w3 with rfl | rfl | rfl
 ·obtain ⟨b,rfl⟩:∃b,ob=some b:=by
   cases ob with
   | none=>exact absurd rfl (cj.resolve_left (by show ¬ (0:Fin 4)=2;decide))
   | some b=>exact ⟨b,rfl⟩
  obtain ⟨b0,bh⟩:=cb b rfl
  and_intros
  try refine ifT rfl ?_
  and_intros
  refine ⟨(by show 0<=sizeLine;decide),fun sl hsl=>?_⟩
  have s1:=Ag hsl (.tup [])
  have esl:(upd H sl (.tup [])) sl=some (.tup (([]:List Int).map V.int)):=Ae
  generalize upd H sl (.tup [])=H1 at s1 esl ⊢
  have hl1:=s1 _ _ hl
  and_intros
  have vl:(vls ls).length=ls.length:=List.length_map ..
  refine ⟨⟨_,SqL.of hl1⟩,?_⟩
  refine BF (xs:=vls ls) (by rw [vl];exact Bu (by omega)) (fun D i ys J=>ys=vls ((ls.take i).filter (fun q:Addr × Addr × List Int × Int=>decide (pl h q.2.2.1=b.toNat)))/\J D=some (.lst ys)/\A0 H1 J) (fun D hD=>⟨rfl,Ae,Ag hD _⟩) (fun D i ys J hq=>by
   obtain ⟨f1,f2,_⟩:=hq
   refine ⟨f2,?_⟩
   rw [f1]
   unfold vls
   rw [List.length_map]
   exact Nat.le_trans (List.length_filter_le ..) (List.length_take_le _ _)) (fun D i ys J hD hq=>by
   obtain ⟨_,_,f3⟩:=hq
   exact SqL.of (f3 _ _ hl1)) ?_ ?_
  ·rintro D i u ys J K1 K2 hD hu ⟨f1,f2,f3⟩ kk1 kk2
   unfold vls at hu
   rw [List.getElem?_map] at hu
   obtain ⟨f,hf,rfl⟩:=Option.map_eq_some_iff.mp hu
   obtain ⟨g1,g2,g3⟩:=gl f (List.mem_of_getElem? hf)
   have sJ:=s1.trans f3
   have g1J:=sJ _ _ g1
   have et:(ls.take (i+1)).filter (fun q:Addr × Addr × List Int × Int=>decide (pl h q.2.2.1=b.toNat))=(ls.take i).filter (fun q:Addr × Addr × List Int × Int=>decide (pl h q.2.2.1=b.toNat))++if (fun q:Addr × Addr × List Int × Int=>decide (pl h q.2.2.1=b.toNat)) f=true then [f] else []:=by
    rw [List.take_succ,hf,List.filter_append]
    congr 1
    by_cases k:(fun q:Addr × Addr × List Int × Int=>decide (pl h q.2.2.1=b.toNat)) f=true
    ·rw [if_pos k]
     exact List.filter_cons_of_pos (p:=(fun q:Addr × Addr × List Int × Int=>decide (pl h q.2.2.1=b.toNat))) (a:=f) (l:=[]) k
    ·rw [if_neg k]
     exact List.filter_cons_of_neg (p:=(fun q:Addr × Addr × List Int × Int=>decide (pl h q.2.2.1=b.toNat))) (a:=f) (l:=[]) k
   have yes_:∀J1,A0 J J1->(fun q:Addr × Addr × List Int × Int=>decide (pl h q.2.2.1=b.toNat)) f=true->K1 (V.ref f.1) J1:=fun J1 j1 k=>kk1 _ _ (j1 _ _ f2) ⟨by rw [et,if_pos k,f1];unfold vls;rw [List.map_append];rfl,Ae,AB (f3.trans j1) hD⟩
   have no_:∀J1,A0 J J1->(fun q:Addr × Addr × List Int × Int=>decide (pl h q.2.2.1=b.toNat)) f=false->K2 J1:=fun J1 j1 k=>kk2 _ ⟨by rw [et,k,if_neg (by decide),List.append_nil];exact f1,j1 _ _ f2,f3.trans j1⟩
   and_intros
   refine ⟨f.2.1,f.2.2.1,h,rfl,sJ _ _ g2,g3,h12,fun ev J1 j1=>?_,fun ev J1 j1=>?_⟩
   ·and_intros
    try refine ifF rfl ?_
    and_intros
    exact no_ J1 j1 (decide_eq_false (by omega))
   ·and_intros
    by_cases k:(pl h f.2.2.1:Int)=b
    ·refine ifT (Kj k) ?_
     and_intros
     exact yes_ J1 j1 (decide_eq_true (by omega))
    ·refine ifF (Ki k) ?_
     and_intros
     exact no_ J1 j1 (decide_eq_false (by omega))
  rintro D ys H2 hD ⟨rfl,e2,s2⟩
  rw [vl,List.take_length] at e2
  and_intros
  refine ⟨D,sl,ls.filter (fun q:Addr × Addr × List Int × Int=>decide (pl h q.2.2.1=b.toNat)),m,rfl,e2,fun q mq=>?_,by have:=List.length_filter_le (fun q:Addr × Addr × List Int × Int=>decide (pl h q.2.2.1=b.toNat)) ls;omega,fun r rs H3 nr s3 er cr ds=>?_⟩
  ·obtain ⟨g1,g2,_⟩:=gl q (List.mem_filter.mp mq).1
   exact ⟨(s1.trans s2) _ _ g1,(s1.trans s2) _ _ g2⟩
  and_intros
  refine q r sl _ rs H3 (none_of (s1.trans s2) nr) ((s1.trans s2).trans s3) er cr ((s2.trans s3) _ _ esl) rfl ?_
  rw [ds]
  congr 1
  unfold dsL
  rw [List.filter_map]
  rfl
 ·obtain ⟨b,rfl⟩:∃b,ob=some b:=by
   cases ob with
   | none=>exact absurd rfl (cj.resolve_left (by show ¬ (1:Fin 4)=2;decide))
   | some b=>exact ⟨b,rfl⟩
  obtain ⟨b0,bh⟩:=cb b rfl
  obtain ⟨a,rfl⟩:∃a,oa=some a:=by
   cases oa with
   | none=>exact absurd rfl (ck.resolve_left (by show ¬ (1:Fin 4)=0;decide))
   | some a=>exact ⟨a,rfl⟩
  obtain ⟨a0,ah⟩:=ca a rfl
  and_intros
  try refine ifF rfl ?_
  and_intros
  refine ⟨0,a,rfl,a0,by omega,?_⟩
  rw [show Builtin.bitOr 0 (1*2 ^ a.toNat)=2 ^ a.toNat from by rw [IY]]
  refine ⟨(by show 1<=sizeLine;decide),fun sl hsl=>?_⟩
  have s1:=Ag hsl (.tup [V.int (2 ^ a.toNat)])
  have esl:(upd H sl (.tup [V.int (2 ^ a.toNat)])) sl=some (.tup ([(2:Int) ^ a.toNat].map V.int)):=Ae
  generalize upd H sl (.tup [V.int (2 ^ a.toNat)])=H1 at s1 esl ⊢
  have hl1:=s1 _ _ hl
  and_intros
  try refine ifF rfl ?_
  and_intros
  have vl:(vls ls).length=ls.length:=List.length_map ..
  refine ⟨⟨_,SqL.of hl1⟩,?_⟩
  refine BF (xs:=vls ls) (by rw [vl];exact Bu (by omega)) (fun D i ys J=>ys=vls ((ls.take i).filter (fun q:Addr × Addr × List Int × Int=>decide (pl h q.2.2.1=b.toNat)))/\J D=some (.lst ys)/\A0 H1 J) (fun D hD=>⟨rfl,Ae,Ag hD _⟩) (fun D i ys J hq=>by
   obtain ⟨f1,f2,_⟩:=hq
   refine ⟨f2,?_⟩
   rw [f1]
   unfold vls
   rw [List.length_map]
   exact Nat.le_trans (List.length_filter_le ..) (List.length_take_le _ _)) (fun D i ys J hD hq=>by
   obtain ⟨_,_,f3⟩:=hq
   exact SqL.of (f3 _ _ hl1)) ?_ ?_
  ·rintro D i u ys J K1 K2 hD hu ⟨f1,f2,f3⟩ kk1 kk2
   unfold vls at hu
   rw [List.getElem?_map] at hu
   obtain ⟨f,hf,rfl⟩:=Option.map_eq_some_iff.mp hu
   obtain ⟨g1,g2,g3⟩:=gl f (List.mem_of_getElem? hf)
   have sJ:=s1.trans f3
   have g1J:=sJ _ _ g1
   have et:(ls.take (i+1)).filter (fun q:Addr × Addr × List Int × Int=>decide (pl h q.2.2.1=b.toNat))=(ls.take i).filter (fun q:Addr × Addr × List Int × Int=>decide (pl h q.2.2.1=b.toNat))++if (fun q:Addr × Addr × List Int × Int=>decide (pl h q.2.2.1=b.toNat)) f=true then [f] else []:=by
    rw [List.take_succ,hf,List.filter_append]
    congr 1
    by_cases k:(fun q:Addr × Addr × List Int × Int=>decide (pl h q.2.2.1=b.toNat)) f=true
    ·rw [if_pos k]
     exact List.filter_cons_of_pos (p:=(fun q:Addr × Addr × List Int × Int=>decide (pl h q.2.2.1=b.toNat))) (a:=f) (l:=[]) k
    ·rw [if_neg k]
     exact List.filter_cons_of_neg (p:=(fun q:Addr × Addr × List Int × Int=>decide (pl h q.2.2.1=b.toNat))) (a:=f) (l:=[]) k
   have yes_:∀J1,A0 J J1->(fun q:Addr × Addr × List Int × Int=>decide (pl h q.2.2.1=b.toNat)) f=true->K1 (V.ref f.1) J1:=fun J1 j1 k=>kk1 _ _ (j1 _ _ f2) ⟨by rw [et,if_pos k,f1];unfold vls;rw [List.map_append];rfl,Ae,AB (f3.trans j1) hD⟩
   have no_:∀J1,A0 J J1->(fun q:Addr × Addr × List Int × Int=>decide (pl h q.2.2.1=b.toNat)) f=false->K2 J1:=fun J1 j1 k=>kk2 _ ⟨by rw [et,k,if_neg (by decide),List.append_nil];exact f1,j1 _ _ f2,f3.trans j1⟩
   and_intros
   refine ⟨f.2.1,f.2.2.1,h,rfl,sJ _ _ g2,g3,h12,fun ev J1 j1=>?_,fun ev J1 j1=>?_⟩
   ·and_intros
    try refine ifF rfl ?_
    and_intros
    exact no_ J1 j1 (decide_eq_false (by omega))
   ·and_intros
    by_cases k:(pl h f.2.2.1:Int)=b
    ·refine ifT (Kj k) ?_
     and_intros
     exact yes_ J1 j1 (decide_eq_true (by omega))
    ·refine ifF (Ki k) ?_
     and_intros
     exact no_ J1 j1 (decide_eq_false (by omega))
  rintro D ys H2 hD ⟨rfl,e2,s2⟩
  rw [vl,List.take_length] at e2
  and_intros
  refine ⟨D,sl,ls.filter (fun q:Addr × Addr × List Int × Int=>decide (pl h q.2.2.1=b.toNat)),m,rfl,e2,fun q mq=>?_,by have:=List.length_filter_le (fun q:Addr × Addr × List Int × Int=>decide (pl h q.2.2.1=b.toNat)) ls;omega,fun r rs H3 nr s3 er cr ds=>?_⟩
  ·obtain ⟨g1,g2,_⟩:=gl q (List.mem_filter.mp mq).1
   exact ⟨(s1.trans s2) _ _ g1,(s1.trans s2) _ _ g2⟩
  and_intros
  refine q r sl _ rs H3 (none_of (s1.trans s2) nr) ((s1.trans s2).trans s3) er cr ((s2.trans s3) _ _ esl) rfl ?_
  rw [ds]
  congr 1
  unfold dsL
  rw [List.filter_map]
  rfl
 ·obtain ⟨a,rfl⟩:∃a,oa=some a:=by
   cases oa with
   | none=>exact absurd rfl (ck.resolve_left (by show ¬ (2:Fin 4)=0;decide))
   | some a=>exact ⟨a,rfl⟩
  obtain ⟨a0,ah⟩:=ca a rfl
  and_intros
  try refine ifF rfl ?_
  and_intros
  refine ⟨0,a,rfl,a0,by omega,?_⟩
  rw [show Builtin.bitOr 0 (1*2 ^ a.toNat)=2 ^ a.toNat from by rw [IY]]
  refine ⟨(by show 1<=sizeLine;decide),fun sl hsl=>?_⟩
  have s1:=Ag hsl (.tup [V.int (2 ^ a.toNat)])
  have esl:(upd H sl (.tup [V.int (2 ^ a.toNat)])) sl=some (.tup ([(2:Int) ^ a.toNat].map V.int)):=Ae
  generalize upd H sl (.tup [V.int (2 ^ a.toNat)])=H1 at s1 esl ⊢
  have hl1:=s1 _ _ hl
  and_intros
  try refine ifT rfl ?_
  and_intros
  have vl:(vls ls).length=ls.length:=List.length_map ..
  refine ⟨⟨_,SqL.of hl1⟩,?_⟩
  refine BF (xs:=vls ls) (by rw [vl];exact Bu (by omega)) (fun D i ys J=>ys=vls ((ls.take i).filter (fun q:Addr × Addr × List Int × Int=>!decide (pl h q.2.2.1=a.toNat)))/\J D=some (.lst ys)/\A0 H1 J) (fun D hD=>⟨rfl,Ae,Ag hD _⟩) (fun D i ys J hq=>by
   obtain ⟨f1,f2,_⟩:=hq
   refine ⟨f2,?_⟩
   rw [f1]
   unfold vls
   rw [List.length_map]
   exact Nat.le_trans (List.length_filter_le ..) (List.length_take_le _ _)) (fun D i ys J hD hq=>by
   obtain ⟨_,_,f3⟩:=hq
   exact SqL.of (f3 _ _ hl1)) ?_ ?_
  ·rintro D i u ys J K1 K2 hD hu ⟨f1,f2,f3⟩ kk1 kk2
   unfold vls at hu
   rw [List.getElem?_map] at hu
   obtain ⟨f,hf,rfl⟩:=Option.map_eq_some_iff.mp hu
   obtain ⟨g1,g2,g3⟩:=gl f (List.mem_of_getElem? hf)
   have sJ:=s1.trans f3
   have g1J:=sJ _ _ g1
   have et:(ls.take (i+1)).filter (fun q:Addr × Addr × List Int × Int=>!decide (pl h q.2.2.1=a.toNat))=(ls.take i).filter (fun q:Addr × Addr × List Int × Int=>!decide (pl h q.2.2.1=a.toNat))++if (fun q:Addr × Addr × List Int × Int=>!decide (pl h q.2.2.1=a.toNat)) f=true then [f] else []:=by
    rw [List.take_succ,hf,List.filter_append]
    congr 1
    by_cases k:(fun q:Addr × Addr × List Int × Int=>!decide (pl h q.2.2.1=a.toNat)) f=true
    ·rw [if_pos k]
     exact List.filter_cons_of_pos (p:=(fun q:Addr × Addr × List Int × Int=>!decide (pl h q.2.2.1=a.toNat))) (a:=f) (l:=[]) k
    ·rw [if_neg k]
     exact List.filter_cons_of_neg (p:=(fun q:Addr × Addr × List Int × Int=>!decide (pl h q.2.2.1=a.toNat))) (a:=f) (l:=[]) k
   have yes_:∀J1,A0 J J1->(fun q:Addr × Addr × List Int × Int=>!decide (pl h q.2.2.1=a.toNat)) f=true->K1 (V.ref f.1) J1:=fun J1 j1 k=>kk1 _ _ (j1 _ _ f2) ⟨by rw [et,if_pos k,f1];unfold vls;rw [List.map_append];rfl,Ae,AB (f3.trans j1) hD⟩
   have no_:∀J1,A0 J J1->(fun q:Addr × Addr × List Int × Int=>!decide (pl h q.2.2.1=a.toNat)) f=false->K2 J1:=fun J1 j1 k=>kk2 _ ⟨by rw [et,k,if_neg (by decide),List.append_nil];exact f1,j1 _ _ f2,f3.trans j1⟩
   and_intros
   refine ⟨f.2.1,f.2.2.1,h,rfl,sJ _ _ g2,g3,h12,fun ev J1 j1=>?_,fun ev J1 j1=>?_⟩
   ·and_intros
    try refine ifT rfl ?_
    and_intros
    exact yes_ J1 j1 (by show (!decide (pl h f.2.2.1=a.toNat))=true;rw [decide_eq_false (by omega)];rfl)
   ·and_intros
    by_cases k:(pl h f.2.2.1:Int)=a
    ·refine ifF (MY k) ?_
     and_intros
     exact no_ J1 j1 (by show (!decide (pl h f.2.2.1=a.toNat))=false;rw [decide_eq_true (by omega)];rfl)
    ·refine ifT (Ra k) ?_
     and_intros
     exact yes_ J1 j1 (by show (!decide (pl h f.2.2.1=a.toNat))=true;rw [decide_eq_false (by omega)];rfl)
  rintro D ys H2 hD ⟨rfl,e2,s2⟩
  rw [vl,List.take_length] at e2
  and_intros
  refine ⟨D,sl,ls.filter (fun q:Addr × Addr × List Int × Int=>!decide (pl h q.2.2.1=a.toNat)),m,rfl,e2,fun q mq=>?_,by have:=List.length_filter_le (fun q:Addr × Addr × List Int × Int=>!decide (pl h q.2.2.1=a.toNat)) ls;omega,fun r rs H3 nr s3 er cr ds=>?_⟩
  ·obtain ⟨g1,g2,_⟩:=gl q (List.mem_filter.mp mq).1
   exact ⟨(s1.trans s2) _ _ g1,(s1.trans s2) _ _ g2⟩
  and_intros
  refine q r sl _ rs H3 (none_of (s1.trans s2) nr) ((s1.trans s2).trans s3) er cr ((s2.trans s3) _ _ esl) rfl ?_
  rw [ds]
  congr 1
  unfold dsL
  rw [List.filter_map]
  rfl
theorem L9 (T:Tx K mg ad):AO P w K mg base CX0 4 ad.f_law_way ad.d_law_way ["_law_script","_law_hands"] (M3 K):=by
 refine T.F_law_way.ok Eu (fun vs H Q E h=>?_) (fun cdv A outer s H vs Q E hr h=>?_)
 ·obtain ⟨p,xs,h,rfl,_⟩:=h
  rfl
 obtain ⟨p,xs,h,rfl,hS,h63,h1,h12,q⟩:=h
 refine ⟨_,(@Ad _ _ _ _ _ (@Al _ _ (2) _ _ _ _ Eu.nd rfl (Or.inl rfl) (@Ak _ _ _ _ _ _ _ _ _ _ _ _ _ _ _ _ (Bq T) (hr.mono (by decide)) rfl T.m_law_mixed T.F_law_mixed.kp T.b_law_mixed .nil Ap (@Aa _ _ _ _ _ (@Ak _ _ _ _ _ _ _ _ _ _ _ _ _ _ _ _ (BK T) (hr.mono (by decide)) rfl T.m_law_cell T.F_law_cell.kp T.b_law_cell .nil Ap (@Aa _ _ _ _ _ (pv 0) (@Aa _ _ _ _ _ Ab Ac (by rfl)) (by rfl)) (by decide) (by rfl) (by rfl)) (@Aa _ _ _ _ _ Ab Ac (by rfl)) (by rfl)) (by decide) (by rfl) (by rfl)) (by rfl) (by first | exact .inl rfl | exact .inr rfl | assumption)) (@Ad _ _ _ _ _ (@Al _ _ (3) _ _ _ _ Eu.nd rfl (Or.inl rfl) (@At _ _ _ _ _ _ _ Ba (@CT _ _ _ _ (@Aa _ _ _ _ _ (@Ai _ _ _ _ _ _ _ _ AA Ab (@Ai _ _ _ _ _ _ _ _ A7 (pv 2) Ab)) (@Aa _ _ _ _ _ (@Ai _ _ _ _ _ _ _ _ AA Ab (@Ai _ _ _ _ _ _ _ _ A7 (pv 2) Ab)) Ac (by rfl)) (by rfl))) (@AK _ _ _ _ _ _ _ _ _ FQ (by rfl) T.z_int PyProof.Rows.boot_int (@Aa _ _ _ _ _ (@C3 _ _ _ _ _ _ _ _ CF (@Ai _ _ _ _ _ _ _ _ A7 (@Ai _ _ _ _ _ _ _ _ AY (pv 2) Ab) Ab) Ab (Ar _)) Ac (by rfl)) (by decide) (by decide) (by rfl) (by rfl)) (fun _ _=>rfl)) (by rfl) (by first | exact .inl rfl | exact .inr rfl | assumption)) (@Ad _ _ _ _ _ (@Al _ _ (4) _ _ _ _ Eu.nd rfl (Or.inl rfl) (@At _ _ _ _ _ _ _ Ba (@CT _ _ _ _ (@Aa _ _ _ _ _ Ab (@Aa _ _ _ _ _ Ab (@Aa _ _ _ _ _ (@Ai _ _ _ _ _ _ _ _ AA Ab (@Ai _ _ _ _ _ _ _ _ A7 (@Ai _ _ _ _ _ _ _ _ AY (pv 2) Ab) Ab)) Ac (by rfl)) (by rfl)) (by rfl))) (@Ai _ _ _ _ _ _ _ _ A7 (@Ai _ _ _ _ _ _ _ _ AY (pv 2) Ab) Ab) (fun _ _=>rfl)) (by rfl) (by first | exact .inl rfl | exact .inr rfl | assumption)) (@Ah _ _ _ (@An _ _ _ _ (@AL _ _ _ _ _ (@Aa _ _ _ _ _ (pv 3) (@Aa _ _ _ _ _ (@Ak _ _ _ _ _ _ _ _ _ _ _ _ _ _ _ _ (Ky T) (hr.mono (by decide)) rfl T.m_law_lots T.F_law_lots.kp T.b_law_lots .nil Ap (@Aa _ _ _ _ _ (@Ak _ _ _ _ _ _ _ _ _ _ _ _ _ _ _ _ (BK T) (hr.mono (by decide)) rfl T.m_law_cell T.F_law_cell.kp T.b_law_cell .nil Ap (@Aa _ _ _ _ _ (pv 0) (@Aa _ _ _ _ _ Ab Ac (by rfl)) (by rfl)) (by decide) (by rfl) (by rfl)) (@Aa _ _ _ _ _ (pv 1) Ac (by rfl)) (by rfl)) (by decide) (by rfl) (by rfl)) (@Aa _ _ _ _ _ (@Ak _ _ _ _ _ _ _ _ _ _ _ _ _ _ _ _ (IC T) (hr.mono (by decide)) rfl T.m_law_hurdle T.F_law_hurdle.kp T.b_law_hurdle .nil Ap (@Aa _ _ _ _ _ (@Ak _ _ _ _ _ _ _ _ _ _ _ _ _ _ _ _ (BK T) (hr.mono (by decide)) rfl T.m_law_cell T.F_law_cell.kp T.b_law_cell .nil Ap (@Aa _ _ _ _ _ (pv 0) (@Aa _ _ _ _ _ Ab Ac (by rfl)) (by rfl)) (by decide) (by rfl) (by rfl)) Ac (by rfl)) (by decide) (by rfl) (by rfl)) (@Aa _ _ _ _ _ (pv 4) Ac (by rfl)) (by rfl)) (by rfl)) (by rfl)))))))),?_⟩
 refine ⟨_,rfl,p,xs,1,rfl,hS,h63,by decide,by decide,fun c c0 c1=>?_⟩
 refine ⟨c,3,rfl,OC c0 c1,szd 64,fun z z0 z1=>?_⟩
 have szz:=QB z0 z1
 have m7:=AR z (show (0:Int) < 7 by decide)
 have m60:=AR z (show (0:Int) < 60 by decide)
 have m9:=AR (z.fdiv 360) (show (0:Int) < 9 by decide)
 have m3:=AR (z.fdiv 3600) (show (0:Int) < 3 by decide)
 and_intros
 refine ⟨(by show 2<=sizeLine;decide),fun b hb=>?_⟩
 have s1:=Ag hb (.lst [V.int (1+z.fmod 7),V.int (1+z.fmod 60)])
 have e1:(upd H b (.lst [V.int (1+z.fmod 7),V.int (1+z.fmod 60)])) b=some (.lst [V.int (1+z.fmod 7),V.int (1+z.fmod 60)]):=Ae
 generalize upd H b (.lst [V.int (1+z.fmod 7),V.int (1+z.fmod 60)])=H1 at s1 e1 ⊢
 and_intros
 obtain ⟨s',hs,q1,q60⟩:=Pd (x0:=1+z.fmod 7) (x1:=1+z.fmod 60) (fun s=>1<=s/\s<=60) (decide (V.int ((z.fdiv 60).fmod 6)=V.int 1)) ⟨by omega,by omega⟩ ⟨by omega,by omega⟩
 refine .inr ⟨_,rfl,b,_,_,_,rfl,rfl,SqL.of e1,hs,?_⟩
 and_intros
 refine ⟨(by show 3<=sizeLine;decide),fun b2 hb2=>?_⟩
 have s2:=Ag hb2 (.lst [V.int 1,V.int 2,V.int (1+(z.fdiv 360).fmod 9)])
 have e2:(upd H1 b2 (.lst [V.int 1,V.int 2,V.int (1+(z.fdiv 360).fmod 9)])) b2=some (.lst [V.int 1,V.int 2,V.int (1+(z.fdiv 360).fmod 9)]):=Ae
 generalize upd H1 b2 (.lst [V.int 1,V.int 2,V.int (1+(z.fdiv 360).fmod 9)])=H2 at s2 e2 ⊢
 obtain ⟨st,hst,st1,st9⟩:=Q2 (x0:=1) (x1:=2) (x2:=1+(z.fdiv 360).fmod 9) (fun s=>1<=s/\s<=9) ((z.fdiv 3600).fmod 3) m3.1 m3.2 ⟨by decide,by decide⟩ ⟨by decide,by decide⟩ ⟨by omega,by omega⟩
 and_intros
 refine ⟨b2,_,_,_,rfl,rfl,SqL.of e2,hst,?_⟩
 have s12:=s1.trans s2
 and_intros
 refine ⟨p,xs,2,rfl,s12.seq hS,h63,by decide,by decide,fun d d0 d1=>?_⟩
 and_intros
 refine ⟨d,h,rfl,OC d0 d1,h1,h12,fun l ns H3 s3 e3 pm=>?_⟩
 and_intros
 refine ⟨p,xs,2,rfl,(s12.trans s3).seq hS,h63,by decide,by decide,fun d' d0' d1'=>?_⟩
 refine ⟨d',rfl,OC d0' d1',fun t u v H4 s4 e4 u0 uv g v9=>?_⟩
 and_intros
 refine ⟨(by show 4<=sizeLine;decide),fun r hr0=>?_⟩
 have s5:=Ag hr0 (.tup [V.int s',V.ref l,V.ref t,V.int st])
 exact q r s' st u v ns _ (((s12.trans s3).trans s4).trans s5) ⟨l,t,Ae,(s4.trans s5) _ _ e3,s5 _ _ e4⟩ q1 q60 st1 st9 u0 uv g v9 pm
theorem IA (T:Tx K mg ad):AO P w K mg base CX0 4 ad.f_Lists_init ad.d_Lists_init ["self","hands","seats","lots","hurdle","step"] (G7 K):=by
 refine T.F_Lists_init.ok IF (fun vs H Q E h=>?_) (fun cdv A outer s H vs Q E hr h=>?_)
 ·obtain ⟨a,C,dx,l,t,h,s,u,v,st,ns,rfl,_⟩:=h
  rfl
 obtain ⟨a,C,dx,l,t,h,s,u,v,st,ns,rfl,ha,cl,n1,n2,n3,n4,n5,h1,h12,s1,s60,hl,pm,ht,u0,uv,g,st1,st9,q⟩:=h
 refine ⟨_,(@Ad _ _ _ _ _ (@Er _ _ _ _ (Qz (Kv T) (hr.mono (by decide)) rfl T.m_Way T.cf_Way_init__ T.F_Way_init.kp T.b_Way_init .nil Ap (@Aa _ _ _ _ _ (pv 0) (@Aa _ _ _ _ _ (pv 1) (@Aa _ _ _ _ _ (pv 2) (@Aa _ _ _ _ _ (pv 3) Ac (by rfl)) (by rfl)) (by rfl)) (by rfl))) (by rfl)) (@Ad _ _ _ _ _ (@AW _ _ _ _ _ _ _ _ (PW.pt (@LE _ _ _ _ _ _ _ (@Aq _ _ _ _ _ _ _ _ FB (pv 4) B8 (Ar _)) (@JO _ _ _ _ (@Bo _ _ _ _ (@Bi _ _ _ (@Ak _ _ _ _ _ _ _ _ _ _ _ _ _ _ _ _ (JE T) (hr.mono (by decide)) rfl T.m_is_hurdle T.F_is_hurdle.kp T.b_is_hurdle .nil Ap (@Aa _ _ _ _ _ (pv 4) Ac (by rfl)) (by decide) (by rfl) (by rfl)) (by intro _;rfl)))))) (@Ah _ _ _ Ee) Az) (@Ad _ _ _ _ _ (@AW _ _ _ _ _ _ _ _ (@Bo _ _ _ _ (@Bi _ _ _ (@Ak _ _ _ _ _ _ _ _ _ _ _ _ _ _ _ _ (L8 T) (hr.mono (by decide)) rfl T.m_is_step T.F_is_step.kp T.b_is_step .nil Ap (@Aa _ _ _ _ _ (pv 5) Ac (by rfl)) (by decide) (by rfl) (by rfl)) (by intro _;rfl))) (@Ah _ _ _ Ee) Az) (@Ad _ _ _ _ _ (Gg (pv 0) (Ec (@Aq _ _ _ _ _ _ _ _ Hq (pv 4) B8 (Ar _)) (@AL _ _ _ _ _ (@Aa _ _ _ _ _ Ab (@Aa _ _ _ _ _ Ab Ac (by rfl)) (by rfl))) (pv 4)) rfl) (@Ah _ _ _ (Gg (pv 0) (pv 5) rfl)))))),?_⟩
 and_intros
 refine ⟨a,C,dx,l,h,s,ns,rfl,ha,cl,n1,n2,n3,h1,h12,s1,s60,hl,pm,fun l' H1 la hl' g1 a1 l1=>?_⟩
 have ta:t≠a:=fun z=>by rw [z,ha] at ht;cases ht
 have t1:=g1 _ _ (Fg ht ta)
 and_intros
 refine ⟨t,u,v,rfl,t1,u0,uv,g,?_⟩
 and_intros
 refine ⟨st1,st9,?_⟩
 and_intros
 refine ⟨a,C,dx,_,rfl,a1,cl,n4,(by simp only [List.length_cons,List.length_nil];decide),?_⟩
 rw [RM]
 have g2:=Dw (o:=.ins C dx [("hands",.int h),("seats",.int s),("lots",.ref l'),("hurdle",.ref t)]) g1
 have a2:(upd H1 a (.ins C dx [("hands",.int h),("seats",.int s),("lots",.ref l'),("hurdle",.ref t)])) a=_:=Ae
 have l2:(upd H1 a (.ins C dx [("hands",.int h),("seats",.int s),("lots",.ref l'),("hurdle",.ref t)])) l'=some (.lst (ns.map V.int)):=by rw [Ay la];exact l1
 generalize upd H1 a (.ins C dx [("hands",.int h),("seats",.int s),("lots",.ref l'),("hurdle",.ref t)])=H2 at g2 a2 l2 ⊢
 and_intros
 refine ⟨a,C,dx,_,rfl,a2,cl,n5,(by simp only [List.length_cons,List.length_nil];decide),?_⟩
 rw [RN]
 exact q l' _ (Dw g2) Ae (by rw [Ay la];exact l2)
theorem Ex (T:Tx K mg ad):AO P w K mg base CX0 4 ad.f_Lists_mark_or_none ad.d_Lists_mark_or_none ["self","many","least","had"] (PQ ad.c_Lists):=by
 refine T.F_Lists_mark_or_none.ok Ey (fun vs H Q E h=>?_) (fun cdv A outer s H vs Q E hr h=>?_)
 ·obtain ⟨a,h,s,st,u,v,ns,n,l,k,rfl,_⟩:=h
  rfl
 obtain ⟨a,h,s,st,u,v,ns,n,l,k,rfl,il,st1,st9,k0,sn,sk,q1,q2⟩:=h
 refine ⟨_,(@Ah _ _ _ (@An _ _ _ _ (Ec (@Aq _ _ _ _ _ _ _ _ PH (pv 1) (pv 2) (Ar _)) (AE (pv 0) T.cl_Lists T.me_Lists_mark (IB T) (hr.mono (by decide)) T.b_Lists_mark .nil Ap (@Aa _ _ _ _ _ (pv 1) (@Aa _ _ _ _ _ (pv 3) Ac (by rfl)) (by rfl))) B8))),?_⟩
 obtain ⟨dx,la,t,k1,k2,k3⟩:=id il
 and_intros
 by_cases c:l<=n
 ·refine ifT (decide_eq_true c) ?_
  refine ⟨_,rfl,a,dx,_,rfl,k1,rfl,?_⟩
  and_intros
  exact ⟨a,h,s,st,u,v,ns,n,k,rfl,il,st1,st9,k0,sn,sk,q2 c⟩
 ·refine ifF (decide_eq_false c) ?_
  exact q1 (by omega)
theorem Fz (T:Tx K mg ad):AO P w K mg base CX0 5 ad.f_Lists_marks_of ad.d_Lists_marks_of ["self","votes","least","had"] (Jf ad.c_Lists):=by
 refine T.F_Lists_marks_of.ok FJ (fun vs H Q E h=>?_) (fun cdv A outer s H vs Q E hr h=>?_)
 ·obtain ⟨a,b,d,h,s,st,u,v,ns,xs,had,l,rfl,_⟩:=h
  rfl
 obtain ⟨a,b,d,h,s,st,u,v,ns,xs,had,l,rfl,il,sn,hb,hd,hl,hp,q⟩:=h
 refine ⟨_,(@Ah _ _ _ (@An _ _ _ _ (Cd (fsc:=Af Bk) (N:=["self","votes","least","had"]) (Nc:=["self","votes","least","had","hand"]) rfl rfl ⟨rfl,by decide +kernel,by decide +kernel,rfl,by decide +kernel,rfl,by decide +kernel,rfl,by decide +kernel⟩ rfl (BU rfl T.z_range (@Aa _ _ _ _ _ (Bh (pv 0) rfl) Ac (by rfl))) (fun _ _ _ _=>C4) (fun _ _ _ _=>(AE (pv 0) T.cl_Lists T.me_Lists_mark_or_none (Ex T) (hr.mono (by decide)) T.b_Lists_mark_or_none .nil Ap (@Aa _ _ _ _ _ (@At _ _ _ _ _ _ _ (Fx K) (pv 1) (pv 4) (fun _ _=>rfl)) (@Aa _ _ _ _ _ (pv 2) (@Aa _ _ _ _ _ (@At _ _ _ _ _ _ _ (Fx K) (pv 3) (pv 4) (fun _ _=>rfl)) Ac (by rfl)) (by rfl)) (by rfl))))))),?_⟩
 obtain ⟨dx,la,t,k1,k2,k3⟩:=id il
 have h12:=sn.h12
 have xl:=sn.len
 refine ⟨_,rfl,a,_,dx,_,_,rfl,k1,T.cl_Lists,T.na_Lists_hands,rfl,?_⟩
 and_intros
 refine ⟨by omega,by omega,?_⟩
 refine C6 (Bu (by omega)) (fun D i ys H'=>ys.length=i/\H' D=some (.lst ys)/\A0 H H'/\∀j < i,FP H' ys xs had l st j) (fun D hD=>⟨rfl,Ae,Ag hD _,(fun j z=>by omega)⟩) (fun D i ys H' ⟨f1,f2,_⟩=>⟨f2,by omega⟩) ?_ ?_
 ·rintro D i ys H' K1 K2 hD hi ⟨f1,f2,f3,f4⟩ k1' k2'
  have hi':i < h:=by omega
  have av:atI (xs.map V.int) (0+(i:Int))=some (.int (xs.getD i 0)):=by
   rw [Int.zero_add]
   refine atN ?_
   rw [List.getD_eq_getElem?_getD,List.getElem?_eq_getElem (by omega)]
   rfl
  have ah:atI (had.map V.int) (0+(i:Int))=some (.int (had.getD i 0)):=by
   rw [Int.zero_add]
   refine atN ?_
   rw [List.getD_eq_getElem?_getD,List.getElem?_eq_getElem (by omega)]
   rfl
  have bg:=sn.big i
  have hb0:=hp i
  refine yes (ifT rfl ?_)
  refine ⟨_,rfl,a,dx,_,rfl,f3 _ _ k1,rfl,?_⟩
  refine ⟨_,rfl,_,rfl,b,_,_,_,rfl,rfl,SqL.of (f3 _ _ hb),av,_,rfl,_,rfl,_,rfl,d,_,_,_,rfl,rfl,SqL.of (f3 _ _ hd),ah,?_⟩
  have last:∀y:V,(ys++[y])[i]?=some y:=fun y=>by rw [List.getElem?_append_right (by omega),f1,Nat.sub_self];rfl
  refine ⟨a,h,s,st,u,v,ns,_,l,_,rfl,il.same f3,sn.st1,sn.st9,hb0.1,Bp (by omega) (by omega),Bp (by omega) (by omega),fun lt=>?_,fun le p H2 s2 e2=>?_⟩
  ·have keep:∀p zs,H' p=some (.tup zs)->(upd H' D (.lst (ys++[.non]))) p=some (.tup zs):=fun p zs e=>by
    rw [Ay (Ds e f2 (fun z=>nomatch z))]
    exact e
   refine k1' _ _ f2 ⟨by rw [List.length_append,f1];rfl,Ae,AB f3 hD,fun j hj=>?_⟩
   rcases (by omega:j < i\/j=i) with z | z
   ·exact (f4 j z).push keep (by omega)
   ·rw [z];exact .inl ⟨lt,last _⟩
  ·have f2':=s2 _ _ f2
   have keep:∀q zs,H2 q=some (.tup zs)->(upd H2 D (.lst (ys++[.ref p]))) q=some (.tup zs):=fun q zs e=>by
    rw [Ay (Ds e f2' (fun z=>nomatch z))]
    exact e
   refine k1' _ _ f2' ⟨by rw [List.length_append,f1];rfl,Ae,AB (f3.trans s2) hD,fun j hj=>?_⟩
   rcases (by omega:j < i\/j=i) with z | z
   ·exact (f4 j z).push (fun q zs e=>keep _ _ (s2 _ _ e)) (by omega)
   ·rw [z];exact .inr ⟨le,p,last _,keep _ _ e2⟩
 rintro D ys H' hD ⟨f1,f2,f3,f4⟩
 exact q D H' hD f3 ⟨ys,f2,by omega,fun j hj=>f4 j (by omega)⟩
theorem Fi (T:Tx K mg ad):AO P w K mg base CX0 6 ad.f_Lists_rounds_of ad.d_Lists_rounds_of ["self","votes","least"] (KY ad.c_Lists):=by
 refine T.F_Lists_rounds_of.ok Bz (fun vs H Q E h=>?_) (fun cdv A outer s H vs Q E hr h=>?_)
 ·obtain ⟨a,b,h,s,st,u,v,ns,xs,l,rfl,_⟩:=h
  rfl
 obtain ⟨a,b,h,s,st,u,v,ns,xs,l,rfl,il,sn,hb,ne,q⟩:=h
 refine ⟨_,(@Ad _ _ _ _ _ (@Al _ _ (3) _ _ _ _ Bz.nd rfl (Or.inl rfl) (@CT _ _ _ _ Ac) (by rfl) (by first | exact .inl rfl | exact .inr rfl | assumption)) (@Ad _ _ _ _ _ (JN (j:=4) (fsc:=Af Bb) (N:=["self","votes","least","rounds","had","marks","hand"]) (Nc:=["self","votes","least","rounds","had","marks",".s6","hand"]) rfl rfl ⟨rfl,by decide +kernel,by decide +kernel,rfl,by decide +kernel,rfl,by decide +kernel,rfl,by decide +kernel⟩ rfl Bz.nd rfl rfl (BU rfl T.z_range (@Aa _ _ _ _ _ (Bh (pv 0) rfl) Ac (by rfl))) (fun _ _ _ _=>C4) (fun _ _ _ _=>Ab) rfl) (@Ad _ _ _ _ _ (Hz PassesOwn.never (@Aq _ _ _ _ _ _ _ _ Eb (@Ax _ _ _ _ _ _ _ _ _ Bl (by rfl) T.z_len PySem.boot_len (@Aa _ _ _ _ _ (pv 3) Ac (by rfl)) (by decide) (by decide) (by rfl) (by rfl)) (Bh (pv 0) rfl) (Ar _)) (@Ad _ _ _ _ _ (@Al _ _ (5) _ _ _ _ Bz.nd rfl (Or.inl rfl) (AE (pv 0) T.cl_Lists T.me_Lists_marks_of (Fz T) (hr.mono (by decide)) T.b_Lists_marks_of .nil Ap (@Aa _ _ _ _ _ (pv 1) (@Aa _ _ _ _ _ (pv 2) (@Aa _ _ _ _ _ (pv 4) Ac (by rfl)) (by rfl)) (by rfl))) (by rfl) (by first | exact .inl rfl | exact .inr rfl | assumption)) (@Ad _ _ _ _ _ (@Al _ _ (6) _ _ _ _ Bz.nd rfl (Or.inl rfl) (AE (pv 0) T.cl_Lists T.me_Lists_greatest_mark (Eo T) (hr.mono (by decide)) T.b_Lists_greatest_mark .nil Ap (@Aa _ _ _ _ _ (pv 5) Ac (by rfl))) (by rfl) (by first | exact .inl rfl | exact .inr rfl | assumption)) (@Ad _ _ _ _ _ (@Er _ _ _ _ (Ht PySem.F.plainAttrs_list PySem.F.slot_list_append PySem.F.type_list_append EG (pv 3) (@Aa _ _ _ _ _ (@AL _ _ _ _ _ (@Aa _ _ _ _ _ (pv 5) (@Aa _ _ _ _ _ (pv 6) Ac (by rfl)) (by rfl))) Ac (by rfl))) (by rfl)) (@Ah _ _ _ (LD (@Ai _ _ _ _ _ _ _ _ AA (@At _ _ _ _ _ _ _ Ba (pv 4) (pv 6) (fun _ _=>rfl)) Ab) (Oj (pv 4) (pv 6) KK))))))) (@Ah _ _ _ (@An _ _ _ _ (pv 3)))))),?_⟩
 obtain ⟨dx,la,t,k1,k2,k3⟩:=id il
 have h12:=sn.h12
 have s60:=sn.s60
 refine ⟨(by show 0<=sizeLine;decide),fun r hr0=>?_⟩
 have s1:=Ag hr0 (.lst [])
 have e1:(upd H r (.lst [])) r=some (.lst []):=Ae
 generalize upd H r (.lst [])=H1 at s1 e1 ⊢
 refine ⟨_,rfl,a,_,dx,_,_,rfl,s1 _ _ k1,T.cl_Lists,T.na_Lists_hands,rfl,?_⟩
 and_intros
 refine ⟨by omega,by omega,?_⟩
 refine C6 (Bu (by omega)) (fun D i ys H'=>ys=(List.replicate i (0:Int)).map V.int/\H'=upd H1 D (.lst ys)) (fun D hD=>⟨rfl,rfl⟩) (fun D i ys H' ⟨f1,f2⟩=>⟨by rw [f2];exact Ae,by rw [f1,List.length_map,List.length_replicate];exact Nat.le_refl _⟩) ?_ ?_
 ·rintro D i ys H' K1 K2 hD hi ⟨f1,rfl⟩ c1 c2
  refine yes (ifT rfl ?_)
  refine c1 _ _ Ae ⟨?_,by rw [CY]⟩
  rw [f1,List.replicate_succ',List.map_append]
  rfl
 rintro d ys H2 hd ⟨rfl,rfl⟩
 rw [Int.toNat_natCast]
 have rd:r≠d:=fun z=>by rw [<- z,e1] at hd;cases hd
 have s2:=s1.trans (Ag hd (.lst ((List.replicate h (0:Int)).map V.int)))
 have e2:(upd H1 d (.lst ((List.replicate h (0:Int)).map V.int))) r=some (.lst []):=by rw [Ay rd];exact e1
 have d2:(upd H1 d (.lst ((List.replicate h (0:Int)).map V.int))) d=some (.lst ((Av xs ns l st h 0).map V.int)):=Ae
 generalize upd H1 d (.lst ((List.replicate h (0:Int)).map V.int))=H2 at s2 e2 d2 ⊢
 have hdH:H d=none:=none_of s1 hd
 refine ⟨fun n σ' H'=>∃k:Nat,n+k=s/\∃(v5 v6:Option V) (ms:List (Addr × Addr)),σ'=[some (.ref a),some (.ref b),some (.int l),some (.ref r),some (.ref d),v5,v6]/\A0 H H'/\H' r=some (.lst (ms.map fun q=>V.ref q.1))/\ms.length=k/\H' d=some (.lst ((Av xs ns l st h (k)).map V.int))/\∀i q,ms[i]?=some q->q.2≠r/\q.2≠d/\H' q.1=some (.tup [.ref q.2,.int (Br xs ns (Av xs ns l st h i) l st)])/\E2 H' q.2 xs (Av xs ns l st h i) l st h,⟨s,0,by omega,none,none,[],rfl,s2,e2,rfl,d2,(fun i q e=>by cases e)⟩,?_⟩
 rintro n σ' H' ⟨k,nk,v5,v6,ms,rfl,s3,e3,ml,d3,all⟩
 have hh:∀j,0<=(Av xs ns l st h k).getD j 0/\(Av xs ns l st h k).getD j 0<=60:=fun j=>by
  have:=Fv (sn.pk ne) k j
  omega
 refine ⟨_,rfl,r,_,rfl,.inl (SqL.of e3),_,rfl,a,_,dx,_,_,rfl,s3 _ _ k1,T.cl_Lists,T.na_Lists_seats,rfl,_,_,rfl,rfl,_,rfl,?_⟩
 rw [List.length_map,ml]
 refine Fe (fun c=>?_) (fun c=>?_)
 ·have c':(k:Int) < (s:Int):=of_decide_eq_true c
  refine ⟨fun σ' H'=>∃(v5 v6:Option V) (ms:List (Addr × Addr)),σ'=[some (.ref a),some (.ref b),some (.int l),some (.ref r),some (.ref d),v5,v6]/\A0 H H'/\H' r=some (.lst (ms.map fun q=>V.ref q.1))/\ms.length=k+1/\H' d=some (.lst ((Av xs ns l st h (k+1)).map V.int))/\∀i q,ms[i]?=some q->q.2≠r/\q.2≠d/\H' q.1=some (.tup [.ref q.2,.int (Br xs ns (Av xs ns l st h i) l st)])/\E2 H' q.2 xs (Av xs ns l st h i) l st h,fun σ' H' ⟨v5,v6,ms,e⟩=>⟨n - 1,by omega,k+1,by omega,v5,v6,ms,e⟩,?_⟩
  have pk:=sn.pk ne k
  refine ⟨_,rfl,a,dx,_,rfl,s3 _ _ k1,rfl,_,rfl,_,rfl,_,rfl,a,b,d,h,s,st,u,v,ns,xs,_,l,rfl,il.same s3,sn,s3 _ _ hb,d3,BG ..,hh,fun m H4 hm s4 mk=>?_⟩
  have s34:=s3.trans s4
  refine ⟨_,rfl,a,dx,_,rfl,s34 _ _ k1,rfl,_,rfl,a,m,h,s,st,u,v,ns,xs,_,l,rfl,il.same s34,sn,mk,hh,ne,fun H5 s5=>?_⟩
  have s45:=s4.trans s5
  have e5:=s45 _ _ e3
  have d5:=s45 _ _ d3
  have mr:m≠r:=fun z=>by rw [z,e3] at hm;cases hm
  have md:m≠d:=fun z=>by rw [z,d3] at hm;cases hm
  refine ⟨_,rfl,.inl ⟨rfl,_,SqL.of e5⟩,_,rfl,_,rfl,(by show 2<=sizeLine;decide),fun t' ht=>?_⟩
  generalize hP:Br xs ns (Av xs ns l st h k) l st=P' at pk ⊢
  have s6:=Ag ht (.tup [V.ref m,V.int P'])
  have w6:(upd H5 t' (.tup [V.ref m,V.int P'])) t'=some (.tup [V.ref m,V.int P']):=Ae
  generalize upd H5 t' (.tup [V.ref m,V.int P'])=H6 at s6 w6 ⊢
  have e6:=s6 _ _ e5
  have d6:=s6 _ _ d5
  have mk6:=(mk.same s5).same s6
  refine ⟨r,_,_,rfl,rfl,e6,(by rw [List.length_map,ml];exact Be (by omega)),?_⟩
  have d7:(upd H6 r (.lst ((ms.map fun q=>V.ref q.1)++[V.ref t']))) d=some (.lst ((Av xs ns l st h k).map V.int)):=by rw [Ay (Ne.symm rd)];exact d6
  obtain ⟨jn,rfl⟩:∃jn:Nat,P'=(jn:Int):=⟨P'.toNat,by omega⟩
  have hl:=BG xs ns l st h k
  have aP:atI ((Av xs ns l st h k).map V.int) (jn:Int)=some (.int ((Av xs ns l st h k).getD jn 0)):=by
   refine atN ?_
   rw [List.getD_eq_getElem?_getD,List.getElem?_eq_getElem (by omega)]
   rfl
  have nx:((Av xs ns l st h k).map V.int).set jn (.int ((Av xs ns l st h k).getD jn 0+1))=(Av xs ns l st h (k+1)).map V.int:=by
   show _=(GQ (Av xs ns l st h k) (Br xs ns (Av xs ns l st h k) l st)).map V.int
   rw [hP]
   unfold GQ
   rw [Int.toNat_natCast,List.map_set]
  refine ⟨_,rfl,_,rfl,d,_,_,_,rfl,rfl,SqL.of d7,aP,_,_,rfl,rfl,?_⟩
  refine ⟨_,rfl,_,rfl,d,_,_,_,rfl,rfl,d7,J0 (by rw [List.length_map];omega),?_⟩
  refine ⟨_,_,ms++[(t',m)],rfl,AB (AB ((s3.trans s45).trans s6) hr0) hdH,by rw [Ay rd,Ae,List.map_append];rfl,by rw [List.length_append,ml];rfl,?_,fun i q0 hq=>?_⟩
  ·rw [Ae]
   exact congrArg (fun z=>some (HO.lst z)) nx
  have tk:∀p zs,H6 p=some (.tup zs)->∀o,(upd (upd H6 r (.lst ((ms.map fun q=>V.ref q.1)++[V.ref t']))) d o) p=some (.tup zs):=fun p zs e o=>by
   rw [Ay (Ds e d6 (fun z=>nomatch z)),Ay (Ds e e6 (fun z=>nomatch z))]
   exact e
  by_cases ci:i < ms.length
  ·rw [List.getElem?_append_left ci] at hq
   obtain ⟨a1,a2,a3,a4⟩:=all i q0 hq
   exact ⟨a1,a2,tk _ _ ((s45.trans s6) _ _ a3) _,((a4.same (s45.trans s6)).upd e6 a1).upd d7 a2⟩
  ·rw [List.getElem?_append_right (by omega)] at hq
   have ei:i=k:=by
    have:=(List.getElem?_eq_some_iff.mp hq).1
    rw [List.length_singleton] at this
    omega
   rw [ei,ml,Nat.sub_self] at hq
   cases Option.some.inj hq
   rw [ei,hP]
   exact ⟨mr,md,tk _ _ w6 _,(mk6.upd e6 mr).upd d7 md⟩
 ·have c':¬ (k:Int) < (s:Int):=fun z=>c (decide_eq_true z)
  exact ⟨_,rfl,q r H' hr0 s3 ⟨ms,e3,by omega,fun i q0 hq=>(all i q0 hq).2.2⟩⟩
theorem Ga (T:Tx K mg ad):AO P w K mg base CX0 7 ad.f_Lists_counted ad.d_Lists_counted ["self","sheet"] (Ig ad.c_Lists):=by
 refine T.F_Lists_counted.ok Di (fun vs H Q E h=>?_) (fun cdv A outer s H vs Q E hr h=>?_)
 ·obtain ⟨a,l,h,s,st,u,v,ns,ls,rfl,_⟩:=h
  rfl
 obtain ⟨a,l,h,s,st,u,v,ns,ls,rfl,md,hl,g,l60,nl,q⟩:=h
 refine ⟨_,(@Ad _ _ _ _ _ (@Al _ _ (2) _ _ _ _ Di.nd rfl (Or.inl rfl) (@Ak _ _ _ _ _ _ _ _ _ _ _ _ _ _ _ _ (Gx T) (hr.mono (by decide)) rfl T.m_votes_of T.F_votes_of.kp T.b_votes_of .nil Ap (@Aa _ _ _ _ _ (pv 1) (@Aa _ _ _ _ _ (Bh (pv 0) rfl) Ac (by rfl)) (by rfl)) (by decide) (by rfl) (by rfl)) (by rfl) (by first | exact .inl rfl | exact .inr rfl | assumption)) (@Ad _ _ _ _ _ (@Al _ _ (3) _ _ _ _ Di.nd rfl (Or.inl rfl) (AE (pv 0) T.cl_Lists T.me_Lists_least_votes (Dl T) (hr.mono (by decide)) T.b_Lists_least_votes .nil Ap (@Aa _ _ _ _ _ (@Ak _ _ _ _ _ _ _ _ _ _ _ _ _ _ _ _ (DP T) (hr.mono (by decide)) rfl T.m_ballots_in T.F_ballots_in.kp T.b_ballots_in .nil Ap (@Aa _ _ _ _ _ (pv 1) Ac (by rfl)) (by decide) (by rfl) (by rfl)) Ac (by rfl))) (by rfl) (by first | exact .inl rfl | exact .inr rfl | assumption)) (@Ad _ _ _ _ _ (@AW _ _ _ _ _ _ _ _ (@Aq _ _ _ _ _ _ _ _ Eb (@Ax _ _ _ _ _ _ _ _ _ (IO rfl) (by rfl) T.z_max PyProof.Rows.boot_max (@Aa _ _ _ _ _ (E7 Pp (pv 2) FG (FH (Bh (pv 0) rfl))) Ac (by rfl)) (by decide) (by decide) (by rfl) (by rfl)) (pv 3) (Ar _)) (@Ah _ _ _ (@An _ _ _ _ (@AL _ _ _ _ _ (@Aa _ _ _ _ _ (pv 2) (@Aa _ _ _ _ _ (pv 3) (@Aa _ _ _ _ _ (@CT _ _ _ _ Ac) Ac (by rfl)) (by rfl)) (by rfl))))) Az) (@Ah _ _ _ (@An _ _ _ _ (@AL _ _ _ _ _ (@Aa _ _ _ _ _ (pv 2) (@Aa _ _ _ _ _ (pv 3) (@Aa _ _ _ _ _ (AE (pv 0) T.cl_Lists T.me_Lists_rounds_of (Fi T) (hr.mono (by decide)) T.b_Lists_rounds_of .nil Ap (@Aa _ _ _ _ _ (pv 2) (@Aa _ _ _ _ _ (pv 3) Ac (by rfl)) (by rfl))) Ac (by rfl)) (by rfl)) (by rfl)))))))),?_⟩
 obtain ⟨dx,la,t,k1,k2,k3⟩:=id md.is
 have h1:=md.h1
 have h12:=md.h12
 have v0:=md.v0
 have v9:=md.v9
 have u0:=md.u0
 have uv:=md.uv
 have tl:=FN nl
 have szt:Sz 64 (total ls):=Bp (by omega) (by omega)
 have szu:Sz 64 u:=Bp (by omega) (by omega)
 have szv:Sz 64 v:=Bp (by omega) (by omega)
 refine ⟨_,rfl,_,rfl,a,_,dx,_,_,rfl,k1,T.cl_Lists,T.na_Lists_hands,rfl,?_⟩
 refine ⟨l,ls,(h:Int),rfl,hl,(by rw [Int.toNat_natCast];exact g),by omega,by omega,fun vv H1 hvv s1 e1=>?_⟩
 rw [Int.toNat_natCast] at e1
 refine ⟨_,rfl,a,dx,_,rfl,s1 _ _ k1,rfl,_,rfl,l,ls,h,rfl,s1 _ _ hl,g.same s1,l60,fun H2 s2=>?_⟩
 have s12:=s1.trans s2
 refine ⟨a,h,s,st,u,v,ns,total ls,rfl,md.is.same s12,v0,szu,szv,szt,?_⟩
 show DT 3 (V.int (Aj u v ls)) _ H2 _
 have sn:=md.sane nl l60
 have tlen:=EM h ls
 generalize Aj u v ls=L at sn q ⊢
 generalize Au h ls=xs at e1 sn tlen q ⊢
 have e2:=s2 _ _ e1
 and_intros
 refine ⟨a,_,dx,_,_,rfl,s12 _ _ k1,T.cl_Lists,T.na_Lists_hands,rfl,?_⟩
 refine ⟨_,rfl,vv,_,rfl,SqL.of e2,fun c hc=>?_⟩
 rw [N5,<- List.map_take]
 have s3:=Ag hc (.lst ((xs.take h).map V.int))
 have e3:(upd H2 c (.lst ((xs.take h).map V.int))) c=some (.lst ((xs.take h).map V.int)):=Ae
 generalize upd H2 c (.lst ((xs.take h).map V.int))=H3 at s3 e3 ⊢
 have s13:=s12.trans s3
 refine ⟨c,_,rfl,SqL.of e3,(by rw [List.length_take];omega),fun M Mm Ma=>?_⟩
 have get:∀j < h,xs.getD j 0∈xs.take h:=fun j hj=>by
  rw [List.getD_eq_getElem?_getD,List.getElem?_eq_getElem (by omega)]
  exact List.mem_of_getElem? (i:=j) (by rw [List.getElem?_take,if_pos hj,List.getElem?_eq_getElem (by omega)];rfl)
 have few:M < L↔A6 xs ns L=[]:=by
  rw [DY md.pm]
  constructor
  ·intro z j hj
   have:=Ma _ (get j hj)
   omega
  ·intro z
   obtain ⟨j,hj⟩:=List.getElem?_of_mem Mm
   have jl:=(List.getElem?_eq_some_iff.mp hj).1
   rw [List.length_take] at jl
   have:=z j (by omega)
   rw [List.getD_eq_getElem?_getD] at this
   rw [List.getElem?_take,if_pos (by omega)] at hj
   rw [hj] at this
   exact this
 and_intros
 by_cases cM:M < L
 ·refine ifT (decide_eq_true cM) ?_
  have mz:many xs ns L s=0:=if_pos (few.mp cM)
  and_intros
  refine ⟨(by show 0<=sizeLine;decide),fun r hr0=>?_⟩
  have s4:=Ag hr0 (.lst [])
  have e4:(upd H3 r (.lst [])) r=some (.lst []):=Ae
  generalize upd H3 r (.lst [])=H4 at s4 e4 ⊢
  refine ⟨(by show 3<=sizeLine;decide),fun p hp=>?_⟩
  have s5:=Ag hp (.tup [V.ref vv,V.int L,V.ref r])
  refine q p _ (none_of (s13.trans s4) hp) ((s13.trans s4).trans s5) ⟨vv,r,Ae,((s3.trans s4).trans s5) _ _ e2,?_⟩
  rw [mz]
  exact ⟨[],s5 _ _ e4,rfl,fun i q0 e=>by cases e⟩
 ·refine ifF (decide_eq_false cM) ?_
  have ne:A6 xs ns L≠[]:=fun z=>cM (few.mpr z)
  have mz:many xs ns L s=s:=if_neg ne
  and_intros
  refine ⟨a,dx,_,rfl,s13 _ _ k1,rfl,?_⟩
  and_intros
  refine ⟨a,vv,h,s,st,u,v,ns,xs,L,rfl,md.is.same s13,sn,s3 _ _ e2,ne,fun r H4 hr0 s4 rr=>?_⟩
  refine ⟨(by show 3<=sizeLine;decide),fun p hp=>?_⟩
  have s5:=Ag hp (.tup [V.ref vv,V.int L,V.ref r])
  refine q p _ (none_of (s13.trans s4) hp) ((s13.trans s4).trans s5) ⟨vv,r,Ae,((s3.trans s4).trans s5) _ _ e2,?_⟩
  rw [mz]
  exact rr.same s5
theorem Cf (T:Tx K mg ad):AO P w K mg base CX0 8 ad.f_Way_outcome ad.d_Way_outcome ["self","sheet"] (Jh ad.c_Lists):=by
 refine T.F_Way_outcome.ok HY (fun vs H Q E h=>?_) (fun cdv A outer s H vs Q E hr h=>?_)
 ·obtain ⟨a,l,h,s,st,u,v,ns,ls,rfl,_⟩:=h
  rfl
 obtain ⟨a,l,h,s,st,u,v,ns,ls,rfl,md,hl,g,l60,nl,q⟩:=h
 refine ⟨_,(@Ah _ _ _ (@An _ _ _ _ (AE (pv 0) T.cl_Lists T.me_Lists_told_by (Gb T) (hr.mono (by decide)) T.b_Lists_told_by .nil Ap (@Aa _ _ _ _ _ (AE (pv 0) T.cl_Lists T.me_Lists_counted (Ga T) (hr.mono (by decide)) T.b_Lists_counted .nil Ap (@Aa _ _ _ _ _ (pv 1) Ac (by rfl))) Ac (by rfl))))),?_⟩
 obtain ⟨dx,la,t,k1,k2,k3⟩:=id md.is
 refine ⟨_,rfl,a,dx,_,rfl,k1,rfl,?_⟩
 refine ⟨_,rfl,a,dx,_,rfl,k1,rfl,_,rfl,a,l,h,s,st,u,v,ns,ls,rfl,md,hl,g,l60,nl,fun p H1 hp s1 pp=>?_⟩
 exact ⟨a,p,h,s,st,u,v,ns,_,_,rfl,md.is.same s1,md.sane nl l60,pp,fun r H2 hr s2 e2=>q r H2 (none_of s1 hr) (s1.trans s2) e2⟩
theorem Cg (T:Tx K mg ad):AO P w K mg base CX0 9 ad.f_law_another ad.d_law_another ["_law_way_here","_law_sheet_here","_law_change","_law_low","_law_seats"] (G5 ad.c_Lists):=by
 refine T.F_law_another.ok EB (fun vs H Q E h=>?_) (fun cdv A outer s H vs Q E hr h=>?_)
 ·obtain ⟨a,l,r,sl,so,h,s',st,u,v,low,ns,ls,rs,c,rfl,_⟩:=h
  rfl
 obtain ⟨a,l,r,sl,so,h,s',st,u,v,low,ns,ls,rs,c,rfl,md,hl,gl,l124,num,nds,chg,t1,l1,l9,mc,cin,cm,hso,q⟩:=h
 refine ⟨_,(@Ad _ _ _ _ _ (@Al _ _ (5) _ _ _ _ EB.nd rfl (Or.inl rfl) (@Ak _ _ _ _ _ _ _ _ _ _ _ _ _ _ _ _ (Hk T) (hr.mono (by decide)) rfl T.m_law_changed T.F_law_changed.kp T.b_law_changed .nil Ap (@Aa _ _ _ _ _ (pv 1) (@Aa _ _ _ _ _ (pv 2) (@Aa _ _ _ _ _ (pv 3) (@Aa _ _ _ _ _ (Bh (pv 0) rfl) Ac (by rfl)) (by rfl)) (by rfl)) (by rfl)) (by decide) (by rfl) (by rfl)) (by rfl) (by first | exact .inl rfl | exact .inr rfl | assumption)) (@Ah _ _ _ (@An _ _ _ _ (@D9 _ _ _ _ _ _ _ (@C3 _ _ _ _ _ _ _ _ FB (pv 5) B8 (Ar _)) (@DA _ _ _ _ _ (@C3 _ _ _ _ _ _ _ _ (Fk (K:=K) hr.units) (AE (pv 0) T.cl_Lists T.me_Lists_outcome (Cf T) (hr.mono (by decide)) T.b_Way_outcome .nil Ap (@Aa _ _ _ _ _ (pv 5) Ac (by rfl))) (pv 4) (Ar _))))))),?_⟩
 have tn:=chg.turn (fun q m=>(num q m).1) md.u0 md.uv md.v0 t1 l1 mc cin cm
 obtain ⟨dx,la,ta,k1,k2,k3⟩:=id md.is
 subst_eqs
 refine ⟨a,_,dx,_,_,rfl,k1,T.cl_Lists,T.na_Lists_hands,rfl,?_⟩
 subst_eqs
 refine ⟨l,r,sl,h,ls,rs,c,low,rfl,hl,gl,l124,num,nds,chg,tn.fresh,tn.sc,tn.sum,l9,md.h12,fun b ms H1 s1 eb gb b125 nb sm=>?_⟩
 have k11:=s1 _ _ k1
 subst_eqs
 refine ⟨a,dx,_,rfl,k11,rfl,?_⟩
 subst_eqs
 refine ⟨a,b,h,s',st,u,v,ns,ms,rfl,md.same s1,eb,gb,b125,nb,fun o H2 ho s2 eo=>?_⟩
 subst_eqs
 refine ⟨.list ((A8 ms ns u v st h s').map .int),.list ((A8 ls ns u v st h s').map .int),.lst (SqL.of eo) (.ints _),.lst (SqL.of ((s1.trans s2) _ _ hso)) (.ints _),(CD _).2,(CD _).2,?_⟩
 rw [show PyData.eqv (.list ((A8 ms ns u v st h s').map .int)) (.list ((A8 ls ns u v st h s').map .int))=false from (E4 _ _).trans (decide_eq_false (LM tn md.pm md.st1 md.s1 cin cm sm))]
 subst_eqs
 exact q H2 (s1.trans s2)
theorem DZ (T:Tx K mg ad):AO P w K mg base CX0 9 ad.f_ListsMargin_cases_of ad.d_ListsMargin_cases_of ["self","sheet"] (Mx ad.c_ListsMargin ad.c_Lists):=by
 refine T.F_ListsMargin_cases_of.ok AI (fun vs H Q E h=>?_) (fun cdv A outer s H vs Q E hr h=>?_)
 ·obtain ⟨g,a,l,h,s,st,u,v,ns,ls,rfl,_⟩:=h
  rfl
 obtain ⟨g,a,l,h,s,st,u,v,ns,ls,rfl,im,md,hl,gl,l60,nl,q⟩:=h
 refine ⟨_,(@Ad _ _ _ _ _ (@Al _ _ (2) _ _ _ _ AI.nd rfl (Or.inr rfl) (@Ak _ _ _ _ _ _ _ _ _ _ _ _ _ _ _ _ (Gx T) (hr.mono (by decide)) rfl T.m_votes_of T.F_votes_of.kp T.b_votes_of .nil Ap (@Aa _ _ _ _ _ (pv 1) (@Aa _ _ _ _ _ (Bh (Bh (pv 0) rfl) rfl) Ac (by rfl)) (by rfl)) (by decide) (by rfl) (by rfl)) (by rfl) (by first | exact .inl rfl | exact .inr rfl | assumption)) (@Ad _ _ _ _ _ (@Al _ _ (3) _ _ _ _ AI.nd rfl (Or.inr rfl) (AE (Bh (pv 0) rfl) T.cl_Lists T.me_Lists_least_votes (Dl T) (hr.mono (by decide)) T.b_Lists_least_votes .nil Ap (@Aa _ _ _ _ _ (@Ak _ _ _ _ _ _ _ _ _ _ _ _ _ _ _ _ (DP T) (hr.mono (by decide)) rfl T.m_ballots_in T.F_ballots_in.kp T.b_ballots_in .nil Ap (@Aa _ _ _ _ _ (pv 1) Ac (by rfl)) (by decide) (by rfl) (by rfl)) Ac (by rfl))) (by rfl) (by first | exact .inl rfl | exact .inr rfl | assumption)) (@Ad _ _ _ _ _ (@Al _ _ (4) _ _ _ _ AI.nd rfl (Or.inl rfl) (AE (Bh (pv 0) rfl) T.cl_Lists T.me_Lists_outcome (Cf T) (hr.mono (by decide)) T.b_Way_outcome .nil Ap (@Aa _ _ _ _ _ (pv 1) Ac (by rfl))) (by rfl) (by first | exact .inl rfl | exact .inr rfl | assumption)) (@Ad _ _ _ _ _ (@AW _ _ _ _ _ _ _ _ (@Aq _ _ _ _ _ _ _ _ CF (@Ax _ _ _ _ _ _ _ _ _ (IO rfl) (by rfl) T.z_max PyProof.Rows.boot_max (@Aa _ _ _ _ _ (pv 4) Ac (by rfl)) (by decide) (by decide) (by rfl) (by rfl)) Ab (Ar _)) (@Ah _ _ _ (@An _ _ _ _ (Cd (fsc:=Af AC) (N:=["self","sheet","votes","least","outcome","cases","b"]) (Nc:=["self","sheet","votes","least","outcome","cases","b","a"]) rfl rfl ⟨rfl,by decide +kernel,by decide +kernel,rfl,by decide +kernel,rfl,by decide +kernel,rfl,by decide +kernel⟩ rfl (BU rfl T.z_range (@Aa _ _ _ _ _ (Bh (Bh (pv 0) rfl) rfl) Ac (by rfl))) (fun _ _ _ _=>C4) (fun _ _ _ _=>(@AL _ _ _ _ _ (@Aa _ _ _ _ _ Hu (@Aa _ _ _ _ _ B8 (@Aa _ _ _ _ _ (pv 7) (@Aa _ _ _ _ _ (@Ai _ _ _ _ _ _ _ _ Cb (pv 3) (@At _ _ _ _ _ _ _ (Fx K) (pv 2) (pv 7) (fun _ _=>rfl))) Ac (by rfl)) (by rfl)) (by rfl)) (by rfl))))))) Az) (@Ad _ _ _ _ _ (@Al _ _ (5) _ _ _ _ AI.nd rfl (Or.inl rfl) (@CT _ _ _ _ Ac) (by rfl) (by first | exact .inl rfl | exact .inr rfl | assumption)) (@Ad _ _ _ _ _ (Es PassesOwn.never rfl (BU rfl T.z_range (@Aa _ _ _ _ _ (Bh (Bh (pv 0) rfl) rfl) Ac (by rfl))) (Ce (i:=6) AI.nd rfl (Or.inl rfl)) (@Ah _ _ _ (@AW _ _ _ _ _ _ _ _ (@Aq _ _ _ _ _ _ _ _ Ho (@At _ _ _ _ _ _ _ Ba (pv 4) (pv 6) (fun _ _=>rfl)) Ab (Ar _)) (@Ah _ _ _ (@Er _ _ _ _ (Ht PySem.F.plainAttrs_list PySem.F.slot_list_extend PySem.F.type_list_extend MX (pv 5) (@Aa _ _ _ _ _ (AE (pv 0) T.cl_ListsMargin T.me_ListsMargin_cases_of_hand (Dq T) (hr.mono (by decide)) T.b_ListsMargin_cases_of_hand .nil Ap (@Aa _ _ _ _ _ (pv 2) (@Aa _ _ _ _ _ (pv 4) (@Aa _ _ _ _ _ (pv 3) (@Aa _ _ _ _ _ (pv 6) Ac (by rfl)) (by rfl)) (by rfl)) (by rfl))) Ac (by rfl))) (by rfl))) Az))) (@Ah _ _ _ (@An _ _ _ _ (pv 5))))))))),?_⟩
 obtain ⟨dm,hg⟩:=id im
 obtain ⟨dx,la,t,k1,k2,k3⟩:=id md.is
 have h1:=md.h1
 have h12:=md.h12
 have sn:=md.sane nl l60
 have tl:=FN nl
 have szt:Sz 64 (total ls):=Bp (by omega) (by omega)
 have v9:=md.v9
 have u0:=md.u0
 have uv:=md.uv
 have szu:Sz 64 u:=Bp (by omega) (by omega)
 have szv:Sz 64 v:=Bp (by omega) (by omega)
 and_intros
 refine ⟨g,_,dm,_,_,rfl,hg,T.cl_ListsMargin,T.na_ListsMargin_way,rfl,?_⟩
 refine ⟨a,_,dx,_,_,rfl,k1,T.cl_Lists,T.na_Lists_hands,rfl,?_⟩
 and_intros
 refine ⟨l,ls,(h:Int),rfl,hl,(by rw [Int.toNat_natCast];exact gl),by omega,by omega,fun vv H1 hvv s1 e1=>?_⟩
 rw [Int.toNat_natCast] at e1
 and_intros
 refine ⟨g,_,dm,_,_,rfl,s1 _ _ hg,T.cl_ListsMargin,T.na_ListsMargin_way,rfl,?_⟩
 refine ⟨a,dx,_,rfl,s1 _ _ k1,rfl,?_⟩
 and_intros
 refine ⟨l,ls,h,rfl,s1 _ _ hl,gl.same s1,l60,fun H2 s2=>?_⟩
 have s12:=s1.trans s2
 refine ⟨a,h,s,st,u,v,ns,total ls,rfl,md.is.same s12,md.v0,szu,szv,szt,?_⟩
 show DT 3 (V.int (Aj u v ls)) _ H2 _
 and_intros
 refine ⟨g,_,dm,_,_,rfl,s12 _ _ hg,T.cl_ListsMargin,T.na_ListsMargin_way,rfl,?_⟩
 refine ⟨a,dx,_,rfl,s12 _ _ k1,rfl,?_⟩
 and_intros
 refine ⟨a,l,h,s,st,u,v,ns,ls,rfl,md.same s12,s12 _ _ hl,gl.same s12,l60,nl,fun oo H3 hoo s3 e3=>?_⟩
 have s13:=s12.trans s3
 have nm:PX (Au h ls) (A8 ls ns u v st h s) h:=⟨by rw [EM];omega,BG ..,Lf nl l60,JH sn⟩
 have v3:=(s2.trans s3) _ _ e1
 generalize Aj u v ls=L at q ⊢
 generalize Au h ls=xs at nm v3 q ⊢
 generalize A8 ls ns u v st h s=out at nm e3 q ⊢
 have ol:=nm.ol
 have vl:=nm.vl
 and_intros
 refine ⟨oo,_,rfl,SqL.of e3,by omega,fun M Mm Ma=>?_⟩
 have few:M=0↔AV out h=[]:=by
  constructor
  ·intro z
   refine List.filter_eq_nil_iff.mpr fun b bm=>?_
   have bh:=List.mem_range.mp bm
   have:=Ma (out.getD b 0) (by rw [List.getD_eq_getElem?_getD,List.getElem?_eq_getElem (by omega)];exact List.getElem_mem _)
   rw [decide_eq_false (by omega)]
   exact Bool.false_ne_true
  ·intro z
   obtain ⟨j,hj⟩:=List.getElem?_of_mem Mm
   have jl:=(List.getElem?_eq_some_iff.mp hj).1
   have gj:out.getD j 0=M:=by rw [List.getD_eq_getElem?_getD,hj];rfl
   have b0:=nm.ob j
   rcases (by omega:M=0\/0 < M) with w' | w'
   ·exact w'
   ·have:j∈AV out h:=List.mem_filter.mpr ⟨List.mem_range.mpr (by omega),decide_eq_true (by omega)⟩
    rw [z] at this
    cases this
 and_intros
 by_cases c0:M=0
 ·refine ifT (Kj c0) ?_
  rw [show AF xs out ns st L h=Jc xs L h from if_pos (few.mp c0)] at q
  and_intros
  refine ⟨g,_,dm,_,_,rfl,s13 _ _ hg,T.cl_ListsMargin,T.na_ListsMargin_way,rfl,?_⟩
  refine ⟨a,_,dx,_,_,rfl,s13 _ _ k1,T.cl_Lists,T.na_Lists_hands,rfl,?_⟩
  and_intros
  refine ⟨by omega,by omega,?_⟩
  rw [Int.toNat_natCast]
  refine C6 (Bu (by omega)) (fun D i ys J=>∃cs:CL,ys=vcl cs/\cs.length=i/\J D=some (.lst ys)/\A0 H3 J/\BI J cs/\Db cs=Jc xs L i) (fun D hD=>⟨[],rfl,rfl,Ae,Ag hD _,(fun _ m=>nomatch m),rfl⟩) (fun D i ys J ⟨cs,f1,f2,f3,_⟩=>⟨f3,by rw [f1,EQ,f2];exact Nat.le_refl _⟩) ?_ ?_
  ·rintro D i ys J K1 K2 hD hi ⟨cs,rfl,f2,f3,f4,f5,f6⟩ kk1 kk2
   refine yes (ifT rfl ?_)
   and_intros
   refine ⟨vv,_,_,_,rfl,rfl,SqL.of (f4 _ _ v3),(by rw [Int.zero_add];exact atG (by omega)),?_⟩
   and_intros
   refine ⟨(by show 4<=sizeLine;decide),fun t1 ht1=>?_⟩
   rw [Int.zero_add]
   dsimp only
   have s4:=Ag ht1 (.tup [V.str "rise",V.non,V.int (i:Int),V.int (L - xs.getD i 0)])
   have e4:(upd J t1 (.tup [V.str "rise",V.non,V.int (i:Int),V.int (L - xs.getD i 0)])) t1=some (.tup (cv (2,none,some (i:Int),L - xs.getD i 0))):=Ae
   generalize upd J t1 (.tup [V.str "rise",V.non,V.int (i:Int),V.int (L - xs.getD i 0)])=J1 at s4 e4 ⊢
   refine kk1 _ _ (s4 _ _ f3) ⟨cs++[(t1,(2,none,some (i:Int),L - xs.getD i 0))],by rw [Fo];rfl,by rw [List.length_append,f2];rfl,Ae,AB (f4.trans s4) hD,BI.upd (s4 _ _ f3) ((f5.same s4).append (fun q m=>by rw [List.mem_singleton.mp m];exact e4)),?_⟩
   rw [DI,f6]
   unfold Jc
   rw [List.range_succ,List.map_append]
   rfl
  ·rintro D ys J hD ⟨cs,rfl,f2,f3,f4,f5,f6⟩
   exact q D cs J (none_of s13 hD) (s13.trans f4) f3 f5 f6
 ·refine ifF (Ki c0) ?_
  rw [show AF xs out ns st L h=(AV out h).flatMap (ES xs out ns st L h) from if_neg (fun z=>c0 (few.mpr z))] at q
  and_intros
  refine ⟨(by show 0<=sizeLine;decide),fun c hc=>?_⟩
  have s4:=Ag hc (.lst [])
  have e4:(upd H3 c (.lst [])) c=some (.lst []):=Ae
  generalize upd H3 c (.lst [])=H4 at s4 e4 ⊢
  have s14:=s13.trans s4
  have hcH:=none_of s13 hc
  have v4:=s4 _ _ v3
  have o4:=s4 _ _ e3
  and_intros
  refine ⟨g,_,dm,_,_,rfl,s14 _ _ hg,T.cl_ListsMargin,T.na_ListsMargin_way,rfl,?_⟩
  refine ⟨a,_,dx,_,_,rfl,s14 _ _ k1,T.cl_Lists,T.na_Lists_hands,rfl,?_⟩
  and_intros
  refine ⟨by omega,by omega,ED (fun k σ' J=>∃(v5:Option V) (cs:CL),σ'=[some (.ref g),some (.ref l),some (.ref vv),some (.int L),some (.ref oo),some (.ref c),v5]/\A0 H J/\A0 H3 J/\J c=some (.lst (vcl cs))/\BI J cs/\Db cs=(AV out k).flatMap (ES xs out ns st L h)) ⟨none,[],rfl,s14,s4,e4,(fun _ m=>nomatch m),rfl⟩ ?_ ?_⟩
  ·rintro k σ' J hk ⟨v5,cs,rfl,sJ,sJ3,eC,gC,dC⟩
   rw [Int.toNat_natCast] at hk
   have cl:cs.length<=13*12:=by
    have:=congrArg List.length dC
    rw [E3] at this
    have a1:=GU (f:=ES xs out ns st L h) (m:=13) (bs:=AV out k) fun b _=>Nat.le_trans (FT ..) (by omega)
    have a2:=Ia out k
    have:13*(AV out k).length<=13*12:=Nat.mul_le_mul_left _ (by omega)
    omega
   have v5':=sJ3 _ _ v3
   have o5:=sJ3 _ _ e3
   and_intros
   refine ⟨oo,_,_,_,rfl,rfl,SqL.of o5,(by rw [Int.zero_add];exact atG (by omega)),?_⟩
   and_intros
   by_cases p:0 < out.getD k 0
   ·refine ifT (decide_eq_true p) ?_
    and_intros
    refine ⟨.inl ⟨rfl,_,SqL.of eC⟩,?_⟩
    and_intros
    refine ⟨g,dm,_,rfl,sJ _ _ hg,rfl,?_⟩
    and_intros
    refine ⟨g,a,vv,oo,h,s,st,u,v,L,ns,xs,out,k,(by show [_,_,_,_,V.int (0+(k:Int))]=_;rw [Int.zero_add]),im.same sJ,md.same sJ,v5',o5,nm,hk,p,fun c2 ds J1 hc2 s5 e5 g5 d5=>?_⟩
    have eC1:=s5 _ _ eC
    have dl:ds.length<=13:=by
     have:=congrArg List.length d5
     rw [E3] at this
     have a1:=FT xs out ns st L h k
     omega
    refine ⟨c,c2,_,_,rfl,rfl,eC1,e5,(by rw [EQ,EQ];exact KL (by omega)),?_⟩
    refine ⟨_,cs++ds,rfl,AB (sJ.trans s5) hcH,AB (sJ3.trans s5) hc,(by rw [Ae,Fo]),BI.upd eC1 ((gC.same s5).append g5),?_⟩
    rw [DI,dC,d5,G3,if_pos p,List.flatMap_append,List.flatMap_cons,List.flatMap_nil,List.append_nil]
   ·refine ifF (decide_eq_false p) ?_
    exact ⟨_,cs,rfl,sJ,sJ3,eC,gC,by rw [G3,if_neg p,List.append_nil];exact dC⟩
  ·rintro σ' J ⟨v5,cs,rfl,sJ,sJ3,eC,gC,dC⟩
   rw [Int.toNat_natCast] at dC
   exact ⟨_,rfl,q c cs J hcH sJ eC gC dC⟩
theorem B4 (T:Tx K mg ad):AO P w K mg base CX0 10 ad.f_ListsMargin_least ad.d_ListsMargin_least ["self","sheet"] (KS ad.c_ListsMargin ad.c_Lists):=by
 refine T.F_ListsMargin_least.ok Do (fun vs H Q E h=>?_) (fun cdv A outer s H vs Q E hr h=>?_)
 ·obtain ⟨g,a,l,h,s,st,u,v,ns,ls,rfl,_⟩:=h
  rfl
 obtain ⟨g,a,l,h,s,st,u,v,ns,ls,rfl,im,md,hl,gl,l60,nl,q⟩:=h
 refine ⟨_,(@Ad _ _ _ _ _ (@Al _ _ (2) _ _ _ _ Do.nd rfl (Or.inl rfl) (AE (pv 0) T.cl_ListsMargin T.me_ListsMargin_cases_of (DZ T) (hr.mono (by decide)) T.b_ListsMargin_cases_of .nil Ap (@Aa _ _ _ _ _ (pv 1) Ac (by rfl))) (by rfl) (by first | exact .inl rfl | exact .inr rfl | assumption)) (@Ah _ _ _ (@An _ _ _ _ (@AL _ _ _ _ _ (@Aa _ _ _ _ _ (@Ax _ _ _ _ _ _ _ _ _ (MC rfl) (by rfl) T.z_min PyProof.Rows.boot_min (@Aa _ _ _ _ _ (Cd (fsc:=Af AQ) (N:=["self","sheet","cases"]) (Nc:=["self","sheet","cases","case"]) rfl rfl ⟨rfl,by decide +kernel,by decide +kernel,rfl,by decide +kernel,rfl,by decide +kernel,rfl,by decide +kernel⟩ rfl (BD (pv 2)) (fun _ _ _ _=>C4) (fun _ _ _ _=>(@At _ _ _ _ _ _ _ (EF K) (pv 3) Ab (fun _ _=>rfl)))) Ac (by rfl)) (by decide) (by decide) (by rfl) (by rfl)) (@Aa _ _ _ _ _ (pv 2) Ac (by rfl)) (by rfl)))))),?_⟩
 obtain ⟨dm,hg⟩:=id im
 have sn:=md.sane nl l60
 have po:=ME sn
 have ne:=N1 (vs:=Au h ls) (out:=A8 ls ns u v st h s) (xs:=ns) (st:=st) (l:=Aj u v ls) md.h1
 have h12:=md.h12
 and_intros
 refine ⟨g,dm,_,rfl,hg,rfl,?_⟩
 and_intros
 refine ⟨g,a,l,h,s,st,u,v,ns,ls,rfl,im,md,hl,gl,l60,nl,fun c cs H1 hc s1 e1 g1 d1=>?_⟩
 have cl:cs.length<=13*12:=by
  have:=congrArg List.length d1
  rw [E3] at this
  rw [this]
  unfold AF
  split
  ·unfold Jc
   rw [List.length_map,List.length_range]
   omega
  ·have a1:=GU (f:=ES (Au h ls) (A8 ls ns u v st h s) ns st (Aj u v ls) h) (m:=13) (bs:=AV (A8 ls ns u v st h s) h) fun b _=>Nat.le_trans (FT ..) (by omega)
   have a2:=Ia (A8 ls ns u v st h s) h
   have:13*(AV (A8 ls ns u v st h s) h).length<=13*12:=Nat.mul_le_mul_left _ (by omega)
   omega
 rw [<- d1] at po ne
 and_intros
 refine ⟨⟨_,SqL.of e1⟩,?_⟩
 refine BF (xs:=vcl cs) (by rw [EQ];exact KL (by omega)) (fun D i ys J=>ys=((Db (cs.take i)).map (·.2.2.2)).map V.int/\J=upd H1 D (.lst ys)) (fun D hD=>⟨rfl,rfl⟩) (fun D i ys J ⟨f1,f2⟩=>⟨by rw [f2];exact Ae,by rw [f1,List.length_map,List.length_map,E3];exact List.length_take_le _ _⟩) (fun D i ys J hD ⟨_,f2⟩=>by rw [f2];exact SqL.of (Ag hD _ _ _ e1)) ?_ ?_
 ·rintro D i y ys J K1 K2 hD hy ⟨f1,rfl⟩ kk1 kk2
  obtain ⟨f,hf,rfl,fm,et⟩:=P5 hy
  refine yes (ifT rfl ?_)
  refine ⟨_,rfl,f.1,_,_,_,rfl,rfl,SqT.of (Ag hD _ _ _ (g1 f fm)),rfl,?_⟩
  refine kk1 _ _ Ae ⟨?_,by rw [CY]⟩
  rw [f1,et,DI,List.map_append,List.map_append]
  rfl
 rintro D ys J hD ⟨rfl,rfl⟩
 rw [EQ,List.take_length]
 have s2:=Ag hD (.lst (((Db cs).map (·.2.2.2)).map V.int))
 have e2:(upd H1 D (.lst (((Db cs).map (·.2.2.2)).map V.int))) D=some (.lst (((Db cs).map (·.2.2.2)).map V.int)):=Ae
 generalize upd H1 D (.lst (((Db cs).map (·.2.2.2)).map V.int))=H2 at s2 e2 ⊢
 refine ⟨D,_,rfl,SqL.of e2,(by rw [List.length_map];exact List.length_pos_iff.mpr ne),fun m mm ma=>?_⟩
 and_intros
 refine ⟨(by show 2<=sizeLine;decide),fun t ht=>?_⟩
 have s3:=Ag ht (.tup [V.int m,V.ref c])
 have s13:=(s1.trans s2).trans s3
 refine q t c cs m _ hc s13 Ae ((s2.trans s3) _ _ e1) (g1.same (s2.trans s3)) d1 ⟨mm,fun c cm=>ma _ (List.mem_map.mpr ⟨c,cm,rfl⟩)⟩ ?_ (fun z=>ne (by rw [z];rfl)) cl
 obtain ⟨c,cm,ce⟩:=List.mem_map.mp mm
 rw [<- ce]
 exact po c cm
theorem Cu (T:Tx K mg ad):AO P w K mg base CX0 11 ad.f_ListsMargin_high ad.d_ListsMargin_high ["self","sheet"] (O5 ad.c_ListsMargin ad.c_Lists):=by
 refine T.F_ListsMargin_high.ok Cv (fun vs H Q E h=>?_) (fun cdv A outer s H vs Q E hr h=>?_)
 ·obtain ⟨g,a,l,h,s',st,u,v,ns,ls,rfl,_⟩:=h
  rfl
 obtain ⟨g,a,l,h,s',st,u,v,ns,ls,rfl,im,md,hl,gl,l125,nl,q⟩:=h
 refine ⟨_,(@Ad _ _ _ _ _ (@Al _ _ (2) _ _ _ _ Cv.nd rfl (Or.inr rfl) (AE (pv 0) T.cl_ListsMargin T.me_ListsMargin_least (B4 T) (hr.mono (by decide)) T.b_ListsMargin_least .nil Ap (@Aa _ _ _ _ _ (pv 1) Ac (by rfl))) (by rfl) (by first | exact .inl rfl | exact .inr rfl | assumption)) (@Ad _ _ _ _ _ (@Al _ _ (3) _ _ _ _ Cv.nd rfl (Or.inl rfl) (@At _ _ _ _ _ _ _ Ba (Cd (fsc:=Af AX) (N:=["self","sheet","least","first"]) (Nc:=["self","sheet","least","first","case"]) rfl rfl ⟨rfl,by decide +kernel,by decide +kernel,rfl,by decide +kernel,rfl,by decide +kernel,rfl,by decide +kernel⟩ rfl (BD (@At _ _ _ _ _ _ _ Aw (pv 2) Ab (fun _ _=>rfl))) (fun _ _ _ _=>(Ep (@Aq _ _ _ _ _ _ _ _ CF (@At _ _ _ _ _ _ _ (EF K) (pv 4) Ab (fun _ _=>rfl)) (@At _ _ _ _ _ _ _ (EF K) (pv 2) Ab (fun _ _=>rfl)) (Ar _)))) (fun _ _ _ _=>(pv 4))) Ab (fun _ _=>rfl)) (by rfl) (by first | exact .inl rfl | exact .inr rfl | assumption)) (@Ah _ _ _ (@An _ _ _ _ (@AL _ _ _ _ _ (@Aa _ _ _ _ _ (@At _ _ _ _ _ _ _ Aw (pv 2) Ab (fun _ _=>rfl)) (@Aa _ _ _ _ _ (AE (pv 0) T.cl_ListsMargin T.me_ListsMargin_change_for (DF T) (hr.mono (by decide)) T.b_ListsMargin_change_for .nil Ap (@Aa _ _ _ _ _ (pv 1) (@Aa _ _ _ _ _ (@At _ _ _ _ _ _ _ Aw (pv 3) Ab (fun _ _=>rfl)) (@Aa _ _ _ _ _ (@At _ _ _ _ _ _ _ Aw (pv 3) Ab (fun _ _=>rfl)) (@Aa _ _ _ _ _ (@At _ _ _ _ _ _ _ Aw (pv 3) Ab (fun _ _=>rfl)) (@Aa _ _ _ _ _ (@At _ _ _ _ _ _ _ Aw (pv 3) Ab (fun _ _=>rfl)) Ac (by rfl)) (by rfl)) (by rfl)) (by rfl)) (by rfl))) (@Aa _ _ _ _ _ B8 Ac (by rfl)) (by rfl)) (by rfl))))))),?_⟩
 obtain ⟨dm,hg⟩:=id im
 and_intros
 refine ⟨g,dm,_,rfl,hg,rfl,?_⟩
 and_intros
 refine ⟨g,a,l,h,s',st,u,v,ns,ls,rfl,im,md,hl,gl,l125,nl,fun t c cs m H1 nc s1 et ec gc ecs mc m1 cne c156=>?_⟩
 have vl:(vcl cs).length=cs.length:=List.length_map ..
 have pt:=et
 and_intros
 refine ⟨⟨_,SqL.of ec⟩,?_⟩
 refine BF (xs:=vcl cs) (by rw [vl];exact Bu (by omega)) (fun D i ys J=>ys=vcl ((cs.take i).filter fun q=>decide (q.2.2.2.2=m))/\J D=some (.lst ys)/\A0 H1 J) (fun D hD=>⟨rfl,Ae,Ag hD _⟩) (fun D i ys J hq=>by
  obtain ⟨f1,f2,_⟩:=hq
  refine ⟨f2,?_⟩
  rw [f1]
  unfold vcl
  rw [List.length_map]
  exact Nat.le_trans (List.length_filter_le ..) (List.length_take_le _ _)) (fun D i ys J hD hq=>by
  obtain ⟨_,_,f3⟩:=hq
  exact SqL.of (f3 _ _ ec)) ?_ ?_
 ·rintro D i x ys J K1 K2 hD hx ⟨f1,f2,f3⟩ kk1 kk2
  unfold vcl at hx
  rw [List.getElem?_map] at hx
  obtain ⟨f,hf,rfl⟩:=Option.map_eq_some_iff.mp hx
  have gf:=f3 _ _ (gc f (List.mem_of_getElem? hf))
  have etJ:=f3 _ _ et
  have ef:(cs.take (i+1)).filter (fun q=>decide (q.2.2.2.2=m))=(cs.take i).filter (fun q=>decide (q.2.2.2.2=m))++if f.2.2.2.2=m then [f] else []:=by
   rw [List.take_succ,hf,List.filter_append]
   congr 1
   by_cases k:f.2.2.2.2=m
   ·rw [if_pos k]
    exact List.filter_cons_of_pos (p:=fun q:Addr × Cs=>decide (q.2.2.2.2=m)) (a:=f) (l:=[]) (decide_eq_true k)
   ·rw [if_neg k]
    exact List.filter_cons_of_neg (p:=fun q:Addr × Cs=>decide (q.2.2.2.2=m)) (a:=f) (l:=[]) (fun z=>k (of_decide_eq_true z))
  unfold cv at gf
  and_intros
  by_cases k:f.2.2.2.2=m
  ·refine ifT (Kj k) ?_
   and_intros
   exact kk1 _ _ f2 ⟨by rw [ef,if_pos k,f1];unfold vcl;rw [List.map_append];rfl,Ae,AB f3 hD⟩
  ·refine ifF (Ki k) ?_
   exact kk2 _ ⟨by rw [ef,if_neg k,List.append_nil];exact f1,f2,f3⟩
 rintro D ys H2 hD ⟨rfl,e2,s2⟩
 rw [vl,List.take_length] at e2
 obtain ⟨c0,mc0,ec0⟩:=List.mem_map.mp mc.1
 obtain ⟨f0,mf0,ef0⟩:=List.mem_map.mp mc0
 obtain ⟨f,fr,ef⟩:∃f fr,cs.filter (fun q=>decide (q.2.2.2.2=m))=f :: fr:=List.exists_cons_of_ne_nil (fun z=>by
  have:f0∈cs.filter (fun q=>decide (q.2.2.2.2=m)):=List.mem_filter.mpr ⟨mf0,decide_eq_true (by rw [ef0];exact ec0)⟩
  rw [z] at this
  cases this)
 have mf:f∈cs.filter (fun q=>decide (q.2.2.2.2=m)):=by rw [ef];exact List.mem_cons_self ..
 obtain ⟨mfc,fm⟩:=List.mem_filter.mp mf
 have fm:f.2.2.2.2=m:=of_decide_eq_true fm
 have gf:=s2 _ _ (gc f mfc)
 rw [ef] at e2
 have et2:=s2 _ _ et
 have cin:f.2∈AF (Au h ls) (A8 ls ns u v st h s') ns st (Aj u v ls) h:=by rw [<- ecs];exact List.mem_map.mpr ⟨f,mfc,rfl⟩
 and_intros
 refine ⟨D,_,_,_,rfl,rfl,SqL.of e2,Dk (j:=0) rfl,?_⟩
 have s12:=s1.trans s2
 have out0:∀j,0<=(A8 ls ns u v st h s').getD j 0:=Qx md nl l125
 have okr:=(Jt (xs:=ns) md.st1 out0 f.2 cin).1
 have h12:=md.h12
 obtain ⟨dm2,hg2⟩:=id (im.same s12)
 obtain ⟨ft,w,ob,oa,fn⟩:=f
 have fm:fn=m:=fm
 subst fm
 have gf:H2 ft=some (.tup [.str (wd w),ov ob,ov oa,.int fn]):=gf
 have okf:w≠3/\(∀b,ob=some b->0<=b/\b < h)/\(∀a,oa=some a->0<=a/\a < h)/\(w=0\/oa≠none)/\(w=2\/ob≠none):=by
  rcases okr with ⟨i,hi,e⟩ | ⟨j,hj,e⟩ | ⟨i,j,hi,hj,_,e⟩
  ·obtain ⟨rfl,e⟩:=Prod.mk.inj e
   obtain ⟨rfl,rfl⟩:=Prod.mk.inj e
   exact ⟨by decide,fun b z=>by cases z;omega,(fun a z=>nomatch z),.inl rfl,.inr (fun z=>nomatch z)⟩
  ·obtain ⟨rfl,e⟩:=Prod.mk.inj e
   obtain ⟨rfl,rfl⟩:=Prod.mk.inj e
   exact ⟨by decide,(fun b z=>nomatch z),fun a z=>by cases z;omega,.inr (fun z=>nomatch z),.inl rfl⟩
  ·obtain ⟨rfl,e⟩:=Prod.mk.inj e
   obtain ⟨rfl,rfl⟩:=Prod.mk.inj e
   exact ⟨by decide,fun b z=>by cases z;omega,fun a z=>by cases z;omega,.inr (fun z=>nomatch z),.inr (fun z=>nomatch z)⟩
 and_intros
 refine ⟨g,dm2,_,rfl,hg2,rfl,?_⟩
 and_intros
 refine ⟨g,l,h,ls,(w,ob,oa,fn),fn,rfl,s12 _ _ hl,gl.same s12,l125,h12,okf.1,okf.2.1,okf.2.2.1,okf.2.2.2.1,okf.2.2.2.2,fun r sl ms rs H3 nr s3 er cr esl ems ds=>?_⟩
 and_intros
 refine ⟨(by show 3<=sizeLine;decide),fun t2 nt=>?_⟩
 have s4:=Ag nt (.tup [V.int fn,V.ref r,V.non])
 have et4:(upd H3 t2 (.tup [V.int fn,V.ref r,V.non])) t2=some (.tup [V.int fn,V.ref r,V.non]):=Ae
 generalize upd H3 t2 (.tup [V.int fn,V.ref r,V.non])=H4 at s4 et4 ⊢
 exact q t2 r sl (w,ob,oa,fn) rs fn H4 (none_of s12 nr) (s12.trans (s3.trans s4)) et4 ⟨s4 _ _ er,cr.same s4,by unfold B5;rw [<- ems];exact s4 _ _ esl,ds⟩ (by rw [<- ecs];exact mc) m1 cin rfl
theorem D6 (T:Tx K mg ad):AO P w K mg base CX0 12 ad.f_Margin_told ad.d_Margin_told ["self","sheet"] (O7 ad.c_ListsMargin ad.c_Lists):=by
 refine T.F_Margin_told.ok DB (fun vs H Q E h=>?_) (fun cdv A outer s H vs Q E hr h=>?_)
 ·obtain ⟨g,a,l,h,s',st,u,v,ns,ls,rfl,_⟩:=h
  rfl
 obtain ⟨g,a,l,h,s',st,u,v,ns,ls,rfl,im,md,hl,gl,l125,nl,q0,q⟩:=h
 refine ⟨_,(@Ad _ _ _ _ _ (@AW _ _ _ _ _ _ _ _ (@Bo _ _ _ _ (@Bi _ _ _ (AE (pv 0) T.cl_ListsMargin T.me_ListsMargin_possible (Ea T) (hr.mono (by decide)) T.b_ListsMargin_possible .nil Ap (@Aa _ _ _ _ _ (pv 1) Ac (by rfl))) (by intro _;rfl))) (@Ah _ _ _ (@An _ _ _ _ B8)) Az) (@Ad _ _ _ _ _ (@Al _ _ (2) _ _ _ _ DB.nd rfl (Or.inl rfl) (AE (pv 0) T.cl_ListsMargin T.me_ListsMargin_least (B4 T) (hr.mono (by decide)) T.b_ListsMargin_least .nil Ap (@Aa _ _ _ _ _ (pv 1) Ac (by rfl))) (by rfl) (by first | exact .inl rfl | exact .inr rfl | assumption)) (@Ad _ _ _ _ _ (@Al _ _ (3) _ _ _ _ DB.nd rfl (Or.inl rfl) (AE (pv 0) T.cl_ListsMargin T.me_ListsMargin_high (Cu T) (hr.mono (by decide)) T.b_ListsMargin_high .nil Ap (@Aa _ _ _ _ _ (pv 1) Ac (by rfl))) (by rfl) (by first | exact .inl rfl | exact .inr rfl | assumption)) (@Ah _ _ _ (@An _ _ _ _ (@AL _ _ _ _ _ (@Aa _ _ _ _ _ (@At _ _ _ _ _ _ _ Aw (pv 2) Ab (fun _ _=>rfl)) (@Aa _ _ _ _ _ (@At _ _ _ _ _ _ _ Aw (pv 3) Ab (fun _ _=>rfl)) (@Aa _ _ _ _ _ (@At _ _ _ _ _ _ _ Aw (pv 2) Ab (fun _ _=>rfl)) (@Aa _ _ _ _ _ (@At _ _ _ _ _ _ _ Aw (pv 3) Ab (fun _ _=>rfl)) Ac (by rfl)) (by rfl)) (by rfl)) (by rfl)))))))),?_⟩
 obtain ⟨dm,hg⟩:=id im
 and_intros
 refine ⟨g,dm,_,rfl,hg,rfl,?_⟩
 and_intros
 refine ⟨g,l,h,ls,rfl,hl,gl,l125,fun H1 s1=>?_⟩
 obtain ⟨dm1,hg1⟩:=id (im.same s1)
 by_cases c:0 < total ls
 ·rw [decide_eq_true c]
  and_intros
  refine ⟨g,dm1,_,rfl,hg1,rfl,?_⟩
  and_intros
  refine ⟨g,a,l,h,s',st,u,v,ns,ls,rfl,im.same s1,md.same s1,s1 _ _ hl,gl.same s1,l125,nl,fun t k cs m H2 nk s2 et ek gk eks mc m1 cne c156=>?_⟩
  have s12:=s1.trans s2
  obtain ⟨dm2,hg2⟩:=id (im.same s12)
  and_intros
  refine ⟨g,dm2,_,rfl,hg2,rfl,?_⟩
  and_intros
  refine ⟨g,a,l,h,s',st,u,v,ns,ls,rfl,im.same s12,md.same s12,s12 _ _ hl,gl.same s12,l125,nl,fun t2 r sl cc rs m2 H3 nr s3 et2 ch mc2 m21 cin cm=>?_⟩
  have em:m2=m:=by rw [eks] at mc;exact mc2.uniq mc
  subst em
  have et3:=s3 _ _ et
  and_intros
  refine ⟨(by show 4<=sizeLine;decide),fun t4 nt=>?_⟩
  have s4:=Ag nt (.tup [V.int m2,V.int m2,V.ref k,V.ref r])
  have et4:(upd H3 t4 (.tup [V.int m2,V.int m2,V.ref k,V.ref r])) t4=some (.tup [V.int m2,V.int m2,V.ref k,V.ref r]):=Ae
  generalize upd H3 t4 (.tup [V.int m2,V.int m2,V.ref k,V.ref r])=H4 at s4 et4 ⊢
  have s34:=s3.trans s4
  exact q c t4 k r sl cs cc rs m2 H4 (none_of s1 nk) (none_of s12 nr) (fun e=>by rw [e,nr] at ek;cases ek) (s12.trans s34) et4 (s34 _ _ ek) (fun z mz=>s34 _ _ (gk z mz)) eks (ch.same s4) mc2 m21 cin cm c156
 ·rw [decide_eq_false c]
  and_intros
  exact q0 c H1 s1
theorem Gc (T:Tx K mg ad):AO P w K mg base CX0 13 ad.f_law_like_anew ad.d_law_like_anew ["_law_margin","_law_way_here","_law_other"] (KU ad.c_ListsMargin ad.c_Lists):=by
 refine T.F_law_like_anew.ok Bv (fun vs H Q E h=>?_) (fun cdv A outer s H vs Q E hr h=>?_)
 ·obtain ⟨g,a,l,h,s',st,u,v,ns,ls,rfl,_⟩:=h
  rfl
 obtain ⟨g,a,l,h,s',st,u,v,ns,ls,rfl,im,md,hl,gl,l120,num,nds,t1,t9,q⟩:=h
 refine ⟨_,(@Ad _ _ _ _ _ (LD (AE (JJ T.mk_ListsMargin (E5 T) (hr.mono (by decide)) rfl T.m_ListsMargin T.b_Margin_init .nil Ap (@Aa _ _ _ _ _ (pv 1) Ac (by rfl))) T.cl_ListsMargin T.me_ListsMargin_least (B4 T) (hr.mono (by decide)) T.b_ListsMargin_least .nil Ap (@Aa _ _ _ _ _ (@AK _ _ _ _ _ _ _ _ _ AU (by rfl) T.z_list PyProof.Rows.boot_list (@Aa _ _ _ _ _ (pv 2) Ac (by rfl)) (by decide) (by decide) (by rfl) (by rfl)) Ac (by rfl))) (JL rfl (Dm (Ce (i:=3) Bv.nd rfl (Or.inl rfl)) (Dm (Ce (i:=4) Bv.nd rfl (Or.inl rfl)) GK)))) (@Ad _ _ _ _ _ (@Al _ _ (5) _ _ _ _ Bv.nd rfl (Or.inl rfl) (AE (pv 1) T.cl_Lists T.me_Lists_outcome (Cf T) (hr.mono (by decide)) T.b_Way_outcome .nil Ap (@Aa _ _ _ _ _ (@AK _ _ _ _ _ _ _ _ _ AU (by rfl) T.z_list PyProof.Rows.boot_list (@Aa _ _ _ _ _ (pv 2) Ac (by rfl)) (by decide) (by decide) (by rfl) (by rfl)) Ac (by rfl))) (by rfl) (by first | exact .inl rfl | exact .inr rfl | assumption)) (@Ad _ _ _ _ _ (@Al _ _ (6) _ _ _ _ Bv.nd rfl (Or.inl rfl) (AE (pv 0) T.cl_ListsMargin T.me_ListsMargin_told (D6 T) (hr.mono (by decide)) T.b_Margin_told .nil Ap (@Aa _ _ _ _ _ (@AK _ _ _ _ _ _ _ _ _ AU (by rfl) T.z_list PyProof.Rows.boot_list (@Aa _ _ _ _ _ (pv 2) Ac (by rfl)) (by decide) (by decide) (by rfl) (by rfl)) Ac (by rfl))) (by rfl) (by first | exact .inl rfl | exact .inr rfl | assumption)) (@Ad _ _ _ _ _ (@Al _ _ (7) _ _ _ _ Bv.nd rfl (Or.inl rfl) (AE (pv 0) T.cl_ListsMargin T.me_ListsMargin_high (Cu T) (hr.mono (by decide)) T.b_ListsMargin_high .nil Ap (@Aa _ _ _ _ _ (@AK _ _ _ _ _ _ _ _ _ AU (by rfl) T.z_list PyProof.Rows.boot_list (@Aa _ _ _ _ _ (pv 2) Ac (by rfl)) (by decide) (by decide) (by rfl) (by rfl)) Ac (by rfl))) (by rfl) (by first | exact .inl rfl | exact .inr rfl | assumption)) (@Ad _ _ _ _ _ (@AW _ _ _ _ _ _ _ _ (PW.pt (@BS _ _ _ _ _ _ _ (@Aq _ _ _ _ _ _ _ _ (Fk (K:=K) hr.units) (E7 GN (pv 6) FG (FH Ab)) (@AL _ _ _ _ _ (@Aa _ _ _ _ _ (pv 3) (@Aa _ _ _ _ _ (pv 3) (@Aa _ _ _ _ _ (pv 4) Ac (by rfl)) (by rfl)) (by rfl))) (Ar _)) (@CU _ _ _ _ (@Aq _ _ _ _ _ _ _ _ E6 (@At _ _ _ _ _ _ _ Aw (pv 7) Ab (fun _ _=>rfl)) (pv 3) (Ar _))))) (@Ah _ _ _ (@An _ _ _ _ DK)) Az) (@Ah _ _ _ (@An _ _ _ _ (@D9 _ _ _ _ _ _ _ (@Ak _ _ _ _ _ _ _ _ _ _ _ _ _ _ _ _ (Cg T) (hr.mono (by decide)) rfl T.m_law_another T.F_law_another.kp T.b_law_another .nil Ap (@Aa _ _ _ _ _ (pv 1) (@Aa _ _ _ _ _ (pv 2) (@Aa _ _ _ _ _ (@At _ _ _ _ _ _ _ Aw (pv 6) Ab (fun _ _=>rfl)) (@Aa _ _ _ _ _ (pv 3) (@Aa _ _ _ _ _ (pv 5) Ac (by rfl)) (by rfl)) (by rfl)) (by rfl)) (by rfl)) (by decide) (by rfl) (by rfl)) (@DA _ _ _ _ _ (@Ak _ _ _ _ _ _ _ _ _ _ _ _ _ _ _ _ (Cg T) (hr.mono (by decide)) rfl T.m_law_another T.F_law_another.kp T.b_law_another .nil Ap (@Aa _ _ _ _ _ (pv 1) (@Aa _ _ _ _ _ (pv 2) (@Aa _ _ _ _ _ (@At _ _ _ _ _ _ _ Aw (pv 7) Ab (fun _ _=>rfl)) (@Aa _ _ _ _ _ (pv 3) (@Aa _ _ _ _ _ (pv 5) Ac (by rfl)) (by rfl)) (by rfl)) (by rfl)) (by rfl)) (by decide) (by rfl) (by rfl))))))))))),?_⟩
 obtain ⟨dx,la,ta,k1,k2,k3⟩:=id md.is
 obtain ⟨dm,hg⟩:=id im
 subst_eqs
 intro g7 d7 hg7 hd7 ne7
 refine ⟨g7,ad.c_ListsMargin,d7,a,rfl,Ae,T.cl_ListsMargin,T.na_ListsMargin_way,fun J7 o7 e7=>?_⟩
 rw [GJ] at o7
 have n7:=(Fh (Ag hd7 (.own g7)) hg7).trans o7
 refine ⟨rfl,?_⟩
 have im7:IsM ad.c_ListsMargin J7 g7 a:=⟨d7,e7⟩
 have l7:=n7 _ _ hl
 subst_eqs
 refine ⟨g7,d7,_,rfl,e7,rfl,?_⟩
 subst_eqs
 intro c1 hc1
 have x1:=Ag hc1 (.lst (vls ls))
 have w1:(upd J7 c1 (.lst (vls ls))) c1=some (.lst (vls ls)):=Ae
 generalize upd J7 c1 (.lst (vls ls))=X1 at x1 w1 ⊢
 have y1:=n7.trans x1
 subst_eqs
 refine ⟨g7,a,c1,h,s',st,u,v,ns,ls,rfl,im7.same x1,md.same y1,w1,gl.same y1,by omega,num.l,fun t2 kk cs low X2 nk x2 et ek gk eks mc m1 cne c156=>?_⟩
 have y2:=y1.trans x2
 have hl2:=y2 _ _ hl
 subst_eqs
 refine ⟨t2,_,rfl,SqT.of et,rfl,_,_,rfl,_,_,rfl,rfl,?_⟩
 subst_eqs
 refine ⟨a,dx,_,rfl,y2 _ _ k1,rfl,?_⟩
 subst_eqs
 intro c3 hc3
 have x3:=Ag hc3 (.lst (vls ls))
 have w3:(upd X2 c3 (.lst (vls ls))) c3=some (.lst (vls ls)):=Ae
 generalize upd X2 c3 (.lst (vls ls))=X3 at x3 w3 ⊢
 have y3:=y2.trans x3
 subst_eqs
 refine ⟨a,c3,h,s',st,u,v,ns,ls,rfl,md.same y3,w3,gl.same y3,by omega,num.l,fun so X4 nso x4 eso=>?_⟩
 have y4:=y3.trans x4
 have hl4:=y4 _ _ hl
 subst_eqs
 refine ⟨g,dm,_,rfl,y4 _ _ hg,rfl,?_⟩
 subst_eqs
 intro c5 hc5
 have x5:=Ag hc5 (.lst (vls ls))
 have w5:(upd X4 c5 (.lst (vls ls))) c5=some (.lst (vls ls)):=Ae
 generalize upd X4 c5 (.lst (vls ls))=X5 at x5 w5 ⊢
 have y5:=y4.trans x5
 subst_eqs
 refine ⟨g,a,c5,h,s',st,u,v,ns,ls,rfl,im.same y5,md.same y5,w5,gl.same y5,by omega,num.l,fun z=>absurd t1 (by omega),fun _ t6 k6 r6 sl6 cs6 cc6 rs6 m6 X6 nk6 nr6 kr6 x6 et6 ek6 gk6 eks6 ch6 mc6 m61 cin6 cm6 _=>?_⟩
 have y6:=y5.trans x6
 have hl6:=y6 _ _ hl
 subst_eqs
 refine ⟨g,dm,_,rfl,y6 _ _ hg,rfl,?_⟩
 subst_eqs
 intro c7 hc7
 have x7:=Ag hc7 (.lst (vls ls))
 have w7:(upd X6 c7 (.lst (vls ls))) c7=some (.lst (vls ls)):=Ae
 generalize upd X6 c7 (.lst (vls ls))=X7 at x7 w7 ⊢
 have y7:=y6.trans x7
 subst_eqs
 refine ⟨g,a,c7,h,s',st,u,v,ns,ls,rfl,im.same y7,md.same y7,w7,gl.same y7,by omega,num.l,fun t8 r8 sl8 cc8 rs8 m8 X8 nr8 x8 et8 ch8 mc8 m81 cin8 cm8=>?_⟩
 have y8:=y7.trans x8
 obtain rfl:m6=low:=by rw [eks] at mc;exact mc6.uniq mc
 obtain rfl:m8=m6:=mc8.uniq mc6
 have e68:=x7.trans x8
 have et6':=e68 _ _ et6
 have e28:=x3.trans (x4.trans (x5.trans (x6.trans e68)))
 have l9:m8<=10000000000000:=by
  have:=IV (fun q m=>by have:=num q m;omega) md.u0 md.uv md.v0 t1 mc8 cin8 cm8
  omega
 subst_eqs
 refine ⟨t6,_,rfl,et6',fun p9 X9 x9 e9=>?_⟩
 rw [show Fb [V.int m8,V.int m8,V.ref k6,V.ref r6] none (some 3)=[V.int m8,V.int m8,V.ref k6] from rfl] at e9
 subst_eqs
 refine ⟨(by show 3<=sizeLine;decide),fun t10 n10=>?_⟩
 have x10:=Ag n10 (.tup [V.int m8,V.int m8,V.ref kk])
 have e10:(upd X9 t10 (.tup [V.int m8,V.int m8,V.ref kk])) t10=some (.tup [V.int m8,V.int m8,V.ref kk]):=Ae
 generalize upd X9 t10 (.tup [V.int m8,V.int m8,V.ref kk])=X10 at x10 e10 ⊢
 have z6:=e68.trans (x9.trans x10)
 have z2:=e28.trans (x9.trans x10)
 have y10:=y8.trans (x9.trans x10)
 have et8':=(x9.trans x10) _ _ et8
 have et6'':=z6 _ _ et6
 subst_eqs
 refine ⟨td m8 (Db cs6),td m8 (Db cs),Ms (x10 _ _ e9) (z6 _ _ ek6) (gk6.same z6),Ms e10 (z2 _ _ ek) (gk.same z2),GM _ _,GM _ _,?_⟩
 rw [eks6,eks,PB]
 subst_eqs
 try refine ifF (MY rfl) ?_
 subst_eqs
 refine ⟨a,l,r6,sl6,so,h,s',st,u,v,m8,ns,ls,rs6,cc6,rfl,md.same y10,y10 _ _ hl,gl.same y10,by omega,num,nds,ch6.same z6,t1,m61,l9,mc6,cin6,cm6,(x5.trans (x6.trans z6)) _ _ eso,fun X11 x11=>?_⟩
 have et8'':=x11 _ _ et8'
 subst_eqs
 try refine ifT rfl ?_
 subst_eqs
 have y11:=y10.trans x11
 refine ⟨a,l,r8,sl8,so,h,s',st,u,v,m8,ns,ls,rs8,cc8,rfl,md.same y11,y11 _ _ hl,gl.same y11,by omega,num,nds,ch8.same (x9.trans (x10.trans x11)),t1,m81,l9,mc8,cin8,cm8,(x5.trans (x6.trans (z6.trans x11))) _ _ eso,fun X12 x12=>?_⟩
 subst_eqs
 exact q X12 (y11.trans x12)
theorem Qu (T:Tx K mg ad):AO P w K mg base CX0 14 ad.f_law ad.d_law ["_law_script"] (KR K):=by
 refine T.F_law.ok Dr (fun vs H Q E h=>?_) (fun cdv A outer s H vs Q E hr h=>?_)
 ·obtain ⟨p,ns,rfl,_⟩:=h
  rfl
 obtain ⟨p,ns,rfl,hS,h63,q⟩:=h
 refine ⟨_,(@Ad _ _ _ _ _ (@Al _ _ (1) _ _ _ _ Dr.nd rfl (Or.inl rfl) (@Ai _ _ _ _ _ _ _ _ AA Ab (@Ai _ _ _ _ _ _ _ _ A7 (@Ak _ _ _ _ _ _ _ _ _ _ _ _ _ _ _ _ (BK T) (hr.mono (by decide)) rfl T.m_law_cell T.F_law_cell.kp T.b_law_cell .nil Ap (@Aa _ _ _ _ _ (pv 0) (@Aa _ _ _ _ _ Ab Ac (by rfl)) (by rfl)) (by decide) (by rfl) (by rfl)) Ab)) (by rfl) (by first | exact .inl rfl | exact .inr rfl | assumption)) (@Ad _ _ _ _ _ (@Al _ _ (2) _ _ _ _ Dr.nd rfl (Or.inl rfl) (@Ak _ _ _ _ _ _ _ _ _ _ _ _ _ _ _ _ (L9 T) (hr.mono (by decide)) rfl T.m_law_way T.F_law_way.kp T.b_law_way .nil Ap (@Aa _ _ _ _ _ (pv 0) (@Aa _ _ _ _ _ (pv 1) Ac (by rfl)) (by rfl)) (by decide) (by rfl) (by rfl)) (by rfl) (by first | exact .inl rfl | exact .inr rfl | assumption)) (@Ad _ _ _ _ _ (@Al _ _ (3) _ _ _ _ Dr.nd rfl (Or.inl rfl) (@Ak _ _ _ _ _ _ _ _ _ _ _ _ _ _ _ _ (JF T) (hr.mono (by decide)) rfl T.m_law_sheet T.F_law_sheet.kp T.b_law_sheet .nil Ap (@Aa _ _ _ _ _ (pv 0) (@Aa _ _ _ _ _ Ab (@Aa _ _ _ _ _ (pv 1) Ac (by rfl)) (by rfl)) (by rfl)) (by decide) (by rfl) (by rfl)) (by rfl) (by first | exact .inl rfl | exact .inr rfl | assumption)) (@Ad _ _ _ _ _ (@Al _ _ (4) _ _ _ _ Dr.nd rfl (Or.inl rfl) (JJ T.mk_Lists (IA T) (hr.mono (by decide)) rfl T.m_Lists T.b_Lists_init .nil Ap (@Aa _ _ _ _ _ (pv 1) (@Aa _ _ _ _ _ (@At _ _ _ _ _ _ _ Aw (pv 2) Ab (fun _ _=>rfl)) (@Aa _ _ _ _ _ (@AK _ _ _ _ _ _ _ _ _ AU (by rfl) T.z_list PyProof.Rows.boot_list (@Aa _ _ _ _ _ (@At _ _ _ _ _ _ _ Aw (pv 2) Ab (fun _ _=>rfl)) Ac (by rfl)) (by decide) (by decide) (by rfl) (by rfl)) (@Aa _ _ _ _ _ (@At _ _ _ _ _ _ _ Aw (pv 2) Ab (fun _ _=>rfl)) (@Aa _ _ _ _ _ (@At _ _ _ _ _ _ _ Aw (pv 2) Ab (fun _ _=>rfl)) Ac (by rfl)) (by rfl)) (by rfl)) (by rfl)) (by rfl))) (by rfl) (by first | exact .inl rfl | exact .inr rfl | assumption)) (@Ad _ _ _ _ _ (@Al _ _ (5) _ _ _ _ Dr.nd rfl (Or.inl rfl) (JJ T.mk_ListsMargin (E5 T) (hr.mono (by decide)) rfl T.m_ListsMargin T.b_Margin_init .nil Ap (@Aa _ _ _ _ _ (pv 4) Ac (by rfl))) (by rfl) (by first | exact .inl rfl | exact .inr rfl | assumption)) (@Ad _ _ _ _ _ (@Al _ _ (6) _ _ _ _ Dr.nd rfl (Or.inl rfl) (AE (pv 5) T.cl_ListsMargin T.me_ListsMargin_told (D6 T) (hr.mono (by decide)) T.b_Margin_told .nil Ap (@Aa _ _ _ _ _ (@AK _ _ _ _ _ _ _ _ _ AU (by rfl) T.z_list PyProof.Rows.boot_list (@Aa _ _ _ _ _ (pv 3) Ac (by rfl)) (by decide) (by decide) (by rfl) (by rfl)) Ac (by rfl))) (by rfl) (by first | exact .inl rfl | exact .inr rfl | assumption)) (@Ad _ _ _ _ _ (@AW _ _ _ _ _ _ _ _ (PW.pt (@BS _ _ _ _ _ _ _ (@Aq _ _ _ _ _ _ _ _ (JG (K:=K) hr.units) (pv 3) (@CT _ _ _ _ Ac) (Ar _)) (@CU _ _ _ _ (@Aq _ _ _ _ _ _ _ _ Hq (pv 6) B8 (Ar _))))) (@Ah _ _ _ (@An _ _ _ _ (@D9 _ _ _ _ _ _ _ (@C3 _ _ _ _ _ _ _ _ Hq (pv 6) B8 (Ar _)) (@DA _ _ _ _ _ (@C3 _ _ _ _ _ _ _ _ (JG (K:=K) hr.units) (pv 3) (@CT _ _ _ _ Ac) (Ar _)))))) Az) (@Ad _ _ _ _ _ (@AW _ _ _ _ _ _ _ _ (PW.pt (@BS _ _ _ _ _ _ _ (@Bo _ _ _ _ (@Bi _ _ _ (@Ax _ _ _ _ _ _ _ _ _ BR (by rfl) T.z_isinstance PyProof.Rows.boot_isinstance (@Aa _ _ _ _ _ (pv 6) (@Aa _ _ _ _ _ (C2 (v:=.ty "tuple") rfl T.z_tuple PyProof.Rows.boot_tuple rfl) Ac (by rfl)) (by rfl)) (by decide) (by decide) (by rfl) (by rfl)) (by intro _;rfl))) (@BS _ _ _ _ _ _ _ (@Aq _ _ _ _ _ _ _ _ E6 (@Ax _ _ _ _ _ _ _ _ _ Bl (by rfl) T.z_len PySem.boot_len (@Aa _ _ _ _ _ (pv 6) Ac (by rfl)) (by decide) (by decide) (by rfl) (by rfl)) Ab (Ar _)) (@BS _ _ _ _ _ _ _ (@Bo _ _ _ _ (@Bi _ _ _ (@Ak _ _ _ _ _ _ _ _ _ _ _ _ _ _ _ _ (CS T) (hr.mono (by decide)) rfl T.m_law_whole T.F_law_whole.kp T.b_law_whole .nil Ap (@Aa _ _ _ _ _ (@At _ _ _ _ _ _ _ Aw (pv 6) Ab (fun _ _=>rfl)) Ac (by rfl)) (by decide) (by rfl) (by rfl)) (by intro _;rfl))) (@CU _ _ _ _ (@Bo _ _ _ _ (@Bi _ _ _ (@Ak _ _ _ _ _ _ _ _ _ _ _ _ _ _ _ _ (CS T) (hr.mono (by decide)) rfl T.m_law_whole T.F_law_whole.kp T.b_law_whole .nil Ap (@Aa _ _ _ _ _ (@At _ _ _ _ _ _ _ Aw (pv 6) Ab (fun _ _=>rfl)) Ac (by rfl)) (by decide) (by rfl) (by rfl)) (by intro _;rfl)))))))) (@Ah _ _ _ (@An _ _ _ _ DK)) Az) (@Ad _ _ _ _ _ (@Al _ _ (7) _ _ _ _ Dr.nd rfl (Or.inl rfl) (@At _ _ _ _ _ _ _ Aw (pv 6) Ab (fun _ _=>rfl)) (by rfl) (by first | exact .inl rfl | exact .inr rfl | assumption)) (@Ad _ _ _ _ _ (@AW _ _ _ _ _ _ _ _ (PW.pt (@BS _ _ _ _ _ _ _ (@Aq _ _ _ _ _ _ _ _ E6 (@At _ _ _ _ _ _ _ Aw (pv 6) Ab (fun _ _=>rfl)) (pv 7) (Ar _)) (@BS _ _ _ _ _ _ _ (@Aq _ _ _ _ _ _ _ _ Eb (pv 7) Ab (Ar _)) (@CU _ _ _ _ (@Aq _ _ _ _ _ _ _ _ (Fk (K:=K) hr.units) (AE (pv 5) T.cl_ListsMargin T.me_ListsMargin_least (B4 T) (hr.mono (by decide)) T.b_ListsMargin_least .nil Ap (@Aa _ _ _ _ _ (@AK _ _ _ _ _ _ _ _ _ AU (by rfl) T.z_list PyProof.Rows.boot_list (@Aa _ _ _ _ _ (pv 3) Ac (by rfl)) (by decide) (by decide) (by rfl) (by rfl)) Ac (by rfl))) (@AL _ _ _ _ _ (@Aa _ _ _ _ _ (pv 7) (@Aa _ _ _ _ _ (@At _ _ _ _ _ _ _ Aw (pv 6) Ab (fun _ _=>rfl)) Ac (by rfl)) (by rfl))) (Ar _)))))) (@Ah _ _ _ (@An _ _ _ _ DK)) Az) (@Ad _ _ _ _ _ (@Al _ _ (8) _ _ _ _ Dr.nd rfl (Or.inl rfl) (AE (pv 4) T.cl_Lists T.me_Lists_outcome (Cf T) (hr.mono (by decide)) T.b_Way_outcome .nil Ap (@Aa _ _ _ _ _ (@AK _ _ _ _ _ _ _ _ _ AU (by rfl) T.z_list PyProof.Rows.boot_list (@Aa _ _ _ _ _ (pv 3) Ac (by rfl)) (by decide) (by decide) (by rfl) (by rfl)) Ac (by rfl))) (by rfl) (by first | exact .inl rfl | exact .inr rfl | assumption)) (@Ad _ _ _ _ _ (@AW _ _ _ _ _ _ _ _ (@Aq _ _ _ _ _ _ _ _ (Fk (K:=K) hr.units) (AE (pv 4) T.cl_Lists T.me_Lists_outcome (Cf T) (hr.mono (by decide)) T.b_Way_outcome .nil Ap (@Aa _ _ _ _ _ (@Ak _ _ _ _ _ _ _ _ _ _ _ _ _ _ _ _ (F0 T) (hr.mono (by decide)) rfl T.m_law_fewer T.F_law_fewer.kp T.b_law_fewer .nil Ap (@Aa _ _ _ _ _ (pv 0) (@Aa _ _ _ _ _ (pv 3) (@Aa _ _ _ _ _ (pv 1) (@Aa _ _ _ _ _ (@Ai _ _ _ _ _ _ _ _ Cb (pv 7) Ab) Ac (by rfl)) (by rfl)) (by rfl)) (by rfl)) (by decide) (by rfl) (by rfl)) Ac (by rfl))) (pv 8) (Ar _)) (@Ah _ _ _ (@An _ _ _ _ DK)) Az) (@Ad _ _ _ _ _ (@AW _ _ _ _ _ _ _ _ (@Bo _ _ _ _ (@Bi _ _ _ (@Ak _ _ _ _ _ _ _ _ _ _ _ _ _ _ _ _ (Cg T) (hr.mono (by decide)) rfl T.m_law_another T.F_law_another.kp T.b_law_another .nil Ap (@Aa _ _ _ _ _ (pv 4) (@Aa _ _ _ _ _ (pv 3) (@Aa _ _ _ _ _ (@At _ _ _ _ _ _ _ Aw (pv 6) Ab (fun _ _=>rfl)) (@Aa _ _ _ _ _ (pv 7) (@Aa _ _ _ _ _ (pv 8) Ac (by rfl)) (by rfl)) (by rfl)) (by rfl)) (by rfl)) (by decide) (by rfl) (by rfl)) (by intro _;rfl))) (@Ah _ _ _ (@An _ _ _ _ DK)) Az) (@Ad _ _ _ _ _ (@AW _ _ _ _ _ _ _ _ (@Bo _ _ _ _ (@Bi _ _ _ (@Ak _ _ _ _ _ _ _ _ _ _ _ _ _ _ _ _ (Gc T) (hr.mono (by decide)) rfl T.m_law_like_anew T.F_law_like_anew.kp T.b_law_like_anew .nil Ap (@Aa _ _ _ _ _ (pv 5) (@Aa _ _ _ _ _ (pv 4) (@Aa _ _ _ _ _ (@Ak _ _ _ _ _ _ _ _ _ _ _ _ _ _ _ _ (F0 T) (hr.mono (by decide)) rfl T.m_law_fewer T.F_law_fewer.kp T.b_law_fewer .nil Ap (@Aa _ _ _ _ _ (pv 0) (@Aa _ _ _ _ _ (pv 3) (@Aa _ _ _ _ _ (pv 1) (@Aa _ _ _ _ _ (@Ai _ _ _ _ _ _ _ _ Cb (pv 7) Ab) Ac (by rfl)) (by rfl)) (by rfl)) (by rfl)) (by decide) (by rfl) (by rfl)) Ac (by rfl)) (by rfl)) (by rfl)) (by decide) (by rfl) (by rfl)) (by intro _;rfl))) (@Ah _ _ _ (@An _ _ _ _ DK)) Az) (@Ad _ _ _ _ _ (@Al _ _ (9) _ _ _ _ Dr.nd rfl (Or.inl rfl) (@AK _ _ _ _ _ _ _ _ _ AU (by rfl) T.z_list PyProof.Rows.boot_list (@Aa _ _ _ _ _ (@At _ _ _ _ _ _ _ Aw (pv 6) Ab (fun _ _=>rfl)) Ac (by rfl)) (by decide) (by decide) (by rfl) (by rfl)) (by rfl) (by first | exact .inl rfl | exact .inr rfl | assumption)) (@Ad _ _ _ _ _ (@Er _ _ _ _ (LB PySem.F.plainAttrs_list PySem.F.slot_list_clear PySem.F.type_list_clear Ks (@At _ _ _ _ _ _ _ Aw (pv 6) Ab (fun _ _=>rfl))) (by rfl)) (@Ad _ _ _ _ _ (@Er _ _ _ _ (LB PySem.F.plainAttrs_list PySem.F.slot_list_clear PySem.F.type_list_clear Ks (@At _ _ _ _ _ _ _ Aw (pv 6) Ab (fun _ _=>rfl))) (by rfl)) (@Ad _ _ _ _ _ (@Al _ _ (10) _ _ _ _ Dr.nd rfl (Or.inl rfl) (AE (pv 5) T.cl_ListsMargin T.me_ListsMargin_told (D6 T) (hr.mono (by decide)) T.b_Margin_told .nil Ap (@Aa _ _ _ _ _ (@AK _ _ _ _ _ _ _ _ _ AU (by rfl) T.z_list PyProof.Rows.boot_list (@Aa _ _ _ _ _ (pv 3) Ac (by rfl)) (by decide) (by decide) (by rfl) (by rfl)) Ac (by rfl))) (by rfl) (by first | exact .inl rfl | exact .inr rfl | assumption)) (@Ad _ _ _ _ _ (@AW _ _ _ _ _ _ _ _ (PW.pt (@BS _ _ _ _ _ _ _ (@Aq _ _ _ _ _ _ _ _ (Fk (K:=K) hr.units) (E7 GN (pv 10) FG (FH Ab)) (@AL _ _ _ _ _ (@Aa _ _ _ _ _ (pv 7) (@Aa _ _ _ _ _ (pv 7) (@Aa _ _ _ _ _ (pv 9) Ac (by rfl)) (by rfl)) (by rfl))) (Ar _)) (@CU _ _ _ _ (@Bo _ _ _ _ (@Bi _ _ _ (@Ak _ _ _ _ _ _ _ _ _ _ _ _ _ _ _ _ (Cg T) (hr.mono (by decide)) rfl T.m_law_another T.F_law_another.kp T.b_law_another .nil Ap (@Aa _ _ _ _ _ (pv 4) (@Aa _ _ _ _ _ (pv 3) (@Aa _ _ _ _ _ (@At _ _ _ _ _ _ _ Aw (pv 10) Ab (fun _ _=>rfl)) (@Aa _ _ _ _ _ (pv 7) (@Aa _ _ _ _ _ (pv 8) Ac (by rfl)) (by rfl)) (by rfl)) (by rfl)) (by rfl)) (by decide) (by rfl) (by rfl)) (by intro _;rfl)))))) (@Ah _ _ _ (@An _ _ _ _ DK)) Az) (@Ad _ _ _ _ _ (@Al _ _ (11) _ _ _ _ Dr.nd rfl (Or.inl rfl) (AE (pv 5) T.cl_ListsMargin T.me_ListsMargin_high (Cu T) (hr.mono (by decide)) T.b_ListsMargin_high .nil Ap (@Aa _ _ _ _ _ (@AK _ _ _ _ _ _ _ _ _ AU (by rfl) T.z_list PyProof.Rows.boot_list (@Aa _ _ _ _ _ (pv 3) Ac (by rfl)) (by decide) (by decide) (by rfl) (by rfl)) Ac (by rfl))) (by rfl) (by first | exact .inl rfl | exact .inr rfl | assumption)) (@Ad _ _ _ _ _ (@AW _ _ _ _ _ _ _ _ (PW.pt (@BS _ _ _ _ _ _ _ (@Bo _ _ _ _ (@Bi _ _ _ (@Ax _ _ _ _ _ _ _ _ _ BR (by rfl) T.z_isinstance PyProof.Rows.boot_isinstance (@Aa _ _ _ _ _ (pv 11) (@Aa _ _ _ _ _ (C2 (v:=.ty "tuple") rfl T.z_tuple PyProof.Rows.boot_tuple rfl) Ac (by rfl)) (by rfl)) (by decide) (by decide) (by rfl) (by rfl)) (by intro _;rfl))) (@BS _ _ _ _ _ _ _ (@Aq _ _ _ _ _ _ _ _ E6 (@Ax _ _ _ _ _ _ _ _ _ Bl (by rfl) T.z_len PySem.boot_len (@Aa _ _ _ _ _ (pv 11) Ac (by rfl)) (by decide) (by decide) (by rfl) (by rfl)) Ab (Ar _)) (@BS _ _ _ _ _ _ _ (@Aq _ _ _ _ _ _ _ _ E6 (@At _ _ _ _ _ _ _ Aw (pv 11) Ab (fun _ _=>rfl)) (pv 7) (Ar _)) (@CU _ _ _ _ (@Aq _ _ _ _ _ _ _ _ FB (@At _ _ _ _ _ _ _ Aw (pv 11) Ab (fun _ _=>rfl)) B8 (Ar _))))))) (@Ah _ _ _ (@An _ _ _ _ DK)) Az) (@Ah _ _ _ (@An _ _ _ _ (@D9 _ _ _ _ _ _ _ (@Ak _ _ _ _ _ _ _ _ _ _ _ _ _ _ _ _ (CS T) (hr.mono (by decide)) rfl T.m_law_whole T.F_law_whole.kp T.b_law_whole .nil Ap (@Aa _ _ _ _ _ (@At _ _ _ _ _ _ _ Aw (pv 11) Ab (fun _ _=>rfl)) Ac (by rfl)) (by decide) (by rfl) (by rfl)) (@DA _ _ _ _ _ (@Ak _ _ _ _ _ _ _ _ _ _ _ _ _ _ _ _ (Cg T) (hr.mono (by decide)) rfl T.m_law_another T.F_law_another.kp T.b_law_another .nil Ap (@Aa _ _ _ _ _ (pv 4) (@Aa _ _ _ _ _ (pv 3) (@Aa _ _ _ _ _ (@At _ _ _ _ _ _ _ Aw (pv 11) Ab (fun _ _=>rfl)) (@Aa _ _ _ _ _ (pv 7) (@Aa _ _ _ _ _ (pv 8) Ac (by rfl)) (by rfl)) (by rfl)) (by rfl)) (by rfl)) (by decide) (by rfl) (by rfl))))))))))))))))))))))))))),?_⟩
 refine ⟨_,rfl,p,ns,0,rfl,hS,h63,by decide,by decide,fun c c0 c1=>?_⟩
 have m12:=AR c (show (0:Int) < 12 by decide)
 subst_eqs
 dsimp only
 have hh:1<=1+c.fmod 12/\1+c.fmod 12<=12:=by omega
 generalize 1+c.fmod 12=h' at hh ⊢
 obtain ⟨h,rfl⟩:∃h:Nat,h'=(h:Int):=⟨h'.toNat,by omega⟩
 refine ⟨p,ns,(h:Int),rfl,hS,h63,by omega,by omega,fun r s' st u v xs H1 s1 tl q1 q60 st1 st9 u0 uv g v9 pm=>?_⟩
 obtain ⟨l,t,o1,o2,o3⟩:=id tl
 rw [Int.toNat_natCast] at pm
 have v0:0 < v:=by
  rcases (by omega:0 < v\/v=0) with z | z
  ·exact z
  ·have:u=0:=by omega
   rw [z,this] at g
   exact absurd g (by decide)
 refine ⟨_,rfl,_,rfl,p,ns,3,(h:Int),rfl,s1.seq hS,h63,rfl,by omega,by omega,fun sh ls H2 s2 e2 g2 l60 nS nds=>?_⟩
 rw [Int.toNat_natCast] at g2
 have nl:=nS.l
 have p1:=s2 _ _ o1
 have p2:=s2 _ _ o2
 have p3:=s2 _ _ o3
 obtain ⟨m,rfl⟩:∃m:Nat,s'=(m:Int):=⟨s'.toNat,by omega⟩
 subst_eqs
 intro b hb
 have s23:=Ag hb (.lst (xs.map V.int))
 have e3':(upd H2 b (.lst (xs.map V.int))) b=some (.lst (xs.map V.int)):=Ae
 generalize upd H2 b (.lst (xs.map V.int))=H3 at s23 e3' ⊢
 have p1':=s23 _ _ p1
 have pm':xs.Perm (ups (h:Int).toNat):=by rw [Int.toNat_natCast];exact pm
 subst_eqs
 intro a dx ha hdx ne
 have k1:A0 H3 (upd (upd H3 dx (.own a)) a (.ins ad.c_Lists dx [])):=(Ag hdx _).trans (Ag (by rw [Ay (Ne.symm ne)];exact ha) _)
 refine ⟨a,ad.c_Lists,dx,b,t,(h:Int),(m:Int),u,v,st,xs,rfl,Ae,T.cl_Lists,T.na_Lists_hands,T.na_Lists_seats,T.na_Lists_lots,T.na_Lists_hurdle,T.na_Lists_step,by omega,by omega,by omega,by omega,k1 _ _ e3',pm',k1 _ _ (s23 _ _ p3),u0,uv,g,st1,st9,fun l' H4 s3 e3 el=>?_⟩
 rw [GJ] at s3
 have sH4:=(Fh (Ag hdx (.own a)) ha).trans s3
 refine ⟨rfl,?_⟩
 have ilH4:IsL ad.c_Lists H4 a (h:Int) (m:Int) st u v xs:=⟨dx,l',t,e3,el,sH4 _ _ (s23 _ _ p3)⟩
 clear e3 el s3 k1
 have s24:=s23.trans sH4
 have md:E1 ad.c_Lists H4 a h m st u v xs:=⟨ilH4,pm,by omega,by omega,by omega,by omega,st1,st9,u0,uv,v0,v9⟩
 clear ilH4
 have e4:=s24 _ _ e2
 have g4:=g2.same s24
 subst_eqs
 intro g dm hg hdm neg
 refine ⟨g,ad.c_ListsMargin,dm,a,rfl,Ae,T.cl_ListsMargin,T.na_ListsMargin_way,fun H5 s5 e5=>?_⟩
 rw [GJ] at s5
 have sH5:=(Fh (Ag hdm (.own g)) hg).trans s5
 refine ⟨rfl,?_⟩
 have im:IsM ad.c_ListsMargin H5 g a:=⟨dm,e5⟩
 replace md:=md.same sH5
 replace e4:=sH5 _ _ e4
 replace g4:=g4.same sH5
 have s05:A0 H H5:=(s1.trans s2).trans (s24.trans sH5)
 clear s5 s24 sH5 s23 p1 p2 p3 e3' p1' sH4
 obtain ⟨dw,lw,tw,kw1,kw2,kw3⟩:=id md.is
 have hh1:=md.h1
 have hh12:=md.h12
 subst_eqs
 refine ⟨g,dm,_,rfl,e5,rfl,?_⟩
 subst_eqs
 intro c1 hc1
 have s6:=Ag hc1 (.lst (vls ls))
 have e6:(upd H5 c1 (.lst (vls ls))) c1=some (.lst (vls ls)):=Ae
 generalize upd H5 c1 (.lst (vls ls))=H6 at s6 e6 ⊢
 subst_eqs
 refine ⟨g,a,c1,h,m,st,u,v,xs,ls,rfl,im.same s6,md.same s6,e6,g4.same s6,by omega,nl,fun z H7 s7=>?_,fun z t7 k7 r7 sl7 cs7 cc7 rs7 low H7 nk7 nr7 kr7 s7 et7 ek7 gk7 eks7 ch7 mc7 m71 cin7 cm7 c156=>?_⟩
 ·have nil:ls=[]:=by
   by_cases c:ls=[]
   ·exact c
   ·exact absurd (GA nS c) (by omega)
  have s57:=s6.trans s7
  subst_eqs
  refine ⟨(by show 0<=sizeLine;decide),fun e0 he0=>?_⟩
  have s8:=Ag he0 (.lst [])
  have ee0:(upd H7 e0 (.lst [])) e0=some (.lst []):=Ae
  generalize upd H7 e0 (.lst [])=H8 at s8 ee0 ⊢
  have s58:=s57.trans s8
  refine ⟨.list (ls.map ld),.list (([]:Ls).map ld),.lst (SqL.of (s58 _ _ e4)) (GL (g4.same s58)),.lst (SqL.of ee0) .nil,Ei _,Ei [],?_⟩
  rw [Jv,decide_eq_true nil]
  subst_eqs
  refine ⟨(by show 0<=sizeLine;decide),fun e1' he1=>?_⟩
  have s9:=Ag he1 (.lst [])
  have ee1:(upd H8 e1' (.lst [])) e1'=some (.lst []):=Ae
  generalize upd H8 e1' (.lst [])=H9 at s9 ee1 ⊢
  have s59:=s58.trans s9
  refine ⟨.list (ls.map ld),.list (([]:Ls).map ld),.lst (SqL.of (s59 _ _ e4)) (GL (g4.same s59)),.lst (SqL.of ee1) .nil,Ei _,Ei [],?_⟩
  rw [Jv,decide_eq_true nil]
  subst_eqs
  exact q _
 have nil:ls≠[]:=fun c=>by rw [c] at z;exact absurd z (by decide)
 have t1:=GA nS nil
 have s57:=s6.trans s7
 subst_eqs
 refine ⟨(by show 0<=sizeLine;decide),fun e0 he0=>?_⟩
 have s8:=Ag he0 (.lst [])
 have ee0:(upd H7 e0 (.lst [])) e0=some (.lst []):=Ae
 generalize upd H7 e0 (.lst [])=H8 at s8 ee0 ⊢
 have s58:=s57.trans s8
 refine ⟨.list (ls.map ld),.list (([]:Ls).map ld),.lst (SqL.of (s58 _ _ e4)) (GL (g4.same s58)),.lst (SqL.of ee0) .nil,Ei _,Ei [],?_⟩
 rw [Jv,decide_eq_false nil]
 have et8:=s8 _ _ et7
 subst_eqs
 refine ⟨_,_,_,_,rfl,Dp.tup et8,B0,?_⟩
 subst_eqs
 try refine ifF (MY rfl) ?_
 subst_eqs
 refine ifF (decide_eq_false (by omega)) ?_
 have e48:=s58 _ _ e4
 subst_eqs
 refine ⟨g,dm,_,rfl,s58 _ _ e5,rfl,?_⟩
 subst_eqs
 intro c9 hc9
 have s9:=Ag hc9 (.lst (vls ls))
 have e9:(upd H8 c9 (.lst (vls ls))) c9=some (.lst (vls ls)):=Ae
 generalize upd H8 c9 (.lst (vls ls))=H9 at s9 e9 ⊢
 have s59:=s58.trans s9
 subst_eqs
 refine ⟨g,a,c9,h,m,st,u,v,xs,ls,rfl,im.same s59,md.same s59,e9,g4.same s59,by omega,nl,fun tA kA csA lowA HA nkA sA etA ekA gkA eksA mcA m1A cneA c156A=>?_⟩
 obtain rfl:lowA=low:=by rw [eksA] at mcA;exact mcA.uniq mc7
 have s8A:=s9.trans sA
 have s5A:=s59.trans sA
 have s7A:=s8.trans s8A
 have etA':=s7A _ _ et7
 subst_eqs
 refine ⟨(by show 2<=sizeLine;decide),fun tB nB=>?_⟩
 have sB:=Ag nB (.tup [V.int lowA,V.ref k7])
 have eB:(upd HA tB (.tup [V.int lowA,V.ref k7])) tB=some (.tup [V.int lowA,V.ref k7]):=Ae
 generalize upd HA tB (.tup [V.int lowA,V.ref k7])=HB at sB eB ⊢
 have s7B:=s7A.trans sB
 have s5B:=s5A.trans sB
 refine ⟨pd lowA (Db csA),pd lowA (Db cs7),PN (sB _ _ etA) (sB _ _ ekA) (gkA.same sB),PN eB (s7B _ _ ek7) (gk7.same s7B),Mw _ _,Mw _ _,?_⟩
 rw [eksA,eks7,QT]
 have e4B:=s5B _ _ e4
 have lowt:=IV (fun q m=>by have:=nS q m;omega) md.u0 md.uv md.v0 t1 mc7 cin7 cm7
 have tle:=Iq (by decide) (ls:=ls) fun q m=>(nS q m).2
 subst_eqs
 refine ⟨a,dw,_,rfl,s5B _ _ kw1,rfl,?_⟩
 subst_eqs
 intro cC hcC
 have sC:=Ag hcC (.lst (vls ls))
 have eC:(upd HB cC (.lst (vls ls))) cC=some (.lst (vls ls)):=Ae
 generalize upd HB cC (.lst (vls ls))=HC at sC eC ⊢
 have s5C:=s5B.trans sC
 subst_eqs
 refine ⟨a,cC,h,m,st,u,v,xs,ls,rfl,md.same s5C,eC,g4.same s5C,by omega,nl,fun so HD nso sD eso=>?_⟩
 have s7C:=s7B.trans sC
 have s5D:=s5C.trans sD
 have s7D:=s7C.trans sD
 have sok:so≠k7:=fun e=>by rw [e,s7C _ _ ek7] at nso;cases nso
 have sor:so≠r7:=fun e=>by rw [e,s7C _ _ ch7.r] at nso;cases nso
 subst_eqs
 refine ⟨a,dw,_,rfl,s5D _ _ kw1,rfl,?_⟩
 subst_eqs
 refine ⟨p,sh,ns,h,ls,lowA - 1,rfl,(s05.trans s5D).seq hS,h63,s5D _ _ e4,g4.same s5D,l60,nS,nds,hh1,hh12,by omega,by omega,fun fE ms HE sE eE gE mE nE ndE smE totE=>?_⟩
 have s5E:=s5D.trans sE
 subst_eqs
 refine ⟨a,fE,h,m,st,u,v,xs,ms,rfl,md.same s5E,eE,gE,by omega,nE.l,fun oF HF nF sF eF=>?_⟩
 rw [MI md.pm md.st1 md.s1 mc7 smE totE] at eF
 have s5F:=s5E.trans sF
 have s7F:=s7D.trans (sE.trans sF)
 have esoF:=(sE.trans sF) _ _ eso
 subst_eqs
 refine ⟨.list ((A8 ls xs u v st h m).map .int),.list ((A8 ls xs u v st h m).map .int),.lst (SqL.of eF) (.ints _),.lst (SqL.of esoF) (.ints _),(CD _).2,(CD _).2,?_⟩
 rw [show ∀x:List Int,PyData.eqv (.list (x.map .int)) (.list (x.map .int))=true from fun x=>(E4 x x).trans (decide_eq_true rfl)]
 have etF:=s7F _ _ et7
 subst_eqs
 refine ⟨a,sh,r7,sl7,so,h,m,st,u,v,lowA,xs,ls,rs7,cc7,rfl,md.same s5F,s5F _ _ e4,g4.same s5F,by omega,nS.p,nds,ch7.same s7F,t1,m71,by omega,mc7,cin7,cm7,esoF,fun HG sG=>?_⟩
 have s5G:=s5F.trans sG
 have s7G:=s7F.trans sG
 subst_eqs
 refine ⟨p,sh,ns,h,ls,lowA - 1,rfl,(s05.trans s5G).seq hS,h63,s5G _ _ e4,g4.same s5G,l60,nS,nds,hh1,hh12,by omega,by omega,fun fI ns9 HI sI eI gI mI nI ndI smI totI=>?_⟩
 have s5I:=s5G.trans sI
 have ttI:total ns9=total ls:=by unfold total;rw [CW,CW,totI]
 subst_eqs
 refine ⟨g,a,fI,h,m,st,u,v,xs,ns9,rfl,im.same s5I,md.same s5I,eI,gI,mI,nI,ndI,by omega,by omega,fun HJ sJ=>?_⟩
 have s5J:=s5I.trans sJ
 have s7J:=s7G.trans (sI.trans sJ)
 have sDJ:=(sE.trans sF).trans (sG.trans (sI.trans sJ))
 have etJ:=s7J _ _ et7
 have ekJ:=s7J _ _ ek7
 clear etF esoF etA' et8 eF eE gE mE nE ndE smE totE eI gI mI nI ndI smI totI ttI nF
 subst_eqs
 intro kp hkp
 have sK:=Ag hkp (.lst (vcl cs7))
 have eK:(upd HJ kp (.lst (vcl cs7))) kp=some (.lst (vcl cs7)):=Ae
 generalize upd HJ kp (.lst (vcl cs7))=HK at sK eK ⊢
 have s7K:=s7J.trans sK
 have etK:=s7K _ _ et7
 have ekK:=s7K _ _ ek7
 have kpk:kp≠k7:=fun e=>by rw [e,ekJ] at hkp;cases hkp
 have kpr:kp≠r7:=fun e=>by rw [e,s7J _ _ ch7.r] at hkp;cases hkp
 have erK:=s7K _ _ ch7.r
 have gkK:=gk7.same s7K
 have esK:=(sDJ.trans sK) _ _ eso
 have s6K:A0 H6 HK:=s7.trans s7K
 subst_eqs
 refine ⟨.inl ⟨rfl,_,SqL.of ekK⟩,k7,_,rfl,rfl,ekK,?_⟩
 have sL:A0 H6 (upd HK k7 (.lst [])):=AB s6K nk7
 have etL:(upd HK k7 (.lst [])) t7=some (.tup [.int lowA,.int lowA,.ref k7,.ref r7]):=by rw [Ay (Ds etK ekK (fun z=>nomatch z))];exact etK
 have erL:(upd HK k7 (.lst [])) r7=some (.lst (vls rs7)):=by rw [Ay (Ne.symm kr7)];exact erK
 have esL:(upd HK k7 (.lst [])) so=some (.lst ((A8 ls xs u v st h m).map V.int)):=by rw [Ay sok];exact esK
 have epL:(upd HK k7 (.lst [])) kp=some (.lst (vcl cs7)):=by rw [Ay kpk];exact eK
 have gkL:BI (upd HK k7 (.lst [])) cs7:=fun z mz=>by rw [Ay (Ds (gkK z mz) ekK (fun z=>nomatch z))];exact gkK z mz
 generalize upd HK k7 (.lst [])=HL at sL etL erL esL epL gkL ⊢
 subst_eqs
 refine ⟨.inl ⟨rfl,_,SqL.of erL⟩,r7,_,rfl,rfl,erL,?_⟩
 have sM:A0 H6 (upd HL r7 (.lst [])):=AB sL nr7
 have esM:(upd HL r7 (.lst [])) so=some (.lst ((A8 ls xs u v st h m).map V.int)):=by rw [Ay sor];exact esL
 have epM:(upd HL r7 (.lst [])) kp=some (.lst (vcl cs7)):=by rw [Ay kpr];exact epL
 have gkM:BI (upd HL r7 (.lst [])) cs7:=fun z mz=>by rw [Ay (Ds (gkL z mz) erL (fun z=>nomatch z))];exact gkL z mz
 generalize upd HL r7 (.lst [])=HM at sM esM epM gkM ⊢
 have s5M:=s6.trans sM
 have e4M:=s5M _ _ e4
 clear etL erL esL epL gkL sL etK ekK erK gkK esK s6K etJ ekJ
 subst_eqs
 refine ⟨g,dm,_,rfl,s5M _ _ e5,rfl,?_⟩
 subst_eqs
 intro cN hcN
 have sN:=Ag hcN (.lst (vls ls))
 have eN:(upd HM cN (.lst (vls ls))) cN=some (.lst (vls ls)):=Ae
 generalize upd HM cN (.lst (vls ls))=HN at sN eN ⊢
 have s5N:=s5M.trans sN
 subst_eqs
 refine ⟨g,a,cN,h,m,st,u,v,xs,ls,rfl,im.same s5N,md.same s5N,eN,g4.same s5N,by omega,nl,fun z=>absurd t1 (by omega),fun _ tO kO rO slO csO ccO rsO lowO HO' nkO nrO krO sO etO ekO gkO eksO chO mcO m1O cinO cmO _=>?_⟩
 obtain rfl:lowO=lowA:=mcO.uniq mc7
 have s5O:=s5N.trans sO
 have sMO:=sN.trans sO
 subst_eqs
 refine ⟨tO,_,rfl,etO,fun pP HP sP eP=>?_⟩
 rw [show Fb [V.int lowO,V.int lowO,V.ref kO,V.ref rO] none (some 3)=[V.int lowO,V.int lowO,V.ref kO] from rfl] at eP
 subst_eqs
 refine ⟨(by show 3<=sizeLine;decide),fun tR nR=>?_⟩
 have sR:=Ag nR (.tup [V.int lowO,V.int lowO,V.ref kp])
 have eR:(upd HP tR (.tup [V.int lowO,V.int lowO,V.ref kp])) tR=some (.tup [V.int lowO,V.int lowO,V.ref kp]):=Ae
 generalize upd HP tR (.tup [V.int lowO,V.int lowO,V.ref kp])=HR at sR eR ⊢
 have sOR:=sP.trans sR
 have sMR:=sMO.trans sOR
 have s5R:=s5O.trans sOR
 have etR:=sOR _ _ etO
 subst_eqs
 refine ⟨td lowO (Db csO),td lowO (Db cs7),Ms (sR _ _ eP) (sOR _ _ ekO) (gkO.same sOR),Ms eR (sMR _ _ epM) (gkM.same sMR),GM _ _,GM _ _,?_⟩
 rw [eksO,eks7,PB]
 subst_eqs
 refine ⟨a,sh,rO,slO,so,h,m,st,u,v,lowO,xs,ls,rsO,ccO,rfl,md.same s5R,s5R _ _ e4,g4.same s5R,by omega,nS.p,nds,chO.same sOR,t1,m1O,by omega,mcO,cinO,cmO,sMR _ _ esM,fun HS sS=>?_⟩
 have s5S:=s5R.trans sS
 have e4S:=s5S _ _ e4
 subst_eqs
 refine ⟨g,dm,_,rfl,s5S _ _ e5,rfl,?_⟩
 subst_eqs
 intro cT hcT
 have sT:=Ag hcT (.lst (vls ls))
 have eT:(upd HS cT (.lst (vls ls))) cT=some (.lst (vls ls)):=Ae
 generalize upd HS cT (.lst (vls ls))=HT at sT eT ⊢
 have s5T:=s5S.trans sT
 subst_eqs
 refine ⟨g,a,cT,h,m,st,u,v,xs,ls,rfl,im.same s5T,md.same s5T,eT,g4.same s5T,by omega,nl,fun tU rU slU ccU rsU lowU HU nrU sU etU chU mcU m1U cinU cmU=>?_⟩
 obtain rfl:lowU=lowO:=mcU.uniq mcO
 have s5U:=s5T.trans sU
 subst_eqs
 refine ⟨_,_,_,_,rfl,Dp.tup etU,B0,?_⟩
 subst_eqs
 refine ifF (MY rfl) ?_
 subst_eqs
 try refine ifF rfl ?_
 subst_eqs
 try refine ifT rfl ?_
 subst_eqs
 refine ⟨a,sh,rU,slU,so,h,m,st,u,v,lowU,xs,ls,rsU,ccU,rfl,md.same s5U,s5U _ _ e4,g4.same s5U,by omega,nS.p,nds,chU,t1,m1U,by omega,mcU,cinU,cmU,(sMR.trans (sS.trans (sT.trans sU))) _ _ esM,fun HW sW=>?_⟩
 subst_eqs
 exact q _
end
theorem all_mk {l:PySem.W.OpenLaw} {w:World} {K:PySem.W.Frag} {h:Heap} {mg:Str->Option Value} {fa f1 f2 f3 f4 f5 f6 f7 f8 f9 f10 f11 f12 f13 f14 f15 f16 f17 f18 f19 f20 f21 f22 f23 f24 f25 f26 f27 f28 f29 f30 f31 f32 f33 f34 f35 f36 f37 f38 f39 f40 f41 f42 f43 f44 f45 f46 f47 f48 f49 f50 f51 f52 f53 f54 f55 c_Lists c_Way c_ListsMargin c_Margin:Addr} (X:K.In h) (G:h.Ns mainGlobals mg) (hfa:mg "law"=some (.ref fa))
 {od1 an1 od2 an2 od3 an3 od4 an4 od5 an5 od6 an6 od7 an7 od8 an8 od9 an9 od10 an10 od11 an11 od12 an12 od13 an13 od14 an14 od15 an15 od16 an16 od17 an17 od18 an18 od19 an19 od20 an20 od21 an21 od22 an22 od23 an23 od24 an24 od25 an25 od26 an26 od27 an27 od28 an28 od29 an29 od30 an30 od31 an31 od32 an32 od33 an33 od34 an34 od35 an35 od36 an36 od37 an37 od38 an38 od39 an39 od40 an40 od41 an41 od42 an42 od43 an43 od44 an44 od45 an45 od46 an46 od47 an47 od48 an48 od49 an49 od50 an50 od51 an51 od52 an52 od53 an53 od54 an54 od55 an55:Option Addr} {sl1 sl2 sl3 sl4 sl5 sl6 sl7 sl8 sl9 sl10 sl11 sl12 sl13 sl14 sl15 sl16 sl17 sl18 sl19 sl20 sl21 sl22 sl23 sl24 sl25 sl26 sl27 sl28 sl29 sl30 sl31 sl32 sl33 sl34 sl35 sl36 sl37 sl38 sl39 sl40 sl41 sl42 sl43 sl44 sl45 sl46 sl47 sl48 sl49 sl50 sl51 sl52 sl53 sl54 sl55:Array (Option Value)} {oc1 kV1 dc1 pm1 cd1 ct1 oc2 kV2 dc2 pm2 cd2 ct2 oc3 kV3 dc3 pm3 cd3 ct3 oc4 kV4 dc4 pm4 cd4 ct4 oc5 kV5 dc5 pm5 cd5 ct5 oc6 kV6 dc6 pm6 cd6 ct6 oc7 kV7 dc7 pm7 cd7 ct7 oc8 kV8 dc8 pm8 cd8 ct8 oc9 kV9 dc9 pm9 cd9 ct9 oc10 kV10 dc10 pm10 cd10 ct10 oc11 kV11 dc11 pm11 cd11 ct11 oc12 kV12 dc12 pm12 cd12 ct12 oc13 kV13 dc13 pm13 cd13 ct13 oc14 kV14 dc14 pm14 cd14 ct14 oc15 kV15 dc15 pm15 cd15 ct15 oc16 kV16 dc16 pm16 cd16 ct16 oc17 kV17 dc17 pm17 cd17 ct17 oc18 kV18 dc18 pm18 cd18 ct18 oc19 kV19 dc19 pm19 cd19 ct19 oc20 kV20 dc20 pm20 cd20 ct20 oc21 kV21 dc21 pm21 cd21 ct21 oc22 kV22 dc22 pm22 cd22 ct22 oc23 kV23 dc23 pm23 cd23 ct23 oc24 kV24 dc24 pm24 cd24 ct24 oc25 kV25 dc25 pm25 cd25 ct25 oc26 kV26 dc26 pm26 cd26 ct26 oc27 kV27 dc27 pm27 cd27 ct27 oc28 kV28 dc28 pm28 cd28 ct28 oc29 kV29 dc29 pm29 cd29 ct29 oc30 kV30 dc30 pm30 cd30 ct30 oc31 kV31 dc31 pm31 cd31 ct31 oc32 kV32 dc32 pm32 cd32 ct32 oc33 kV33 dc33 pm33 cd33 ct33 oc34 kV34 dc34 pm34 cd34 ct34 oc35 kV35 dc35 pm35 cd35 ct35 oc36 kV36 dc36 pm36 cd36 ct36 oc37 kV37 dc37 pm37 cd37 ct37 oc38 kV38 dc38 pm38 cd38 ct38 oc39 kV39 dc39 pm39 cd39 ct39 oc40 kV40 dc40 pm40 cd40 ct40 oc41 kV41 dc41 pm41 cd41 ct41 oc42 kV42 dc42 pm42 cd42 ct42 oc43 kV43 dc43 pm43 cd43 ct43 oc44 kV44 dc44 pm44 cd44 ct44 oc45 kV45 dc45 pm45 cd45 ct45 oc46 kV46 dc46 pm46 cd46 ct46 oc47 kV47 dc47 pm47 cd47 ct47 oc48 kV48 dc48 pm48 cd48 ct48 oc49 kV49 dc49 pm49 cd49 ct49 oc50 kV50 dc50 pm50 cd50 ct50 oc51 kV51 dc51 pm51 cd51 ct51 oc52 kV52 dc52 pm52 cd52 ct52 oc53 kV53 dc53 pm53 cd53 ct53 oc54 kV54 dc54 pm54 cd54 ct54 oc55 kV55 dc55 pm55 cd55 ct55:Value} {dT38:Addr} {dcl38:Value} {ddi38:Option Addr} {dn38:Nat} {dsl38:Array (Option Value)} {dT43:Addr} {dcl43:Value} {ddi43:Option Addr} {dn43:Nat} {dsl43:Array (Option Value)} {td_Lists_init2:Tok} {t_MOST_HANDS t_MOST_SEATS t_MOST_STEP:Tok}
 (a1:PySem.W.nsIn K mainGlobals "is_whole"=some (some (.ref f1)))
 (l1:K.lookup f1=some ⟨oc1,od1,.func (PySem.W.fnOf "is_whole" "is_whole" (Ao Dd) (Am Dd) (Af Dd) .none kV1 dc1 pm1 an1 cd1 ct1),sl1⟩) (c1:PySem.W.codeIn K cd1 "is_whole"=true) (k1:PySem.W.keepIn K (.ref f1)=true)
 (a2:PySem.W.nsIn K mainGlobals "divisor"=some (some (.ref f2)))
 (l2:K.lookup f2=some ⟨oc2,od2,.func (PySem.W.fnOf "divisor" "divisor" (Ao Dz) (Am Dz) (Af Dz) .none kV2 dc2 pm2 an2 cd2 ct2),sl2⟩) (c2:PySem.W.codeIn K cd2 "divisor"=true) (k2:PySem.W.keepIn K (.ref f2)=true)
 (a3:PySem.W.nsIn K mainGlobals "down"=some (some (.ref f3)))
 (l3:K.lookup f3=some ⟨oc3,od3,.func (PySem.W.fnOf "down" "down" (Ao Gh) (Am Gh) (Af Gh) .none kV3 dc3 pm3 an3 cd3 ct3),sl3⟩) (c3:PySem.W.codeIn K cd3 "down"=true) (k3:PySem.W.keepIn K (.ref f3)=true)
 (a4:PySem.W.nsIn K mainGlobals "up"=some (some (.ref f4)))
 (l4:K.lookup f4=some ⟨oc4,od4,.func (PySem.W.fnOf "up" "up" (Ao Ni) (Am Ni) (Af Ni) .none kV4 dc4 pm4 an4 cd4 ct4),sl4⟩) (c4:PySem.W.codeIn K cd4 "up"=true) (k4:PySem.W.keepIn K (.ref f4)=true)
 (a5:PySem.W.nsIn K mainGlobals "under"=some (some (.ref f5)))
 (l5:K.lookup f5=some ⟨oc5,od5,.func (PySem.W.fnOf "under" "under" (Ao EL) (Am EL) (Af EL) .none kV5 dc5 pm5 an5 cd5 ct5),sl5⟩) (c5:PySem.W.codeIn K cd5 "under"=true) (k5:PySem.W.keepIn K (.ref f5)=true)
 (a6:PySem.W.nsIn K mainGlobals "with_one"=some (some (.ref f6)))
 (l6:K.lookup f6=some ⟨oc6,od6,.func (PySem.W.fnOf "with_one" "with_one" (Ao Dh) (Am Dh) (Af Dh) .none kV6 dc6 pm6 an6 cd6 ct6),sl6⟩) (c6:PySem.W.codeIn K cd6 "with_one"=true) (k6:PySem.W.keepIn K (.ref f6)=true)
 (a7:PySem.W.nsIn K mainGlobals "members"=some (some (.ref f7)))
 (l7:K.lookup f7=some ⟨oc7,od7,.func (PySem.W.fnOf "members" "members" (Ao Dg) (Am Dg) (Af Dg) .none kV7 dc7 pm7 an7 cd7 ct7),sl7⟩) (c7:PySem.W.codeIn K cd7 "members"=true) (k7:PySem.W.keepIn K (.ref f7)=true)
 (a8:PySem.W.nsIn K mainGlobals "ballots_in"=some (some (.ref f8)))
 (l8:K.lookup f8=some ⟨oc8,od8,.func (PySem.W.fnOf "ballots_in" "ballots_in" (Ao BP) (Am BP) (Af BP) .none kV8 dc8 pm8 an8 cd8 ct8),sl8⟩) (c8:PySem.W.codeIn K cd8 "ballots_in"=true) (k8:PySem.W.keepIn K (.ref f8)=true)
 (a9:PySem.W.nsIn K mainGlobals "rows_to"=some (some (.ref f9)))
 (l9:K.lookup f9=some ⟨oc9,od9,.func (PySem.W.fnOf "rows_to" "rows_to" (Ao D3) (Am D3) (Af D3) .none kV9 dc9 pm9 an9 cd9 ct9),sl9⟩) (c9:PySem.W.codeIn K cd9 "rows_to"=true) (k9:PySem.W.keepIn K (.ref f9)=true)
 (a10:PySem.W.nsIn K mainGlobals "_law_cell"=some (some (.ref f10)))
 (l10:K.lookup f10=some ⟨oc10,od10,.func (PySem.W.fnOf "_law_cell" "_law_cell" (Ao De) (Am De) (Af De) .none kV10 dc10 pm10 an10 cd10 ct10),sl10⟩) (c10:PySem.W.codeIn K cd10 "_law_cell"=true) (k10:PySem.W.keepIn K (.ref f10)=true)
 (a11:PySem.W.nsIn K mainGlobals "_law_mixed"=some (some (.ref f11)))
 (l11:K.lookup f11=some ⟨oc11,od11,.func (PySem.W.fnOf "_law_mixed" "_law_mixed" (Ao CK) (Am CK) (Af CK) .none kV11 dc11 pm11 an11 cd11 ct11),sl11⟩) (c11:PySem.W.codeIn K cd11 "_law_mixed"=true) (k11:PySem.W.keepIn K (.ref f11)=true)
 (a12:PySem.W.nsIn K mainGlobals "_law_whole"=some (some (.ref f12)))
 (l12:K.lookup f12=some ⟨oc12,od12,.func (PySem.W.fnOf "_law_whole" "_law_whole" (Ao CM) (Am CM) (Af CM) .none kV12 dc12 pm12 an12 cd12 ct12),sl12⟩) (c12:PySem.W.codeIn K cd12 "_law_whole"=true) (k12:PySem.W.keepIn K (.ref f12)=true)
 (a13:PySem.W.nsIn K mainGlobals "_law_divisor"=some (some (.ref f13)))
 (l13:K.lookup f13=some ⟨oc13,od13,.func (PySem.W.fnOf "_law_divisor" "_law_divisor" (Ao BZ) (Am BZ) (Af BZ) .none kV13 dc13 pm13 an13 cd13 ct13),sl13⟩) (c13:PySem.W.codeIn K cd13 "_law_divisor"=true) (k13:PySem.W.keepIn K (.ref f13)=true)
 (l14:K.lookup f14=some ⟨oc14,od14,.func (PySem.W.fnOf "ahead" "Way.ahead" (Ao CG) (Am CG) (Af CG) .none kV14 dc14 pm14 an14 cd14 ct14),sl14⟩) (c14:PySem.W.codeIn K cd14 "Way.ahead"=true) (k14:PySem.W.keepIn K (.ref f14)=true)
 (l15:K.lookup f15=some ⟨oc15,od15,.func (PySem.W.fnOf "told_by" "Lists.told_by" (Ao Bg) (Am Bg) (Af Bg) .none kV15 dc15 pm15 an15 cd15 ct15),sl15⟩) (c15:PySem.W.codeIn K cd15 "Lists.told_by"=true) (k15:PySem.W.keepIn K (.ref f15)=true)
 (l16:K.lookup f16=some ⟨oc16,od16,.func (PySem.W.fnOf "__init__" "Margin.__init__" (Ao BV) (Am BV) (Af BV) .none kV16 dc16 pm16 an16 cd16 ct16),sl16⟩) (c16:PySem.W.codeIn K cd16 "Margin.__init__"=true) (k16:PySem.W.keepIn K (.ref f16)=true)
 (a17:PySem.W.nsIn K mainGlobals "fraction"=some (some (.ref f17)))
 (l17:K.lookup f17=some ⟨oc17,od17,.func (PySem.W.fnOf "fraction" "fraction" (Ao Dc) (Am Dc) (Af Dc) .none kV17 dc17 pm17 an17 cd17 ct17),sl17⟩) (c17:PySem.W.codeIn K cd17 "fraction"=true) (k17:PySem.W.keepIn K (.ref f17)=true)
 (a18:PySem.W.nsIn K mainGlobals "are_hands"=some (some (.ref f18)))
 (l18:K.lookup f18=some ⟨oc18,od18,.func (PySem.W.fnOf "are_hands" "are_hands" (Ao CH) (Am CH) (Af CH) .none kV18 dc18 pm18 an18 cd18 ct18),sl18⟩) (c18:PySem.W.codeIn K cd18 "are_hands"=true) (k18:PySem.W.keepIn K (.ref f18)=true)
 (a19:PySem.W.nsIn K mainGlobals "are_seats"=some (some (.ref f19)))
 (l19:K.lookup f19=some ⟨oc19,od19,.func (PySem.W.fnOf "are_seats" "are_seats" (Ao CI) (Am CI) (Af CI) .none kV19 dc19 pm19 an19 cd19 ct19),sl19⟩) (c19:PySem.W.codeIn K cd19 "are_seats"=true) (k19:PySem.W.keepIn K (.ref f19)=true)
 (a20:PySem.W.nsIn K mainGlobals "are_lots"=some (some (.ref f20)))
 (l20:K.lookup f20=some ⟨oc20,od20,.func (PySem.W.fnOf "are_lots" "are_lots" (Ao CA) (Am CA) (Af CA) .none kV20 dc20 pm20 an20 cd20 ct20),sl20⟩) (c20:PySem.W.codeIn K cd20 "are_lots"=true) (k20:PySem.W.keepIn K (.ref f20)=true)
 (a21:PySem.W.nsIn K mainGlobals "vote_of"=some (some (.ref f21)))
 (l21:K.lookup f21=some ⟨oc21,od21,.func (PySem.W.fnOf "vote_of" "vote_of" (Ao D4) (Am D4) (Af D4) .none kV21 dc21 pm21 an21 cd21 ct21),sl21⟩) (c21:PySem.W.codeIn K cd21 "vote_of"=true) (k21:PySem.W.keepIn K (.ref f21)=true)
 (a22:PySem.W.nsIn K mainGlobals "is_hurdle"=some (some (.ref f22)))
 (l22:K.lookup f22=some ⟨oc22,od22,.func (PySem.W.fnOf "is_hurdle" "is_hurdle" (Ao CJ) (Am CJ) (Af CJ) .none kV22 dc22 pm22 an22 cd22 ct22),sl22⟩) (c22:PySem.W.codeIn K cd22 "is_hurdle"=true) (k22:PySem.W.keepIn K (.ref f22)=true)
 (a23:PySem.W.nsIn K mainGlobals "is_step"=some (some (.ref f23)))
 (l23:K.lookup f23=some ⟨oc23,od23,.func (PySem.W.fnOf "is_step" "is_step" (Ao D0) (Am D0) (Af D0) .none kV23 dc23 pm23 an23 cd23 ct23),sl23⟩) (c23:PySem.W.codeIn K cd23 "is_step"=true) (k23:PySem.W.keepIn K (.ref f23)=true)
 (a24:PySem.W.nsIn K mainGlobals "_law_lowest"=some (some (.ref f24)))
 (l24:K.lookup f24=some ⟨oc24,od24,.func (PySem.W.fnOf "_law_lowest" "_law_lowest" (Ao Cp) (Am Cp) (Af Cp) .none kV24 dc24 pm24 an24 cd24 ct24),sl24⟩) (c24:PySem.W.codeIn K cd24 "_law_lowest"=true) (k24:PySem.W.keepIn K (.ref f24)=true)
 (a25:PySem.W.nsIn K mainGlobals "_law_slip"=some (some (.ref f25)))
 (l25:K.lookup f25=some ⟨oc25,od25,.func (PySem.W.fnOf "_law_slip" "_law_slip" (Ao Df) (Am Df) (Af Df) .none kV25 dc25 pm25 an25 cd25 ct25),sl25⟩) (c25:PySem.W.codeIn K cd25 "_law_slip"=true) (k25:PySem.W.keepIn K (.ref f25)=true)
 (a26:PySem.W.nsIn K mainGlobals "_law_number"=some (some (.ref f26)))
 (l26:K.lookup f26=some ⟨oc26,od26,.func (PySem.W.fnOf "_law_number" "_law_number" (Ao Cq) (Am Cq) (Af Cq) .none kV26 dc26 pm26 an26 cd26 ct26),sl26⟩) (c26:PySem.W.codeIn K cd26 "_law_number"=true) (k26:PySem.W.keepIn K (.ref f26)=true)
 (a27:PySem.W.nsIn K mainGlobals "_law_lots"=some (some (.ref f27)))
 (l27:K.lookup f27=some ⟨oc27,od27,.func (PySem.W.fnOf "_law_lots" "_law_lots" (Ao Ci) (Am Ci) (Af Ci) .none kV27 dc27 pm27 an27 cd27 ct27),sl27⟩) (c27:PySem.W.codeIn K cd27 "_law_lots"=true) (k27:PySem.W.keepIn K (.ref f27)=true)
 (a28:PySem.W.nsIn K mainGlobals "_law_is_slip"=some (some (.ref f28)))
 (l28:K.lookup f28=some ⟨oc28,od28,.func (PySem.W.fnOf "_law_is_slip" "_law_is_slip" (Ao Ca) (Am Ca) (Af Ca) .none kV28 dc28 pm28 an28 cd28 ct28),sl28⟩) (c28:PySem.W.codeIn K cd28 "_law_is_slip"=true) (k28:PySem.W.keepIn K (.ref f28)=true)
 (l29:K.lookup f29=some ⟨oc29,od29,.func (PySem.W.fnOf "least_votes" "Lists.least_votes" (Ao Bd) (Am Bd) (Af Bd) .none kV29 dc29 pm29 an29 cd29 ct29),sl29⟩) (c29:PySem.W.codeIn K cd29 "Lists.least_votes"=true) (k29:PySem.W.keepIn K (.ref f29)=true)
 (l30:K.lookup f30=some ⟨oc30,od30,.func (PySem.W.fnOf "greatest_mark" "Lists.greatest_mark" (Ao AG) (Am AG) (Af AG) .none kV30 dc30 pm30 an30 cd30 ct30),sl30⟩) (c30:PySem.W.codeIn K cd30 "Lists.greatest_mark"=true) (k30:PySem.W.keepIn K (.ref f30)=true)
 (l31:K.lookup f31=some ⟨oc31,od31,.func (PySem.W.fnOf "possible" "ListsMargin.possible" (Ao AM) (Am AM) (Af AM) .none kV31 dc31 pm31 an31 cd31 ct31),sl31⟩) (c31:PySem.W.codeIn K cd31 "ListsMargin.possible"=true) (k31:PySem.W.keepIn K (.ref f31)=true)
 (l32:K.lookup f32=some ⟨oc32,od32,.func (PySem.W.fnOf "votes_to_overtake" "ListsMargin.votes_to_overtake" (Ao A2) (Am A2) (Af A2) .none kV32 dc32 pm32 an32 cd32 ct32),sl32⟩) (c32:PySem.W.codeIn K cd32 "ListsMargin.votes_to_overtake"=true) (k32:PySem.W.keepIn K (.ref f32)=true)
 (a33:PySem.W.nsIn K mainGlobals "votes_of"=some (some (.ref f33)))
 (l33:K.lookup f33=some ⟨oc33,od33,.func (PySem.W.fnOf "votes_of" "votes_of" (Ao CB) (Am CB) (Af CB) .none kV33 dc33 pm33 an33 cd33 ct33),sl33⟩) (c33:PySem.W.codeIn K cd33 "votes_of"=true) (k33:PySem.W.keepIn K (.ref f33)=true)
 (a34:PySem.W.nsIn K mainGlobals "_law_sheet"=some (some (.ref f34)))
 (l34:K.lookup f34=some ⟨oc34,od34,.func (PySem.W.fnOf "_law_sheet" "_law_sheet" (Ao Cj) (Am Cj) (Af Cj) .none kV34 dc34 pm34 an34 cd34 ct34),sl34⟩) (c34:PySem.W.codeIn K cd34 "_law_sheet"=true) (k34:PySem.W.keepIn K (.ref f34)=true)
 (a35:PySem.W.nsIn K mainGlobals "_law_hurdle"=some (some (.ref f35)))
 (l35:K.lookup f35=some ⟨oc35,od35,.func (PySem.W.fnOf "_law_hurdle" "_law_hurdle" (Ao Co) (Am Co) (Af Co) .none kV35 dc35 pm35 an35 cd35 ct35),sl35⟩) (c35:PySem.W.codeIn K cd35 "_law_hurdle"=true) (k35:PySem.W.keepIn K (.ref f35)=true)
 (a36:PySem.W.nsIn K mainGlobals "_law_fewer"=some (some (.ref f36)))
 (l36:K.lookup f36=some ⟨oc36,od36,.func (PySem.W.fnOf "_law_fewer" "_law_fewer" (Ao Ch) (Am Ch) (Af Ch) .none kV36 dc36 pm36 an36 cd36 ct36),sl36⟩) (c36:PySem.W.codeIn K cd36 "_law_fewer"=true) (k36:PySem.W.keepIn K (.ref f36)=true)
 (a37:PySem.W.nsIn K mainGlobals "_law_changed"=some (some (.ref f37)))
 (l37:K.lookup f37=some ⟨oc37,od37,.func (PySem.W.fnOf "_law_changed" "_law_changed" (Ao B9) (Am B9) (Af B9) .none kV37 dc37 pm37 an37 cd37 ct37),sl37⟩) (c37:PySem.W.codeIn K cd37 "_law_changed"=true) (k37:PySem.W.keepIn K (.ref f37)=true)
 (l38:K.lookup f38=some ⟨oc38,od38,.func (PySem.W.fnOf "__init__" "Way.__init__" (Ao BO) (Am BO) (Af BO) (.ref dT38) kV38 dc38 pm38 an38 cd38 ct38),sl38⟩) (c38:PySem.W.codeIn K cd38 "Way.__init__"=true) (k38:PySem.W.keepIn K (.ref f38)=true)
 (dl38:K.lookup dT38=some ⟨dcl38,ddi38,.seq #[.none] dn38,dsl38⟩)
 (l39:K.lookup f39=some ⟨oc39,od39,.func (PySem.W.fnOf "mark" "Lists.mark" (Ao Cn) (Am Cn) (Af Cn) .none kV39 dc39 pm39 an39 cd39 ct39),sl39⟩) (c39:PySem.W.codeIn K cd39 "Lists.mark"=true) (k39:PySem.W.keepIn K (.ref f39)=true)
 (l40:K.lookup f40=some ⟨oc40,od40,.func (PySem.W.fnOf "cases_of_hand" "ListsMargin.cases_of_hand" (Ao A9) (Am A9) (Af A9) .none kV40 dc40 pm40 an40 cd40 ct40),sl40⟩) (c40:PySem.W.codeIn K cd40 "ListsMargin.cases_of_hand"=true) (k40:PySem.W.keepIn K (.ref f40)=true)
 (l41:K.lookup f41=some ⟨oc41,od41,.func (PySem.W.fnOf "change_for" "ListsMargin.change_for" (Ao A4) (Am A4) (Af A4) .none kV41 dc41 pm41 an41 cd41 ct41),sl41⟩) (c41:PySem.W.codeIn K cd41 "ListsMargin.change_for"=true) (k41:PySem.W.keepIn K (.ref f41)=true)
 (a42:PySem.W.nsIn K mainGlobals "_law_way"=some (some (.ref f42)))
 (l42:K.lookup f42=some ⟨oc42,od42,.func (PySem.W.fnOf "_law_way" "_law_way" (Ao D1) (Am D1) (Af D1) .none kV42 dc42 pm42 an42 cd42 ct42),sl42⟩) (c42:PySem.W.codeIn K cd42 "_law_way"=true) (k42:PySem.W.keepIn K (.ref f42)=true)
 (l43:K.lookup f43=some ⟨oc43,od43,.func (PySem.W.fnOf "__init__" "Lists.__init__" (Ao Bs) (Am Bs) (Af Bs) (.ref dT43) kV43 dc43 pm43 an43 cd43 ct43),sl43⟩) (c43:PySem.W.codeIn K cd43 "Lists.__init__"=true) (k43:PySem.W.keepIn K (.ref f43)=true)
 (dl43:K.lookup dT43=some ⟨dcl43,ddi43,.seq #[.none,.none,.int (1) td_Lists_init2] dn43,dsl43⟩)
 (l44:K.lookup f44=some ⟨oc44,od44,.func (PySem.W.fnOf "mark_or_none" "Lists.mark_or_none" (Ao AZ) (Am AZ) (Af AZ) .none kV44 dc44 pm44 an44 cd44 ct44),sl44⟩) (c44:PySem.W.codeIn K cd44 "Lists.mark_or_none"=true) (k44:PySem.W.keepIn K (.ref f44)=true)
 (l45:K.lookup f45=some ⟨oc45,od45,.func (PySem.W.fnOf "marks_of" "Lists.marks_of" (Ao Bk) (Am Bk) (Af Bk) .none kV45 dc45 pm45 an45 cd45 ct45),sl45⟩) (c45:PySem.W.codeIn K cd45 "Lists.marks_of"=true) (k45:PySem.W.keepIn K (.ref f45)=true)
 (l46:K.lookup f46=some ⟨oc46,od46,.func (PySem.W.fnOf "rounds_of" "Lists.rounds_of" (Ao Bb) (Am Bb) (Af Bb) .none kV46 dc46 pm46 an46 cd46 ct46),sl46⟩) (c46:PySem.W.codeIn K cd46 "Lists.rounds_of"=true) (k46:PySem.W.keepIn K (.ref f46)=true)
 (l47:K.lookup f47=some ⟨oc47,od47,.func (PySem.W.fnOf "counted" "Lists.counted" (Ao B1) (Am B1) (Af B1) .none kV47 dc47 pm47 an47 cd47 ct47),sl47⟩) (c47:PySem.W.codeIn K cd47 "Lists.counted"=true) (k47:PySem.W.keepIn K (.ref f47)=true)
 (l48:K.lookup f48=some ⟨oc48,od48,.func (PySem.W.fnOf "outcome" "Way.outcome" (Ao BX) (Am BX) (Af BX) .none kV48 dc48 pm48 an48 cd48 ct48),sl48⟩) (c48:PySem.W.codeIn K cd48 "Way.outcome"=true) (k48:PySem.W.keepIn K (.ref f48)=true)
 (a49:PySem.W.nsIn K mainGlobals "_law_another"=some (some (.ref f49)))
 (l49:K.lookup f49=some ⟨oc49,od49,.func (PySem.W.fnOf "_law_another" "_law_another" (Ao BY) (Am BY) (Af BY) .none kV49 dc49 pm49 an49 cd49 ct49),sl49⟩) (c49:PySem.W.codeIn K cd49 "_law_another"=true) (k49:PySem.W.keepIn K (.ref f49)=true)
 (l50:K.lookup f50=some ⟨oc50,od50,.func (PySem.W.fnOf "cases_of" "ListsMargin.cases_of" (Ao AC) (Am AC) (Af AC) .none kV50 dc50 pm50 an50 cd50 ct50),sl50⟩) (c50:PySem.W.codeIn K cd50 "ListsMargin.cases_of"=true) (k50:PySem.W.keepIn K (.ref f50)=true)
 (l51:K.lookup f51=some ⟨oc51,od51,.func (PySem.W.fnOf "least" "ListsMargin.least" (Ao AQ) (Am AQ) (Af AQ) .none kV51 dc51 pm51 an51 cd51 ct51),sl51⟩) (c51:PySem.W.codeIn K cd51 "ListsMargin.least"=true) (k51:PySem.W.keepIn K (.ref f51)=true)
 (l52:K.lookup f52=some ⟨oc52,od52,.func (PySem.W.fnOf "high" "ListsMargin.high" (Ao AX) (Am AX) (Af AX) .none kV52 dc52 pm52 an52 cd52 ct52),sl52⟩) (c52:PySem.W.codeIn K cd52 "ListsMargin.high"=true) (k52:PySem.W.keepIn K (.ref f52)=true)
 (l53:K.lookup f53=some ⟨oc53,od53,.func (PySem.W.fnOf "told" "Margin.told" (Ao BW) (Am BW) (Af BW) .none kV53 dc53 pm53 an53 cd53 ct53),sl53⟩) (c53:PySem.W.codeIn K cd53 "Margin.told"=true) (k53:PySem.W.keepIn K (.ref f53)=true)
 (a54:PySem.W.nsIn K mainGlobals "_law_like_anew"=some (some (.ref f54)))
 (l54:K.lookup f54=some ⟨oc54,od54,.func (PySem.W.fnOf "_law_like_anew" "_law_like_anew" (Ao B2) (Am B2) (Af B2) .none kV54 dc54 pm54 an54 cd54 ct54),sl54⟩) (c54:PySem.W.codeIn K cd54 "_law_like_anew"=true) (k54:PySem.W.keepIn K (.ref f54)=true)
 (a55:PySem.W.nsIn K mainGlobals "law"=some (some (.ref f55)))
 (l55:K.lookup f55=some ⟨oc55,od55,.func (PySem.W.fnOf "law" "law" (Ao FI) (Am FI) (Af FI) .none kV55 dc55 pm55 an55 cd55 ct55),sl55⟩) (c55:PySem.W.codeIn K cd55 "law"=true) (k55:PySem.W.keepIn K (.ref f55)=true)
 (z0:PySem.W.nsIn K mainGlobals "abs"=some none)
 (z1:PySem.W.nsIn K mainGlobals "all"=some none)
 (z2:PySem.W.nsIn K mainGlobals "bool"=some none)
 (z3:PySem.W.nsIn K mainGlobals "dict"=some none)
 (z4:PySem.W.nsIn K mainGlobals "int"=some none)
 (z5:PySem.W.nsIn K mainGlobals "isinstance"=some none)
 (z6:PySem.W.nsIn K mainGlobals "len"=some none)
 (z7:PySem.W.nsIn K mainGlobals "list"=some none)
 (z8:PySem.W.nsIn K mainGlobals "max"=some none)
 (z9:PySem.W.nsIn K mainGlobals "min"=some none)
 (z10:PySem.W.nsIn K mainGlobals "range"=some none)
 (z11:PySem.W.nsIn K mainGlobals "sorted"=some none)
 (z12:PySem.W.nsIn K mainGlobals "sum"=some none)
 (z13:PySem.W.nsIn K mainGlobals "tuple"=some none)
 (kc_MOST_HANDS:PySem.W.nsIn K mainGlobals "MOST_HANDS"=some (some (.int 12 t_MOST_HANDS)))
 (kc_MOST_SEATS:PySem.W.nsIn K mainGlobals "MOST_SEATS"=some (some (.int 60 t_MOST_SEATS)))
 (kc_MOST_STEP:PySem.W.nsIn K mainGlobals "MOST_STEP"=some (some (.int 9 t_MOST_STEP)))
 (mc_Lists:PySem.W.nsIn K mainGlobals "Lists"=some (some (.ref c_Lists))) (pg_Lists:PySem.W.plainGet K c_Lists Str.empty=true) (hd_Lists:PySem.W.hasDictIn K c_Lists=true) (po_Lists:PySem.W.plainOver K c_Lists=true) (sa_Lists:PySem.W.findIn K (.ref c_Lists) "__setattr__"=some (some (.builtin "object.__setattr__")))
 (mm_Lists:PySem.W.makesIn K c_Lists=true) (mi_Lists:PySem.W.findIn K (.ref c_Lists) "__init__"=some (some (.ref f43))) (mf_Lists:PySem.W.isFn K (.ref f43)=true) (mk_Lists:PySem.W.keepIn K (.ref c_Lists)=true)
 (ma_Lists_least_votes:PySem.W.findIn K (.ref c_Lists) "least_votes"=some (some (.ref f29))) (mn_Lists_least_votes:PySem.W.isFn K (.ref f29)=true)
 (ma_Lists_mark:PySem.W.findIn K (.ref c_Lists) "mark"=some (some (.ref f39))) (mn_Lists_mark:PySem.W.isFn K (.ref f39)=true)
 (ma_Lists_mark_or_none:PySem.W.findIn K (.ref c_Lists) "mark_or_none"=some (some (.ref f44))) (mn_Lists_mark_or_none:PySem.W.isFn K (.ref f44)=true)
 (ma_Lists_marks_of:PySem.W.findIn K (.ref c_Lists) "marks_of"=some (some (.ref f45))) (mn_Lists_marks_of:PySem.W.isFn K (.ref f45)=true)
 (ma_Lists_greatest_mark:PySem.W.findIn K (.ref c_Lists) "greatest_mark"=some (some (.ref f30))) (mn_Lists_greatest_mark:PySem.W.isFn K (.ref f30)=true)
 (ma_Lists_rounds_of:PySem.W.findIn K (.ref c_Lists) "rounds_of"=some (some (.ref f46))) (mn_Lists_rounds_of:PySem.W.isFn K (.ref f46)=true)
 (ma_Lists_counted:PySem.W.findIn K (.ref c_Lists) "counted"=some (some (.ref f47))) (mn_Lists_counted:PySem.W.isFn K (.ref f47)=true)
 (ma_Lists_told_by:PySem.W.findIn K (.ref c_Lists) "told_by"=some (some (.ref f15))) (mn_Lists_told_by:PySem.W.isFn K (.ref f15)=true)
 (ma_Lists_outcome:PySem.W.findIn K (.ref c_Lists) "outcome"=some (some (.ref f48))) (mn_Lists_outcome:PySem.W.isFn K (.ref f48)=true)
 (ma_Lists_ahead:PySem.W.findIn K (.ref c_Lists) "ahead"=some (some (.ref f14))) (mn_Lists_ahead:PySem.W.isFn K (.ref f14)=true)
 (na_Lists_hands:PySem.W.findIn K (.ref c_Lists) "hands"=some none)
 (na_Lists_seats:PySem.W.findIn K (.ref c_Lists) "seats"=some none)
 (na_Lists_lots:PySem.W.findIn K (.ref c_Lists) "lots"=some none)
 (na_Lists_hurdle:PySem.W.findIn K (.ref c_Lists) "hurdle"=some none)
 (na_Lists_step:PySem.W.findIn K (.ref c_Lists) "step"=some none)
 (mc_Way:PySem.W.nsIn K mainGlobals "Way"=some (some (.ref c_Way))) (pg_Way:PySem.W.plainGet K c_Way Str.empty=true) (hd_Way:PySem.W.hasDictIn K c_Way=true) (po_Way:PySem.W.plainOver K c_Way=true) (sa_Way:PySem.W.findIn K (.ref c_Way) "__setattr__"=some (some (.builtin "object.__setattr__")))
 (cs_Way:PySem.W.specialIn K (.ref c_Way) "__getattribute__"=some (some (.builtin "type.__getattribute__"))) (cr_Way:PySem.W.readsIn K c_Way (.type "type")=true)
 (ca_Way_init__:PySem.W.findCls K (.ref c_Way) (.type "type") "__init__"=some (.val (.ref f38)))
 (mc_ListsMargin:PySem.W.nsIn K mainGlobals "ListsMargin"=some (some (.ref c_ListsMargin))) (pg_ListsMargin:PySem.W.plainGet K c_ListsMargin Str.empty=true) (hd_ListsMargin:PySem.W.hasDictIn K c_ListsMargin=true) (po_ListsMargin:PySem.W.plainOver K c_ListsMargin=true) (sa_ListsMargin:PySem.W.findIn K (.ref c_ListsMargin) "__setattr__"=some (some (.builtin "object.__setattr__")))
 (mm_ListsMargin:PySem.W.makesIn K c_ListsMargin=true) (mi_ListsMargin:PySem.W.findIn K (.ref c_ListsMargin) "__init__"=some (some (.ref f16))) (mf_ListsMargin:PySem.W.isFn K (.ref f16)=true) (mk_ListsMargin:PySem.W.keepIn K (.ref c_ListsMargin)=true)
 (ma_ListsMargin_votes_to_overtake:PySem.W.findIn K (.ref c_ListsMargin) "votes_to_overtake"=some (some (.ref f32))) (mn_ListsMargin_votes_to_overtake:PySem.W.isFn K (.ref f32)=true)
 (ma_ListsMargin_cases_of_hand:PySem.W.findIn K (.ref c_ListsMargin) "cases_of_hand"=some (some (.ref f40))) (mn_ListsMargin_cases_of_hand:PySem.W.isFn K (.ref f40)=true)
 (ma_ListsMargin_cases_of:PySem.W.findIn K (.ref c_ListsMargin) "cases_of"=some (some (.ref f50))) (mn_ListsMargin_cases_of:PySem.W.isFn K (.ref f50)=true)
 (ma_ListsMargin_least:PySem.W.findIn K (.ref c_ListsMargin) "least"=some (some (.ref f51))) (mn_ListsMargin_least:PySem.W.isFn K (.ref f51)=true)
 (ma_ListsMargin_possible:PySem.W.findIn K (.ref c_ListsMargin) "possible"=some (some (.ref f31))) (mn_ListsMargin_possible:PySem.W.isFn K (.ref f31)=true)
 (ma_ListsMargin_change_for:PySem.W.findIn K (.ref c_ListsMargin) "change_for"=some (some (.ref f41))) (mn_ListsMargin_change_for:PySem.W.isFn K (.ref f41)=true)
 (ma_ListsMargin_high:PySem.W.findIn K (.ref c_ListsMargin) "high"=some (some (.ref f52))) (mn_ListsMargin_high:PySem.W.isFn K (.ref f52)=true)
 (ma_ListsMargin_told:PySem.W.findIn K (.ref c_ListsMargin) "told"=some (some (.ref f53))) (mn_ListsMargin_told:PySem.W.isFn K (.ref f53)=true)
 (na_ListsMargin_way:PySem.W.findIn K (.ref c_ListsMargin) "way"=some none)
 (ja_ListsMargin_Margin:PySem.W.findIn K (.ref c_ListsMargin) "__class__"=some (some (.builtin "object.__class__"))) (jb_ListsMargin_Margin:PySem.W.specialIn K (.builtin "object.__class__") "__get__"=some (some (.builtin "getset_descriptor.__get__"))) (jc_ListsMargin_Margin:PySem.W.takesIn K (.builtin "object.__class__")=some true) (jd_ListsMargin_Margin:PySem.W.mroIn K c_ListsMargin (.type "object")=some true) (je_ListsMargin_Margin:PySem.W.kitOne K (.ref c_ListsMargin) (.ref c_Margin)=some true)
 (mc_Margin:PySem.W.nsIn K mainGlobals "Margin"=some (some (.ref c_Margin))) (pg_Margin:PySem.W.plainGet K c_Margin Str.empty=true) (hd_Margin:PySem.W.hasDictIn K c_Margin=true) (po_Margin:PySem.W.plainOver K c_Margin=true) (sa_Margin:PySem.W.findIn K (.ref c_Margin) "__setattr__"=some (some (.builtin "object.__setattr__"))) :
 ∃fd:FuncData,(∀(s:Shared) (v:Value),BindsTo s fd ⟨[v],[]⟩ [("_law_script",v)])/\∀base:Heap,K.In base->base.Ns mainGlobals mg->AO l.prog w K mg base CX0 14 fa fd ["_law_script"] (KR K):=by
 have e:=hfa.symm.trans (PySem.W.mg_of X G a55)
 cases e
 have F1:=A1 (st:=Dd) l1 c1 k1
 have b1:=F1.binds (ps:=["thing"]) fun _ _ _ _ _ _ us hl=>match us,hl with | [_],_=>rfl
 have F2:=A1 (st:=Dz) l2 c2 k2
 have b2:=F2.binds (ps:=["one","other"]) fun _ _ _ _ _ _ us hl=>match us,hl with | [_,_],_=>rfl
 have F3:=A1 (st:=Gh) l3 c3 k3
 have b3:=F3.binds (ps:=["top","bottom"]) fun _ _ _ _ _ _ us hl=>match us,hl with | [_,_],_=>rfl
 have F4:=A1 (st:=Ni) l4 c4 k4
 have b4:=F4.binds (ps:=["top","bottom"]) fun _ _ _ _ _ _ us hl=>match us,hl with | [_,_],_=>rfl
 have F5:=A1 (st:=EL) l5 c5 k5
 have b5:=F5.binds (ps:=["one","other"]) fun _ _ _ _ _ _ us hl=>match us,hl with | [_,_],_=>rfl
 have F6:=A1 (st:=Dh) l6 c6 k6
 have b6:=F6.binds (ps:=["mask","hand"]) fun _ _ _ _ _ _ us hl=>match us,hl with | [_,_],_=>rfl
 have F7:=A1 (st:=Dg) l7 c7 k7
 have b7:=F7.binds (ps:=["mask"]) fun _ _ _ _ _ _ us hl=>match us,hl with | [_],_=>rfl
 have F8:=A1 (st:=BP) l8 c8 k8
 have b8:=F8.binds (ps:=["sheet"]) fun _ _ _ _ _ _ us hl=>match us,hl with | [_],_=>rfl
 have F9:=A1 (st:=D3) l9 c9 k9
 have b9:=F9.binds (ps:=["lines","slip","many"]) fun _ _ _ _ _ _ us hl=>match us,hl with | [_,_,_],_=>rfl
 have F10:=A1 (st:=De) l10 c10 k10
 have b10:=F10.binds (ps:=["_law_script","_law_k"]) fun _ _ _ _ _ _ us hl=>match us,hl with | [_,_],_=>rfl
 have F11:=A1 (st:=CK) l11 c11 k11
 have b11:=F11.binds (ps:=["_law_cell_here","_law_by"]) fun _ _ _ _ _ _ us hl=>match us,hl with | [_,_],_=>rfl
 have F12:=A1 (st:=CM) l12 c12 k12
 have b12:=F12.binds (ps:=["_law_found"]) fun _ _ _ _ _ _ us hl=>match us,hl with | [_],_=>rfl
 have F13:=A1 (st:=BZ) l13 c13 k13
 have b13:=F13.binds (ps:=["_law_one","_law_other"]) fun _ _ _ _ _ _ us hl=>match us,hl with | [_,_],_=>rfl
 have F14:=A1 (st:=CG) l14 c14 k14
 have b14:=F14.binds (ps:=["self","one","other"]) fun _ _ _ _ _ _ us hl=>match us,hl with | [_,_,_],_=>rfl
 have F15:=A1 (st:=Bg) l15 c15 k15
 have b15:=F15.binds (ps:=["self","paper"]) fun _ _ _ _ _ _ us hl=>match us,hl with | [_,_],_=>rfl
 have F16:=A1 (st:=BV) l16 c16 k16
 have b16:=F16.binds (ps:=["self","way"]) fun _ _ _ _ _ _ us hl=>match us,hl with | [_,_],_=>rfl
 have F17:=A1 (st:=Dc) l17 c17 k17
 have b17:=F17.binds (ps:=["top","bottom"]) fun _ _ _ _ _ _ us hl=>match us,hl with | [_,_],_=>rfl
 have F18:=A1 (st:=CH) l18 c18 k18
 have b18:=F18.binds (ps:=["thing"]) fun _ _ _ _ _ _ us hl=>match us,hl with | [_],_=>rfl
 have F19:=A1 (st:=CI) l19 c19 k19
 have b19:=F19.binds (ps:=["thing"]) fun _ _ _ _ _ _ us hl=>match us,hl with | [_],_=>rfl
 have F20:=A1 (st:=CA) l20 c20 k20
 have b20:=F20.binds (ps:=["thing","hands"]) fun _ _ _ _ _ _ us hl=>match us,hl with | [_,_],_=>rfl
 have F21:=A1 (st:=D4) l21 c21 k21
 have b21:=F21.binds (ps:=["slip"]) fun _ _ _ _ _ _ us hl=>match us,hl with | [_],_=>rfl
 have F22:=A1 (st:=CJ) l22 c22 k22
 have b22:=F22.binds (ps:=["thing"]) fun _ _ _ _ _ _ us hl=>match us,hl with | [_],_=>rfl
 have F23:=A1 (st:=D0) l23 c23 k23
 have b23:=F23.binds (ps:=["thing"]) fun _ _ _ _ _ _ us hl=>match us,hl with | [_],_=>rfl
 have F24:=A1 (st:=Cp) l24 c24 k24
 have b24:=F24.binds (ps:=["_law_top","_law_bottom"]) fun _ _ _ _ _ _ us hl=>match us,hl with | [_,_],_=>rfl
 have F25:=A1 (st:=Df) l25 c25 k25
 have b25:=F25.binds (ps:=["_law_cell_here","_law_hands"]) fun _ _ _ _ _ _ us hl=>match us,hl with | [_,_],_=>rfl
 have F26:=A1 (st:=Cq) l26 c26 k26
 have b26:=F26.binds (ps:=["_law_cell_here","_law_k","_law_mode"]) fun _ _ _ _ _ _ us hl=>match us,hl with | [_,_,_],_=>rfl
 have F27:=A1 (st:=Ci) l27 c27 k27
 have b27:=F27.binds (ps:=["_law_cell_here","_law_hands"]) fun _ _ _ _ _ _ us hl=>match us,hl with | [_,_],_=>rfl
 have F28:=A1 (st:=Ca) l28 c28 k28
 have b28:=F28.binds (ps:=["_law_slip_here","_law_hands"]) fun _ _ _ _ _ _ us hl=>match us,hl with | [_,_],_=>rfl
 have F29:=A1 (st:=Bd) l29 c29 k29
 have b29:=F29.binds (ps:=["self","ballots"]) fun _ _ _ _ _ _ us hl=>match us,hl with | [_,_],_=>rfl
 have F30:=A1 (st:=AG) l30 c30 k30
 have b30:=F30.binds (ps:=["self","marks"]) fun _ _ _ _ _ _ us hl=>match us,hl with | [_,_],_=>rfl
 have F31:=A1 (st:=AM) l31 c31 k31
 have b31:=F31.binds (ps:=["self","sheet"]) fun _ _ _ _ _ _ us hl=>match us,hl with | [_,_],_=>rfl
 have F32:=A1 (st:=A2) l32 c32 k32
 have b32:=F32.binds (ps:=["self","votes","outcome","b","a"]) fun _ _ _ _ _ _ us hl=>match us,hl with | [_,_,_,_,_],_=>rfl
 have F33:=A1 (st:=CB) l33 c33 k33
 have b33:=F33.binds (ps:=["sheet","hands"]) fun _ _ _ _ _ _ us hl=>match us,hl with | [_,_],_=>rfl
 have F34:=A1 (st:=Cj) l34 c34 k34
 have b34:=F34.binds (ps:=["_law_script","_law_at","_law_hands"]) fun _ _ _ _ _ _ us hl=>match us,hl with | [_,_,_],_=>rfl
 have F35:=A1 (st:=Co) l35 c35 k35
 have b35:=F35.binds (ps:=["_law_cell_here"]) fun _ _ _ _ _ _ us hl=>match us,hl with | [_],_=>rfl
 have F36:=A1 (st:=Ch) l36 c36 k36
 have b36:=F36.binds (ps:=["_law_script","_law_sheet_here","_law_hands","_law_most"]) fun _ _ _ _ _ _ us hl=>match us,hl with | [_,_,_,_],_=>rfl
 have F37:=A1 (st:=B9) l37 c37 k37
 have b37:=F37.binds (ps:=["_law_sheet_here","_law_change","_law_low","_law_hands"]) fun _ _ _ _ _ _ us hl=>match us,hl with | [_,_,_,_],_=>rfl
 have F38:=LY (st:=BO) l38 c38 k38
 have b38_0:A3 K _ ["self","hands","seats","lots"] []:=fun s us X hl=>match us,(show us.length=4 from Nat.add_right_cancel (m:=0) ((List.length_append ..).symm.trans hl)) with | [_,_,_,_],_=>PySem.W.binds_K (fd:=PySem.W.fnOf "__init__" "Way.__init__" (Ao BO) (Am BO) (Af BO) (.ref dT38) kV38 dc38 pm38 an38 cd38 ct38) X rfl dl38 rfl rfl rfl
 have F39:=A1 (st:=Cn) l39 c39 k39
 have b39:=F39.binds (ps:=["self","many","had"]) fun _ _ _ _ _ _ us hl=>match us,hl with | [_,_,_],_=>rfl
 have F40:=A1 (st:=A9) l40 c40 k40
 have b40:=F40.binds (ps:=["self","votes","outcome","least","b"]) fun _ _ _ _ _ _ us hl=>match us,hl with | [_,_,_,_,_],_=>rfl
 have F41:=A1 (st:=A4) l41 c41 k41
 have b41:=F41.binds (ps:=["self","sheet","word","b","a","many"]) fun _ _ _ _ _ _ us hl=>match us,hl with | [_,_,_,_,_,_],_=>rfl
 have F42:=A1 (st:=D1) l42 c42 k42
 have b42:=F42.binds (ps:=["_law_script","_law_hands"]) fun _ _ _ _ _ _ us hl=>match us,hl with | [_,_],_=>rfl
 have F43:=LY (st:=Bs) l43 c43 k43
 have b43_0:A3 K _ ["self","hands","seats","lots","hurdle","step"] []:=fun s us X hl=>match us,(show us.length=6 from Nat.add_right_cancel (m:=0) ((List.length_append ..).symm.trans hl)) with | [_,_,_,_,_,_],_=>PySem.W.binds_K (fd:=PySem.W.fnOf "__init__" "Lists.__init__" (Ao Bs) (Am Bs) (Af Bs) (.ref dT43) kV43 dc43 pm43 an43 cd43 ct43) X rfl dl43 rfl rfl rfl
 have F44:=A1 (st:=AZ) l44 c44 k44
 have b44:=F44.binds (ps:=["self","many","least","had"]) fun _ _ _ _ _ _ us hl=>match us,hl with | [_,_,_,_],_=>rfl
 have F45:=A1 (st:=Bk) l45 c45 k45
 have b45:=F45.binds (ps:=["self","votes","least","had"]) fun _ _ _ _ _ _ us hl=>match us,hl with | [_,_,_,_],_=>rfl
 have F46:=A1 (st:=Bb) l46 c46 k46
 have b46:=F46.binds (ps:=["self","votes","least"]) fun _ _ _ _ _ _ us hl=>match us,hl with | [_,_,_],_=>rfl
 have F47:=A1 (st:=B1) l47 c47 k47
 have b47:=F47.binds (ps:=["self","sheet"]) fun _ _ _ _ _ _ us hl=>match us,hl with | [_,_],_=>rfl
 have F48:=A1 (st:=BX) l48 c48 k48
 have b48:=F48.binds (ps:=["self","sheet"]) fun _ _ _ _ _ _ us hl=>match us,hl with | [_,_],_=>rfl
 have F49:=A1 (st:=BY) l49 c49 k49
 have b49:=F49.binds (ps:=["_law_way_here","_law_sheet_here","_law_change","_law_low","_law_seats"]) fun _ _ _ _ _ _ us hl=>match us,hl with | [_,_,_,_,_],_=>rfl
 have F50:=A1 (st:=AC) l50 c50 k50
 have b50:=F50.binds (ps:=["self","sheet"]) fun _ _ _ _ _ _ us hl=>match us,hl with | [_,_],_=>rfl
 have F51:=A1 (st:=AQ) l51 c51 k51
 have b51:=F51.binds (ps:=["self","sheet"]) fun _ _ _ _ _ _ us hl=>match us,hl with | [_,_],_=>rfl
 have F52:=A1 (st:=AX) l52 c52 k52
 have b52:=F52.binds (ps:=["self","sheet"]) fun _ _ _ _ _ _ us hl=>match us,hl with | [_,_],_=>rfl
 have F53:=A1 (st:=BW) l53 c53 k53
 have b53:=F53.binds (ps:=["self","sheet"]) fun _ _ _ _ _ _ us hl=>match us,hl with | [_,_],_=>rfl
 have F54:=A1 (st:=B2) l54 c54 k54
 have b54:=F54.binds (ps:=["_law_margin","_law_way_here","_law_other"]) fun _ _ _ _ _ _ us hl=>match us,hl with | [_,_,_],_=>rfl
 have F55:=A1 (st:=FI) l55 c55 k55
 have b55:=F55.binds (ps:=["_law_script"]) fun _ _ _ _ _ _ us hl=>match us,hl with | [_],_=>rfl
 have T:Tx K mg (⟨f1,_,f2,_,f3,_,f4,_,f5,_,f6,_,f7,_,f8,_,f9,_,f10,_,f11,_,f12,_,f13,_,f14,_,f15,_,f16,_,f17,_,f18,_,f19,_,f20,_,f21,_,f22,_,f23,_,f24,_,f25,_,f26,_,f27,_,f28,_,f29,_,f30,_,f31,_,f32,_,f33,_,f34,_,f35,_,f36,_,f37,_,f38,_,f39,_,f40,_,f41,_,f42,_,f43,_,f44,_,f45,_,f46,_,f47,_,f48,_,f49,_,f50,_,f51,_,f52,_,f53,_,f54,_,fa,_,c_Lists,c_Way,c_ListsMargin,c_Margin,t_MOST_HANDS,t_MOST_SEATS,t_MOST_STEP,td_Lists_init2⟩:Ads):=⟨F1,b1,PySem.W.mg_of X G a1,F2,b2,PySem.W.mg_of X G a2,F3,b3,PySem.W.mg_of X G a3,F4,b4,PySem.W.mg_of X G a4,F5,b5,PySem.W.mg_of X G a5,F6,b6,PySem.W.mg_of X G a6,F7,b7,PySem.W.mg_of X G a7,F8,b8,PySem.W.mg_of X G a8,F9,b9,PySem.W.mg_of X G a9,F10,b10,PySem.W.mg_of X G a10,F11,b11,PySem.W.mg_of X G a11,F12,b12,PySem.W.mg_of X G a12,F13,b13,PySem.W.mg_of X G a13,F14,b14,F15,b15,F16,b16,F17,b17,PySem.W.mg_of X G a17,F18,b18,PySem.W.mg_of X G a18,F19,b19,PySem.W.mg_of X G a19,F20,b20,PySem.W.mg_of X G a20,F21,b21,PySem.W.mg_of X G a21,F22,b22,PySem.W.mg_of X G a22,F23,b23,PySem.W.mg_of X G a23,F24,b24,PySem.W.mg_of X G a24,F25,b25,PySem.W.mg_of X G a25,F26,b26,PySem.W.mg_of X G a26,F27,b27,PySem.W.mg_of X G a27,F28,b28,PySem.W.mg_of X G a28,F29,b29,F30,b30,F31,b31,F32,b32,F33,b33,PySem.W.mg_of X G a33,F34,b34,PySem.W.mg_of X G a34,F35,b35,PySem.W.mg_of X G a35,F36,b36,PySem.W.mg_of X G a36,F37,b37,PySem.W.mg_of X G a37,F38,b38_0,F39,b39,F40,b40,F41,b41,F42,b42,PySem.W.mg_of X G a42,F43,b43_0,F44,b44,F45,b45,F46,b46,F47,b47,F48,b48,F49,b49,PySem.W.mg_of X G a49,F50,b50,F51,b51,F52,b52,F53,b53,F54,b54,PySem.W.mg_of X G a54,F55,b55,PySem.W.mg_of X G a55,PySem.W.mg_none_of X G z0,PySem.W.mg_none_of X G z1,PySem.W.mg_none_of X G z2,PySem.W.mg_none_of X G z3,PySem.W.mg_none_of X G z4,PySem.W.mg_none_of X G z5,PySem.W.mg_none_of X G z6,PySem.W.mg_none_of X G z7,PySem.W.mg_none_of X G z8,PySem.W.mg_none_of X G z9,PySem.W.mg_none_of X G z10,PySem.W.mg_none_of X G z11,PySem.W.mg_none_of X G z12,PySem.W.mg_none_of X G z13,PySem.W.mg_of X G kc_MOST_HANDS,PySem.W.mg_of X G kc_MOST_SEATS,PySem.W.mg_of X G kc_MOST_STEP,PySem.W.mg_of X G mc_Lists,⟨pg_Lists,hd_Lists,po_Lists,sa_Lists⟩,⟨mm_Lists,mi_Lists,mf_Lists,mk_Lists⟩,⟨ma_Lists_least_votes,mn_Lists_least_votes,k29⟩,⟨ma_Lists_mark,mn_Lists_mark,k39⟩,⟨ma_Lists_mark_or_none,mn_Lists_mark_or_none,k44⟩,⟨ma_Lists_marks_of,mn_Lists_marks_of,k45⟩,⟨ma_Lists_greatest_mark,mn_Lists_greatest_mark,k30⟩,⟨ma_Lists_rounds_of,mn_Lists_rounds_of,k46⟩,⟨ma_Lists_counted,mn_Lists_counted,k47⟩,⟨ma_Lists_told_by,mn_Lists_told_by,k15⟩,⟨ma_Lists_outcome,mn_Lists_outcome,k48⟩,⟨ma_Lists_ahead,mn_Lists_ahead,k14⟩,na_Lists_hands,na_Lists_seats,na_Lists_lots,na_Lists_hurdle,na_Lists_step,PySem.W.mg_of X G mc_Way,⟨pg_Way,hd_Way,po_Way,sa_Way⟩,⟨cs_Way,cr_Way,ca_Way_init__⟩,PySem.W.mg_of X G mc_ListsMargin,⟨pg_ListsMargin,hd_ListsMargin,po_ListsMargin,sa_ListsMargin⟩,⟨mm_ListsMargin,mi_ListsMargin,mf_ListsMargin,mk_ListsMargin⟩,⟨ma_ListsMargin_votes_to_overtake,mn_ListsMargin_votes_to_overtake,k32⟩,⟨ma_ListsMargin_cases_of_hand,mn_ListsMargin_cases_of_hand,k40⟩,⟨ma_ListsMargin_cases_of,mn_ListsMargin_cases_of,k50⟩,⟨ma_ListsMargin_least,mn_ListsMargin_least,k51⟩,⟨ma_ListsMargin_possible,mn_ListsMargin_possible,k31⟩,⟨ma_ListsMargin_change_for,mn_ListsMargin_change_for,k41⟩,⟨ma_ListsMargin_high,mn_ListsMargin_high,k52⟩,⟨ma_ListsMargin_told,mn_ListsMargin_told,k53⟩,na_ListsMargin_way,⟨ja_ListsMargin_Margin,jb_ListsMargin_Margin,jc_ListsMargin_Margin,jd_ListsMargin_Margin,je_ListsMargin_Margin⟩,PySem.W.mg_of X G mc_Margin,⟨pg_Margin,hd_Margin,po_Margin,sa_Margin⟩⟩
 exact ⟨PySem.W.fnOf "law" "law" (Ao FI) (Am FI) (Af FI) .none kV55 dc55 pm55 an55 cd55 ct55,fun s v=>.of_eq rfl,fun base _ _=>Qu T⟩
theorem walk {l:PySem.W.OpenLaw} {q:Program} {loose:List Str} {XP:(Str->Option Value)->Heap->Prop} {YP:World->Heap->Prop} {d:DefRec} {K:Params->PySem.W.Frag} (hn:l.most=some 63) (hdf:d.params.defaults=[])
 (hY:∀(w:World) (h:Heap),YP w h->(K w.params).In h)
 (F:∀(w:World) (mg:Str->Option Value) (fa:Addr) (h:Heap),(K w.params).In h->h.Ns mainGlobals mg->mg d.name=some (.ref fa) ->
  ∃fd:FuncData,(∀(s:Shared) (u:Value),BindsTo s fd ⟨[u],[]⟩ [("_law_script",u)])/\∀base:Heap,(K w.params).In base->base.Ns mainGlobals mg->AO l.prog w (K w.params) mg base CX0 14 fa fd ["_law_script"] (KR (K w.params))) :
 PySem.W.WalkO q loose XP YP l.row.toRowW d [] (fun f vs=>PySem.call f vs) :=
 L2.walk_of (n:=63) (k:=14) (x:="_law_script") (CX:=fun _=>CX0) (sp:=fun w=>KR (K w.params)) hn (by decide) hdf ⟨rfl,by decide,by decide⟩ hY F (fun _ _ a ns hl _ hS=>⟨a,ns,rfl,hS,hl,fun _=>rfl⟩) fun _ _ _ _ _ z=>z
end Law
open PySem PySem.W PyProof.Rows
set_option maxRecDepth 100000 in
set_option maxHeartbeats 0 in
theorem PySem.Challenge.cw_pollproof_k87_whole_margin_of_lists_holds : PySem.Challenge.rw_pollproof_k87_whole_margin_of_lists.Holds := by
 refine Head.top ?_
 k_fill
 refine Law.walk (l:=PySem.Challenge.rw_pollproof_k87_whole_margin_of_lists) rfl rfl (fun w h Y=>PySem.W.km_in_of Y) ?F
 case F =>
  intro w mg fa h KX G hmg
  refine' Law.all_mk KX G hmg ?a1 ?l1 ?c1 ?k1 ?a2 ?l2 ?c2 ?k2 ?a3 ?l3 ?c3 ?k3 ?a4 ?l4 ?c4 ?k4 ?a5 ?l5 ?c5 ?k5 ?a6 ?l6 ?c6 ?k6 ?a7 ?l7 ?c7 ?k7 ?a8 ?l8 ?c8 ?k8 ?a9 ?l9 ?c9 ?k9 ?a10 ?l10 ?c10 ?k10 ?a11 ?l11 ?c11 ?k11 ?a12 ?l12 ?c12 ?k12 ?a13 ?l13 ?c13 ?k13 ?l14 ?c14 ?k14 ?l15 ?c15 ?k15 ?l16 ?c16 ?k16 ?a17 ?l17 ?c17 ?k17 ?a18 ?l18 ?c18 ?k18 ?a19 ?l19 ?c19 ?k19 ?a20 ?l20 ?c20 ?k20 ?a21 ?l21 ?c21 ?k21 ?a22 ?l22 ?c22 ?k22 ?a23 ?l23 ?c23 ?k23 ?a24 ?l24 ?c24 ?k24 ?a25 ?l25 ?c25 ?k25 ?a26 ?l26 ?c26 ?k26 ?a27 ?l27 ?c27 ?k27 ?a28 ?l28 ?c28 ?k28 ?l29 ?c29 ?k29 ?l30 ?c30 ?k30 ?l31 ?c31 ?k31 ?l32 ?c32 ?k32 ?a33 ?l33 ?c33 ?k33 ?a34 ?l34 ?c34 ?k34 ?a35 ?l35 ?c35 ?k35 ?a36 ?l36 ?c36 ?k36 ?a37 ?l37 ?c37 ?k37 ?l38 ?c38 ?k38 ?dl38 ?l39 ?c39 ?k39 ?l40 ?c40 ?k40 ?l41 ?c41 ?k41 ?a42 ?l42 ?c42 ?k42 ?l43 ?c43 ?k43 ?dl43 ?l44 ?c44 ?k44 ?l45 ?c45 ?k45 ?l46 ?c46 ?k46 ?l47 ?c47 ?k47 ?l48 ?c48 ?k48 ?a49 ?l49 ?c49 ?k49 ?l50 ?c50 ?k50 ?l51 ?c51 ?k51 ?l52 ?c52 ?k52 ?l53 ?c53 ?k53 ?a54 ?l54 ?c54 ?k54 ?a55 ?l55 ?c55 ?k55 ?z0 ?z1 ?z2 ?z3 ?z4 ?z5 ?z6 ?z7 ?z8 ?z9 ?z10 ?z11 ?z12 ?z13 ?kc_MOST_HANDS ?kc_MOST_SEATS ?kc_MOST_STEP ?mc_Lists ?pg_Lists ?hd_Lists ?po_Lists ?sa_Lists ?mm_Lists ?mi_Lists ?mf_Lists ?mk_Lists ?ma_Lists_least_votes ?mn_Lists_least_votes ?ma_Lists_mark ?mn_Lists_mark ?ma_Lists_mark_or_none ?mn_Lists_mark_or_none ?ma_Lists_marks_of ?mn_Lists_marks_of ?ma_Lists_greatest_mark ?mn_Lists_greatest_mark ?ma_Lists_rounds_of ?mn_Lists_rounds_of ?ma_Lists_counted ?mn_Lists_counted ?ma_Lists_told_by ?mn_Lists_told_by ?ma_Lists_outcome ?mn_Lists_outcome ?ma_Lists_ahead ?mn_Lists_ahead ?na_Lists_hands ?na_Lists_seats ?na_Lists_lots ?na_Lists_hurdle ?na_Lists_step ?mc_Way ?pg_Way ?hd_Way ?po_Way ?sa_Way ?cs_Way ?cr_Way ?ca_Way_init__ ?mc_ListsMargin ?pg_ListsMargin ?hd_ListsMargin ?po_ListsMargin ?sa_ListsMargin ?mm_ListsMargin ?mi_ListsMargin ?mf_ListsMargin ?mk_ListsMargin ?ma_ListsMargin_votes_to_overtake ?mn_ListsMargin_votes_to_overtake ?ma_ListsMargin_cases_of_hand ?mn_ListsMargin_cases_of_hand ?ma_ListsMargin_cases_of ?mn_ListsMargin_cases_of ?ma_ListsMargin_least ?mn_ListsMargin_least ?ma_ListsMargin_possible ?mn_ListsMargin_possible ?ma_ListsMargin_change_for ?mn_ListsMargin_change_for ?ma_ListsMargin_high ?mn_ListsMargin_high ?ma_ListsMargin_told ?mn_ListsMargin_told ?na_ListsMargin_way ?ja_ListsMargin_Margin ?jb_ListsMargin_Margin ?jc_ListsMargin_Margin ?jd_ListsMargin_Margin ?je_ListsMargin_Margin ?mc_Margin ?pg_Margin ?hd_Margin ?po_Margin ?sa_Margin
  (case a1=>k_is)
  (case l1=>k_is)
  (case c1=>k_is)
  (case k1=>k_is)
  (case a2=>k_is)
  (case l2=>k_is)
  (case c2=>k_is)
  (case k2=>k_is)
  (case a3=>k_is)
  (case l3=>k_is)
  (case c3=>k_is)
  (case k3=>k_is)
  (case a4=>k_is)
  (case l4=>k_is)
  (case c4=>k_is)
  (case k4=>k_is)
  (case a5=>k_is)
  (case l5=>k_is)
  (case c5=>k_is)
  (case k5=>k_is)
  (case a6=>k_is)
  (case l6=>k_is)
  (case c6=>k_is)
  (case k6=>k_is)
  (case a7=>k_is)
  (case l7=>k_is)
  (case c7=>k_is)
  (case k7=>k_is)
  (case a8=>k_is)
  (case l8=>k_is)
  (case c8=>k_is)
  (case k8=>k_is)
  (case a9=>k_is)
  (case l9=>k_is)
  (case c9=>k_is)
  (case k9=>k_is)
  (case a10=>k_is)
  (case l10=>k_is)
  (case c10=>k_is)
  (case k10=>k_is)
  (case a11=>k_is)
  (case l11=>k_is)
  (case c11=>k_is)
  (case k11=>k_is)
  (case a12=>k_is)
  (case l12=>k_is)
  (case c12=>k_is)
  (case k12=>k_is)
  (case a13=>k_is)
  (case l13=>k_is)
  (case c13=>k_is)
  (case k13=>k_is)
  (case a17=>k_is)
  (case l17=>k_is)
  (case c17=>k_is)
  (case k17=>k_is)
  (case a18=>k_is)
  (case l18=>k_is)
  (case c18=>k_is)
  (case k18=>k_is)
  (case a19=>k_is)
  (case l19=>k_is)
  (case c19=>k_is)
  (case k19=>k_is)
  (case a20=>k_is)
  (case l20=>k_is)
  (case c20=>k_is)
  (case k20=>k_is)
  (case a21=>k_is)
  (case l21=>k_is)
  (case c21=>k_is)
  (case k21=>k_is)
  (case a22=>k_is)
  (case l22=>k_is)
  (case c22=>k_is)
  (case k22=>k_is)
  (case a23=>k_is)
  (case l23=>k_is)
  (case c23=>k_is)
  (case k23=>k_is)
  (case a24=>k_is)
  (case l24=>k_is)
  (case c24=>k_is)
  (case k24=>k_is)
  (case a25=>k_is)
  (case l25=>k_is)
  (case c25=>k_is)
  (case k25=>k_is)
  (case a26=>k_is)
  (case l26=>k_is)
  (case c26=>k_is)
  (case k26=>k_is)
  (case a27=>k_is)
  (case l27=>k_is)
  (case c27=>k_is)
  (case k27=>k_is)
  (case a28=>k_is)
  (case l28=>k_is)
  (case c28=>k_is)
  (case k28=>k_is)
  (case a33=>k_is)
  (case l33=>k_is)
  (case c33=>k_is)
  (case k33=>k_is)
  (case a34=>k_is)
  (case l34=>k_is)
  (case c34=>k_is)
  (case k34=>k_is)
  (case a35=>k_is)
  (case l35=>k_is)
  (case c35=>k_is)
  (case k35=>k_is)
  (case a36=>k_is)
  (case l36=>k_is)
  (case c36=>k_is)
  (case k36=>k_is)
  (case a37=>k_is)
  (case l37=>k_is)
  (case c37=>k_is)
  (case k37=>k_is)
  (case a42=>k_is)
  (case l42=>k_is)
  (case c42=>k_is)
  (case k42=>k_is)
  (case a49=>k_is)
  (case l49=>k_is)
  (case c49=>k_is)
  (case k49=>k_is)
  (case a54=>k_is)
  (case l54=>k_is)
  (case c54=>k_is)
  (case k54=>k_is)
  (case a55=>k_is)
  (case l55=>k_is)
  (case c55=>k_is)
  (case k55=>k_is)
  (case z0=>k_is)
  (case z1=>k_is)
  (case z2=>k_is)
  (case z3=>k_is)
  (case z4=>k_is)
  (case z5=>k_is)
  (case z6=>k_is)
  (case z7=>k_is)
  (case z8=>k_is)
  (case z9=>k_is)
  (case z10=>k_is)
  (case z11=>k_is)
  (case z12=>k_is)
  (case z13=>k_is)
  (case kc_MOST_HANDS=>k_is)
  (case kc_MOST_SEATS=>k_is)
  (case kc_MOST_STEP=>k_is)
  (case mc_Lists=>k_is)
  (case pg_Lists=>k_is)
  (case hd_Lists=>k_is)
  (case po_Lists=>k_is)
  (case sa_Lists=>k_is)
  (case mm_Lists=>k_is)
  (case mi_Lists=>k_is)
  (case mf_Lists=>k_is)
  (case mk_Lists=>k_is)
  (case ma_Lists_least_votes=>k_is)
  (case mn_Lists_least_votes=>k_is)
  (case ma_Lists_mark=>k_is)
  (case mn_Lists_mark=>k_is)
  (case ma_Lists_mark_or_none=>k_is)
  (case mn_Lists_mark_or_none=>k_is)
  (case ma_Lists_marks_of=>k_is)
  (case mn_Lists_marks_of=>k_is)
  (case ma_Lists_greatest_mark=>k_is)
  (case mn_Lists_greatest_mark=>k_is)
  (case ma_Lists_rounds_of=>k_is)
  (case mn_Lists_rounds_of=>k_is)
  (case ma_Lists_counted=>k_is)
  (case mn_Lists_counted=>k_is)
  (case ma_Lists_told_by=>k_is)
  (case mn_Lists_told_by=>k_is)
  (case ma_Lists_outcome=>k_is)
  (case mn_Lists_outcome=>k_is)
  (case ma_Lists_ahead=>k_is)
  (case mn_Lists_ahead=>k_is)
  (case na_Lists_hands=>k_is)
  (case na_Lists_seats=>k_is)
  (case na_Lists_lots=>k_is)
  (case na_Lists_hurdle=>k_is)
  (case na_Lists_step=>k_is)
  (case mc_Way=>k_is)
  (case pg_Way=>k_is)
  (case hd_Way=>k_is)
  (case po_Way=>k_is)
  (case sa_Way=>k_is)
  (case cs_Way=>k_is)
  (case cr_Way=>k_is)
  (case ca_Way_init__=>k_is)
  (case mc_ListsMargin=>k_is)
  (case pg_ListsMargin=>k_is)
  (case hd_ListsMargin=>k_is)
  (case po_ListsMargin=>k_is)
  (case sa_ListsMargin=>k_is)
  (case mm_ListsMargin=>k_is)
  (case mi_ListsMargin=>k_is)
  (case mf_ListsMargin=>k_is)
  (case mk_ListsMargin=>k_is)
  (case ma_ListsMargin_votes_to_overtake=>k_is)
  (case mn_ListsMargin_votes_to_overtake=>k_is)
  (case ma_ListsMargin_cases_of_hand=>k_is)
  (case mn_ListsMargin_cases_of_hand=>k_is)
  (case ma_ListsMargin_cases_of=>k_is)
  (case mn_ListsMargin_cases_of=>k_is)
  (case ma_ListsMargin_least=>k_is)
  (case mn_ListsMargin_least=>k_is)
  (case ma_ListsMargin_possible=>k_is)
  (case mn_ListsMargin_possible=>k_is)
  (case ma_ListsMargin_change_for=>k_is)
  (case mn_ListsMargin_change_for=>k_is)
  (case ma_ListsMargin_high=>k_is)
  (case mn_ListsMargin_high=>k_is)
  (case ma_ListsMargin_told=>k_is)
  (case mn_ListsMargin_told=>k_is)
  (case na_ListsMargin_way=>k_is)
  (case ja_ListsMargin_Margin=>k_is)
  (case jb_ListsMargin_Margin=>k_is)
  (case jc_ListsMargin_Margin=>k_is)
  (case jd_ListsMargin_Margin=>k_is)
  (case je_ListsMargin_Margin=>kernel_rfl)
  (case mc_Margin=>k_is)
  (case pg_Margin=>k_is)
  (case hd_Margin=>k_is)
  (case po_Margin=>k_is)
  (case sa_Margin=>k_is)
  (case l14=>k_is)
  (case c14=>k_is)
  (case k14=>k_is)
  (case l15=>k_is)
  (case c15=>k_is)
  (case k15=>k_is)
  (case l16=>k_is)
  (case c16=>k_is)
  (case k16=>k_is)
  (case l29=>k_is)
  (case c29=>k_is)
  (case k29=>k_is)
  (case l30=>k_is)
  (case c30=>k_is)
  (case k30=>k_is)
  (case l31=>k_is)
  (case c31=>k_is)
  (case k31=>k_is)
  (case l32=>k_is)
  (case c32=>k_is)
  (case k32=>k_is)
  (case l38=>k_is)
  (case c38=>k_is)
  (case k38=>k_is)
  (case dl38=>k_is)
  (case l39=>k_is)
  (case c39=>k_is)
  (case k39=>k_is)
  (case l40=>k_is)
  (case c40=>k_is)
  (case k40=>k_is)
  (case l41=>k_is)
  (case c41=>k_is)
  (case k41=>k_is)
  (case l43=>k_is)
  (case c43=>k_is)
  (case k43=>k_is)
  (case dl43=>k_is)
  (case l44=>k_is)
  (case c44=>k_is)
  (case k44=>k_is)
  (case l45=>k_is)
  (case c45=>k_is)
  (case k45=>k_is)
  (case l46=>k_is)
  (case c46=>k_is)
  (case k46=>k_is)
  (case l47=>k_is)
  (case c47=>k_is)
  (case k47=>k_is)
  (case l48=>k_is)
  (case c48=>k_is)
  (case k48=>k_is)
  (case l50=>k_is)
  (case c50=>k_is)
  (case k50=>k_is)
  (case l51=>k_is)
  (case c51=>k_is)
  (case k51=>k_is)
  (case l52=>k_is)
  (case c52=>k_is)
  (case k52=>k_is)
  (case l53=>k_is)
  (case c53=>k_is)
  (case k53=>k_is)
#print axioms PySem.Challenge.cw_pollproof_k87_whole_margin_of_lists_holds
