import PyProof.Rows.All
import Wide.All
import OpenK.AllK
import Wide.FinOn
import Lean
import PyProof.EqAt
import PyProof.EqKinds
import PyProof.TupleCall
import PySem.Challenge.RW_pollproof_k38_what_a_box_refuses
set_option Elab.async false
set_option linter.all false
set_option compiler.extract_closed false
set_option maxRecDepth 100000
namespace Head
open PySem PySem.W PyProof.Rows
def runT (p:Program) (w:World) (n0:Nat) (ann:Option Value):Nat->SharedT->Thread->Option SharedT
 | 0,_,_=>none
 | n+1,s,t=>match through t with
   | true=>some s
   | false=>match stepOk n0 ann t with
     | false=>none
     | true=>match stepT (denote treeTable) p w s t with
       | some (s',t')=>runT p w n0 ann n s' t'
       | none=>none
theorem runT_of {p:Program} {w:World} {n0:Nat} {ann:Option Value}:∀{n:Nat} {s s':SharedT} {t:Thread},runT p w n0 ann n s t=some s'->topRun treeTable p w n0 ann n s.abs t=some s'.abs
 | 0,_,_,_,h=>by cases h
 | n+1,s,s',t,h=>by
   unfold runT at h
   unfold topRun
   cases he:through t with
   | true=>rw [he] at h;cases h;rfl
   | false =>
     rw [he] at h
     cases hk:stepOk n0 ann t with
     | false=>rw [hk] at h;cases h
     | true =>
       rw [hk] at h
       cases hs:stepT (denote treeTable) p w s t with
       | none=>rw [hs] at h;cases h
       | some r=>obtain ⟨s2,t2⟩:=r;rw [hs] at h;rw [stepT_spec hs];exact runT_of h
def grow:List Obj->Nat->BT->Option BT
 | [],_,t=>some t
 | o :: os,n,t=>match ((t.ins n o).get n).isSome with
   | true=>grow os (n+1) (t.ins n o)
   | false=>none
theorem grow_of {life:Life}:∀{os:List Obj} {n:Nat} {t t':BT} {xs:List Obj},(absHeap t n life)=⟨xs.toArray,life⟩->grow os n t=some t'->absHeap t' (n+os.length) life=⟨(xs++os).toArray,life⟩
 | [],n,t,t',xs,a,h=>by
   cases h
   rw [List.append_nil]
   exact a
 | o :: os,n,t,t',xs,a,h=>by
   unfold grow at h
   cases g:((t.ins n o).get n).isSome with
   | false=>rw [g] at h;cases h
   | true =>
     rw [g] at h
     have b:absHeap (t.ins n o) (n+1) life=⟨(xs++[o]).toArray,life⟩:=by
      rw [absHeap_ins g,a]
      show (⟨xs.toArray.push o,life⟩:Heap)=_
      rw [List.push_toArray]
     have c:=grow_of b h
     rw [List.append_assoc] at c
     rw [List.length_cons,show n+(os.length+1)=n+1+os.length by omega]
     exact c
theorem grow_all {H:Heap} {T:BT} (h:grow H.objs.toList 0 .nil=some T):absHeap T H.objs.size H.life=H:=by
 have c:=grow_of (life:=H.life) (n:=0) (t:=.nil) (xs:=[]) rfl h
 rw [Nat.zero_add,Array.length_toList] at c
 rw [c]
 obtain ⟨a,l⟩:=H
 show (⟨([]++a.toList).toArray,l⟩:Heap)=⟨a,l⟩
 rw [List.nil_append,Array.toArray_toList]
theorem left {p q:Program} {loose:List PySem.Str} {Xt:Shared->Bool} {α:Type} {Yf:Shared->α} {Ya:World->α} {N:Nat} {g0:Bool}
 (e:opening p=plainProg p.main.scope.names) (hN:Nat.ble 600 N=true) (f:∀s,fenceModules? p s=some s)
 (h:∀(w:World) (os:OsState),((grow (boot_heap w.params).objs.toList 0 .nil).bind fun T=>(runT p w (boot_heap w.params).objs.size ((boot_heap w.params).nsMap mainGlobals "__annotations__") N ⟨T,(boot_heap w.params).objs.size,(boot_heap w.params).life,Array.mk [],boot_drawn,boot_toks,os⟩ (topStub p)).map fun s =>
  (((boot_heap w.params).isNs mainGlobals,staticsOk (importedModules p.main.body) (boot_heap w.params) s.abs.heap && namesBound p s.abs.heap && gensDone s.abs && laidKept (boot_heap w.params) s.abs.heap),openSeen q loose (importedModules p.main.body) Xt g0 s.abs,Yf s.abs)) =
  some ((true,true),openGood q loose,Ya w)):LeftO p q loose Xt Yf Ya N g0:=fun w=>by
 obtain ⟨⟨hp,gs,d,k,os⟩,e1,e2⟩:=Option.map_eq_some_iff.mp (boot_open e hN f w)
 obtain ⟨rfl,rfl,rfl,rfl⟩:hp=boot_heap w.params/\gs=Array.mk []/\d=boot_drawn/\k=boot_toks:=by simpa using e2
 have z:=h w os
 cases gT:grow (boot_heap w.params).objs.toList 0 .nil with
 | none=>rw [gT] at z;cases z
 | some T =>
   rw [gT] at z
   obtain ⟨s,r,y⟩:=Option.map_eq_some_iff.mp z
   have r':=runT_of r
   injection y with y1 y2
   injection y1 with y3 y4
   injection y2 with y5 y6
   have a:(⟨T,(boot_heap w.params).objs.size,(boot_heap w.params).life,Array.mk [],boot_drawn,boot_toks,os⟩:SharedT).abs=⟨boot_heap w.params,Array.mk [],boot_drawn,boot_toks,os⟩:=by
    unfold SharedT.abs
    rw [grow_all gT]
   rw [a] at r'
   unfold openEnds
   rw [e1]
   show (topFrom treeTable p w N _).map _=_
   have t:topFrom treeTable p w N ⟨boot_heap w.params,Array.mk [],boot_drawn,boot_toks,os⟩=some s.abs:=by
    unfold topFrom
    dsimp only
    rw [y3,r']
    show (match staticsOk (importedModules p.main.body) (boot_heap w.params) s.abs.heap && namesBound p s.abs.heap && gensDone s.abs && laidKept (boot_heap w.params) s.abs.heap with | true=>_ | false=>_)=_
    rw [y4]
   rw [t]
   exact congrArg some (Prod.ext y5 y6)
end Head
namespace Head
open PySem PySem.W PyProof.Rows
abbrev q0:Program:=view PySem.Challenge.pw_pollproof_k38_what_a_box_refuses [65]
abbrev r0:OpenRow:=OpenLaw.row PySem.Challenge.rw_pollproof_k38_what_a_box_refuses
local macro_rules | `(tactic| o_head $H)=>do
 let (hl,hw,hc):=(Lean.mkIdent `hl,Lean.mkIdent `hw,Lean.mkIdent `hc)
 `(tactic| (
   refine holds_open (r:=r0) (q:=q0) (loose:=[PySem.Str.ofString "_wall",PySem.Str.ofString "PollError",PySem.Str.ofString "NoNumber",PySem.Str.ofString "NoBallot",PySem.Str.ofString "NoSheet",PySem.Str.ofString "NoChange",PySem.Str.ofString "Torn",PySem.Str.ofString "NoBundle",PySem.Str.ofString "WrongNumber",PySem.Str.ofString "NoWay",PySem.Str.ofString "TooHard",PySem.Str.ofString "Ended",PySem.Str.ofString "NoRow",PySem.Str.ofString "with_one",PySem.Str.ofString "members",PySem.Str.ofString "is_whole",PySem.Str.ofString "MOST_RANK",PySem.Str.ofString "is_rank",PySem.Str.ofString "are_ranks",PySem.Str.ofString "tier_at",PySem.Str.ofString "slip_of",PySem.Str.ofString "ranks_of",PySem.Str.ofString "MOST_BALLOTS",PySem.Str.ofString "is_number",PySem.Str.ofString "numbers_by_slip",PySem.Str.ofString "sheet_from",PySem.Str.ofString "sheet_of",PySem.Str.ofString "BASE",PySem.Str.ofString "code_of",PySem.Str.ofString "line_of",PySem.Str.ofString "seal_of",PySem.Str.ofString "place_of",PySem.Str.ofString "mended",PySem.Str.ofString "MOST_HANDS",PySem.Str.ofString "are_hands",PySem.Str.ofString "Box",PySem.Str.ofString "_law_cell",PySem.Str.ofString "_law_mixed",PySem.Str.ofString "_law_whole",PySem.Str.ofString "_law_ranks",PySem.Str.ofString "_law_slip",PySem.Str.ofString "_law_code",PySem.Str.ofString "_law_many",PySem.Str.ofString "_law_line",PySem.Str.ofString "_law_lines",PySem.Str.ofString "_law_seal",PySem.Str.ofString "_law_codes_of",PySem.Str.ofString "_law_sheet",PySem.Str.ofString "_law_seal_is",PySem.Str.ofString "_law_kind",PySem.Str.ofString "_law_no_box",PySem.Str.ofString "_law_no_bundle",PySem.Str.ofString "_law_untaken",PySem.Str.ofString "_law_no_line",PySem.Str.ofString "_law_refusals"]) (N:=100000)
    (Xt:=fun s=>xlAt q0 [] s && recOk (RowW.records (OpenRow.toRowW r0)) s)
    (XP:=XL q0 []) (Yf:=Hook.obs $H) (Ya:=Hook.val $H) (YP:=Hook.says $H)
    ?$hl (Hook.of $H) (Hook.keeps $H) (fun s e=>xl_of s (Bool.and_eq_true_iff.mp e).1) XL.keeps
    (by rfl) (by rfl) (by rfl) (fun s e=>recFacts_of (Bool.and_eq_true_iff.mp e).2) (by rfl) (by assumption)
    (by decide +kernel) ⟨rfl,rfl,rfl,rfl,rfl,by decide +kernel⟩ ?$hw ?$hc;
   (next=>(exact left (by kernel_rfl) (by decide) (fun s=>by kernel_rfl) (fun w os=>by kernel_rfl)))))
set_option maxRecDepth 100000 in
set_option maxHeartbeats 0 in
open_top top for PySem.Challenge.rw_pollproof_k38_what_a_box_refuses
end Head
namespace L2
open PySem PySem.Spec PyProof.Rows
abbrev Key:=Sum Int Str
def keyIs:Key->Value->Bool
 | .inl k,v=>Value.isInt k v
 | .inr x,v=>Value.isStrOf x v
def keyH (w:World):Key->Int
 | .inl k=>hashInt k
 | .inr x=>hashStr w x
theorem keyIs_shape:∀{k:Key} {v:Value},keyIs k v=true->(∃i t,k=Sum.inl i/\v=Value.int i t)\/(∃x t,k=Sum.inr x/\v=Value.str x t)
 | .inl i,v,h=>by
   obtain ⟨t,e⟩:=Value.isInt_shape (k:=i) (v:=v) h
   exact .inl ⟨i,t,rfl,e⟩
 | .inr x,v,h=>by
   obtain ⟨t,e⟩:=Value.isStrOf_shape (x:=x) (v:=v) h
   exact .inr ⟨x,t,rfl,e⟩
theorem keyIs_int (i:Int) (t:Tok):keyIs (.inl i) (.int i t)=true:=by simp [keyIs,Value.isInt]
theorem keyIs_str (x:Str) (t:Tok):keyIs (.inr x) (.str x t)=true:=by simp [keyIs,Value.isStrOf]
theorem key_ll (a b:Int):decide ((Sum.inl a:Key)=Sum.inl b)=(a == b):=by
 by_cases e:a=b
 ·subst e;simp
 ·have h:¬ (Sum.inl a:Key)=Sum.inl b:=fun q=>e (Sum.inl.inj q)
  rw [decide_eq_false h]
  exact (beq_eq_false_iff_ne.mpr e).symm
theorem key_rr (a b:Str):decide ((Sum.inr a:Key)=Sum.inr b)=decide (a=b):=by
 by_cases e:a=b
 ·subst e;simp
 ·have h:¬ (Sum.inr a:Key)=Sum.inr b:=fun q=>e (Sum.inr.inj q)
  rw [decide_eq_false h,decide_eq_false e]
theorem key_lr (a:Int) (b:Str):decide ((Sum.inl a:Key)=Sum.inr b)=false:=decide_eq_false (fun q=>nomatch q)
theorem key_rl (a:Str) (b:Int):decide ((Sum.inr a:Key)=Sum.inl b)=false:=decide_eq_false (fun q=>nomatch q)
def mixKind (prog:Program) (w:World):PySem.KeyKind prog w Key where
 is:=keyIs
 hash:=keyH w
 inj:=fun v a b ha hb=>by
  rcases keyIs_shape ha with ⟨i,t,rfl,rfl⟩ | ⟨x,t,rfl,rfl⟩
  ·rcases keyIs_shape hb with ⟨j,u,rfl,e⟩ | ⟨y,u,rfl,e⟩
   ·injection e with e1 _;rw [e1]
   ·exact nomatch e
  ·rcases keyIs_shape hb with ⟨j,u,rfl,e⟩ | ⟨y,u,rfl,e⟩
   ·exact nomatch e
   ·injection e with e1 _;rw [e1]
 byValue:=fun k v h=>by
  rcases keyIs_shape h with ⟨i,t,rfl,rfl⟩ | ⟨x,t,rfl,rfl⟩ <;> rfl
 pyHash:=fun hv h=>by
  rcases keyIs_shape hv with ⟨i,t,rfl,rfl⟩ | ⟨x,t,rfl,rfl⟩
  ·exact wpAny_pyHash_int h
  ·exact wpAny_pyHash_str h
 eqBool:=fun hu hv h=>by
  rcases keyIs_shape hu with ⟨i,t,rfl,rfl⟩ | ⟨x,t,rfl,rfl⟩
  ·rcases keyIs_shape hv with ⟨j,u,rfl,rfl⟩ | ⟨y,u,rfl,rfl⟩
   ·rw [key_ll] at h;exact wpAny_eqBool_int h
   ·rw [key_lr] at h;exact SeqAt.EqAt.int_str i t y u _ _ _ _ h
  ·rcases keyIs_shape hv with ⟨j,u,rfl,rfl⟩ | ⟨y,u,rfl,rfl⟩
   ·rw [key_rl] at h;exact SeqAt.EqAt.str_int x t j u _ _ _ _ h
   ·rw [key_rr] at h;exact wpAny_eqBool_str h
 «strs»:=fun k x t v h=>by
  rcases keyIs_shape h with ⟨i,u,rfl,e⟩ | ⟨y,u,rfl,e⟩
  ·exact nomatch e
  ·injection e with e1 _
   subst e1
   cases v <;> rfl
theorem mixKind_int (prog:Program) (w:World) (i:Int) (t:Tok):(mixKind prog w).is (.inl i) (.int i t)=true:=keyIs_int i t
theorem mixKind_str (prog:Program) (w:World) (x:Str) (t:Tok):(mixKind prog w).is (.inr x) (.str x t)=true:=keyIs_str x t
end L2
namespace L2
open PySem PySem.Spec PyProof.Rows
inductive V where
 | non | bl (b:Bool) | int (i:Int) | str (x:Str) | byt (b:Array UInt8) | flt (b:UInt64) | ref (a:Addr) | ty (n:String)
 deriving DecidableEq
noncomputable def RelV:V->Value->Prop
 | .non,u=>u=Value.none
 | .bl b,u=>u=Value.bool b
 | .int i,u=>∃t,u=Value.int i t
 | .str x,u=>∃t,u=Value.str x t
 | .byt b,u=>∃t,u=Value.bytes b t
 | .flt b,u=>∃t,u=Value.float b t
 | .ref a,u=>u=Value.ref a
 | .ty n,u=>u=Value.type n
abbrev Vals:List V->List Value->Prop:=Paired RelV
theorem Vals.length {xs:List V} {us:List Value} (r:Vals xs us):xs.length=us.length:=Paired.length r
theorem Vals.get:∀{xs:List V} {us:List Value} {i:Nat} {x:V},Vals xs us->xs[i]?=some x->∃u,us[i]?=some u/\RelV x u
 | _,_,_,_,.nil,e=>by simp at e
 | _,_,0,_,.cons r _,e=>by simp at e;subst e;exact ⟨_,rfl,r⟩
 | _,_,i+1,x,.cons _ t,e=>by
   obtain ⟨u,h1,h2⟩:=Vals.get (i:=i) (x:=x) t (by simpa using e)
   exact ⟨u,by simpa using h1,h2⟩
theorem Vals.set {x:V} {u:Value} (r:RelV x u):∀{xs:List V} {us:List Value} (i:Nat),Vals xs us->Vals (xs.set i x) (us.set i u)
 | _,_,_,.nil=>.nil
 | _,_,0,.cons _ t=>.cons r t
 | _,_,i+1,.cons q t=>.cons q (Vals.set r i t)
theorem Vals.append:∀{xs ys:List V} {us ws:List Value},Vals xs us->Vals ys ws->Vals (xs++ys) (us++ws)
 | _,_,_,_,.nil,s=>s
 | _,_,_,_,.cons r t,s=>.cons r (Vals.append t s)
theorem Vals.take:∀{xs:List V} {us:List Value} (n:Nat),Vals xs us->Vals (xs.take n) (us.take n)
 | _,_,0,_=>.nil
 | _,_,_+1,.nil=>.nil
 | _,_,n+1,.cons r t=>.cons r (Vals.take n t)
theorem Vals.drop:∀{xs:List V} {us:List Value} (n:Nat),Vals xs us->Vals (xs.drop n) (us.drop n)
 | _,_,0,r=>r
 | _,_,_+1,.nil=>.nil
 | _,_,n+1,.cons _ t=>Vals.drop n t
noncomputable def RelO:Option V->Option Value->Prop
 | some v,some u=>RelV v u
 | none,none=>True
 | _,_=>False
noncomputable def KV {κ:Type}:List (κ × V)->List (κ × Value)->Prop:=Paired fun (p:κ × V) (q:κ × Value)=>p.1=q.1/\RelV p.2 q.2
def kV:Key->V
 | .inl i=>.int i
 | .inr x=>.str x
inductive HO where
 | lst (xs:List V)
 | tup (xs:List V)
 | dK (kvs:List (Key × V)) | dT (kvs:List (List Key × V))
 | set (S:Int->Bool) (n:Nat)
 | ins (C dx:Addr) (fs:List (Str × V))
 | own (x:Addr)
 | xd (fs:List (Str × V))
 | met (f x:Addr)
 | rng (lo hi:Int)
 | frz (o:Obj) (u:HO)
 | tbl (ps:Array Value)
 | ext (φ:Heap->Prop)
abbrev Hp:=Addr->Option HO
noncomputable def upd (H:Hp) (a:Addr) (o:HO):Hp:=fun b=>if b=a then some o else H b
theorem upd_same {H:Hp} {a:Addr} {o:HO}:upd H a o a=some o:=by unfold upd;rw [if_pos rfl]
theorem upd_ne {H:Hp} {a b:Addr} {o:HO} (h:b≠a):upd H a o b=H b:=by unfold upd;rw [if_neg h]
theorem upd_upd {H:Hp} {a:Addr} {o u:HO}:upd (upd H a o) a u=upd H a u:=by
 funext b;unfold upd;split <;> rfl
theorem ne_of {H:Hp} {a b:Addr} {o u:HO} (h:H a=some o) (h':H b=some u) (d:o≠u):a≠b:=by
 intro e;subst e;rw [h] at h';exact d (Option.some.inj h')
theorem ne_of_none {H:Hp} {a b:Addr} {o:HO} (h:H a=some o) (h':H b=none):a≠b:=by
 intro e;subst e;rw [h] at h';cases h'
section
variable (P:Program) (w:World)
noncomputable def ObjOk (H:Hp) (h:Heap) (a:Addr):HO->Prop
 | .lst xs=>xs.length<=sizeLine/\∃(its:List Value) (n:Nat),Vals xs its/\h.get? a=some { cls:=.type "list",data:=.seq its.toArray n }
 | .tup xs=>xs.length<=sizeLine/\∃its:List Value,Vals xs its/\IsTup h a its.toArray
 | .dK kvs=>kvs.length<=sizeLine/\(a == sysModules)=false/\∃vs,KV kvs vs/\h.DictOf (mixKind P w) a vs
 | .dT kvs=>kvs.length<=sizeLine/\(a == sysModules)=false/\∃xs:List (List Key × Addr × Value),
  Paired (fun (p:List Key × V) (q:List Key × Addr × Value)=>p.1=q.1/\H q.2.1=some (.tup (p.1.map kV))/\RelV p.2 q.2.2) kvs xs /\
  ∃o es ep,h.get? a=some o/\o.ExactDict/\o.data=.dict es ep/\es.toList=xs.map (entryOfKey (tupleKind (mixKind P w)))/\(xs.map (·.1)).Nodup
 | .set S n=>h.SetOf (intKind P w) a S n
 | .ins C dx fs=>H dx=some (.own a)/\fs.length<=1000/\dx≠a/\h.get? a=some (PySem.W.instObj C dx) /\
  ∃mA,h.Ns1 dx mA/\(∀f,RelO (fs.lookup f) (mA f))/\PySem.Within mA (fs.map (·.1))
 | .own _=>∃o,h.get? a=some o
 | .xd fs=>∃mA,h.Ns1 a mA/\∀f,RelO (fs.lookup f) (mA f)
 | .rng lo hi=>∃t u v,h.get? a=some { cls:=.type "range",data:=.fields #[.int lo t,.int hi u,.int 1 v] }
 | .frz o u=>h.get? a=some o/\ObjOk H h a u
 | .tbl ps=>h.get? a=some { cls:=.none,data:=.fields ps }
 | .met f x=>h.get? a=some (PySem.W.methodObj (.ref f) (.ref x))
 | .ext φ=>φ h/\(∃o,h.get? a=some o)/\∀h1 h2:Heap,φ h1->(∀o,h1.get? a=some o->h2.get? a=some o)->φ h2
noncomputable def HOk (H:Hp) (h:Heap):Prop:=∀a o,H a=some o->ObjOk P w H h a o
end
section
variable {P:Program} {w:World} {H H':Hp} {h h':Heap} {a:Addr} {o:HO}
theorem ObjOk.lt (x:ObjOk P w H h a o):a < h.objs.size:=by
 cases o with
 | lst xs=>obtain ⟨_,_,_,_,e⟩:=x;exact Heap.lt_size e
 | tup xs=>obtain ⟨_,_,_,p⟩:=x;exact p.lt
 | dK kvs=>obtain ⟨_,_,_,_,o,_,_,e,_⟩:=x;exact Heap.lt_size e
 | dT kvs=>obtain ⟨_,_,_,_,o,_,_,e,_⟩:=x;exact Heap.lt_size e
 | set S n=>obtain ⟨o,_,_,_,e,_⟩:=x;exact Heap.lt_size e
 | ins C dx fs=>obtain ⟨_,_,_,e,_⟩:=x;exact Heap.lt_size e
 | own y=>obtain ⟨_,e⟩:=x;exact Heap.lt_size e
 | xd fs=>obtain ⟨_,⟨_,_,_,e,_⟩,_⟩:=x;exact Heap.lt_size e
 | rng lo hi=>obtain ⟨_,_,_,e⟩:=x;exact Heap.lt_size e
 | frz ob u=>obtain ⟨e,_⟩:=x;exact Heap.lt_size e
 | tbl ps=>exact Heap.lt_size (show h.get? a=some _ from x)
 | met f y=>exact Heap.lt_size (show h.get? a=some _ from x)
 | ext φ=>obtain ⟨_,⟨_,e⟩,_⟩:=x;exact Heap.lt_size e
theorem Paired.mapP {α β:Type} {F G:α->β->Prop}:∀{l₁:List α} {l₂:List β},Paired F l₁ l₂->(∀a b,F a b->G a b)->Paired G l₁ l₂
 | _,_,.nil,_=>.nil
 | _,_,.cons r t,f=>.cons (f _ _ r) (Paired.mapP t f)
theorem ObjOk.stay (x:ObjOk P w H h a o) (k:∀b u,(b=a\/H b=some (.own a))->h.get? b=some u->h'.get? b=some u)
 (ho:∀b,H b=some (.own a)->H' b=some (.own a)) (ht:∀b xs,H b=some (.tup xs)->H' b=some (.tup xs)):ObjOk P w H' h' a o:=by
 induction o with
 | lst xs=>obtain ⟨z,its,n,r,e⟩:=x;exact ⟨z,its,n,r,k _ _ (.inl rfl) e⟩
 | tup xs=>obtain ⟨z,its,r,ob,e,c⟩:=x;exact ⟨z,its,r,ob,k _ _ (.inl rfl) e,c⟩
 | dK kvs=>obtain ⟨z,y,vs,r,ob,es,ep,e,c⟩:=x;exact ⟨z,y,vs,r,ob,es,ep,k _ _ (.inl rfl) e,c⟩
 | dT kvs =>
   obtain ⟨z,y,xs,r,ob,es,ep,e,c⟩:=x
   exact ⟨z,y,xs,Paired.mapP r fun p q z=>⟨z.1,ht _ _ z.2.1,z.2.2⟩,ob,es,ep,k _ _ (.inl rfl) e,c⟩
 | set S n=>obtain ⟨ob,es,ep,t,e,c⟩:=x;exact ⟨ob,es,ep,t,k _ _ (.inl rfl) e,c⟩
 | ins C dx fs =>
   obtain ⟨d,z,ne,e,mA,⟨od,es,ep,e2,c⟩,r⟩:=x
   exact ⟨ho _ d,z,ne,k _ _ (.inl rfl) e,mA,⟨od,es,ep,k _ _ (.inr d) e2,c⟩,r⟩
 | own y=>obtain ⟨ob,e⟩:=x;exact ⟨ob,k _ _ (.inl rfl) e⟩
 | xd fs=>obtain ⟨mA,⟨od,es,ep,e,c⟩,r⟩:=x;exact ⟨mA,⟨od,es,ep,k _ _ (.inl rfl) e,c⟩,r⟩
 | rng lo hi=>obtain ⟨t,u,v,e⟩:=x;exact ⟨t,u,v,k _ _ (.inl rfl) e⟩
 | frz ob u ih=>obtain ⟨e,q⟩:=x;exact ⟨k _ _ (.inl rfl) e,ih q⟩
 | tbl ps =>
   have e:h.get? a=some { cls:=.none,data:=.fields ps }:=x
   show h'.get? a=some { cls:=.none,data:=.fields ps }
   exact k a _ (.inl rfl) e
 | met f y =>
   have e:h.get? a=some (PySem.W.methodObj (.ref f) (.ref y)):=x
   show h'.get? a=some (PySem.W.methodObj (.ref f) (.ref y))
   exact k a _ (.inl rfl) e
 | ext φ=>obtain ⟨p,⟨o,e⟩,st⟩:=x;exact ⟨st _ _ p fun o q=>k _ _ (.inl rfl) q,⟨o,k _ _ (.inl rfl) e⟩,st⟩
theorem HOk.lt (x:HOk P w H h) (e:H a=some o):a < h.objs.size:=(x a o e).lt
theorem HOk.fresh (x:HOk P w H h) (e:h.objs.size<=a):H a=none:=by
 cases q:H a with
 | none=>rfl
 | some u=>exact absurd (Nat.lt_of_lt_of_le (x.lt q) e) (Nat.lt_irrefl _)
theorem HOk.kept (x:HOk P w H h) (k:∀b u,h.get? b=some u->h'.get? b=some u):HOk P w H h':=fun a o e =>
 (x a o e).stay (fun b u _ q=>k b u q) (fun _ q=>q) fun _ _ q=>q
theorem HOk.laid (x:HOk P w H h) (k:∀b u,h.get? b=some u->h'.get? b=some u) (hp:h.objs.size<=a) (new:ObjOk P w (upd H a o) h' a o):HOk P w (upd H a o) h':=fun b u e=>by
 have hn:=x.fresh hp
 by_cases hb:b=a
 ·subst hb;rw [upd_same] at e;cases e;exact new
 ·rw [upd_ne hb] at e
  exact (x b u e).stay (fun c v _ q=>k c v q) (fun c q=>by rw [upd_ne (ne_of_none q hn)];exact q) fun c xs q=>by rw [upd_ne (ne_of_none q hn)];exact q
end
noncomputable def Rd (H:Hp) (a:Addr) (u:HO):Prop:=H a=some u\/∃o,H a=some (.frz o u)
theorem Rd.ok {P:Program} {w:World} {H:Hp} {h:Heap} {a:Addr} {u:HO} (r:Rd H a u) (x:HOk P w H h):ObjOk P w H h a u:=by
 rcases r with r | ⟨o,r⟩
 ·exact x a u r
 ·obtain ⟨_,q⟩:=x a _ r
  exact q
noncomputable def Mut:Option HO->Prop
 | some (.lst _)=>True
 | some (.dK _)=>True
 | some (.dT _)=>True
 | some (.set _ _)=>True
 | some (.ins _ _ _)=>True
 | some (.ext _)=>True
 | _=>False
section
variable {P:Program} {w:World} {H:Hp} {h h':Heap} {x e:Addr} {o':HO}
theorem HOk.write (ok:HOk P w H h) (mu:Mut (H x)) (he:e=x\/H e=some (.own x)) (k:∀b u,b≠e->h.get? b=some u->h'.get? b=some u) (heo:∃u,h'.get? e=some u)
 (new:ObjOk P w (upd H x o') h' x o'):HOk P w (upd H x o') h':=fun b u q=>by
 have nown:∀c y,H c=some (.own y)->c≠x:=fun c y r z=>by subst z;rw [r] at mu;exact mu
 have ntup:∀c xs,H c=some (.tup xs)->c≠x:=fun c xs r z=>by subst z;rw [r] at mu;exact mu
 by_cases hb:b=x
 ·subst hb;rw [upd_same] at q;cases q;exact new
 ·rw [upd_ne hb] at q
  by_cases hbe:b=e
  ·have q':H b=some (.own x):=by
    rcases he with z | z
    ·exact absurd (hbe.trans z) hb
    ·rw [hbe];exact z
   rw [q] at q';cases q'
   obtain ⟨v,hv⟩:=heo
   exact ⟨v,by rw [hbe];exact hv⟩
  ·refine (ok b u q).stay (fun c v hc r=>k c v ?_ r) (fun c r=>by rw [upd_ne (nown c b r)];exact r) fun c xs r=>by rw [upd_ne (ntup c xs r)];exact r
   rcases hc with rfl | hc
   ·exact hbe
   ·rintro rfl
    rcases he with z | z
    ·exact nown c b hc z
    ·rw [hc] at z;cases z;exact hb rfl
end
structure Un (fs ex:List Addr) (H H':Hp) (h h':Heap):Prop where
 keep:∀b o,h.get? b=some o->H b=none->b ∉ fs->b ∉ ex->h'.get? b=some o
 slot:∀b o,h.get? b=some o->H b=none->b∈fs->b ∉ ex->∃sl,h'.get? b=some { o with slots:=sl }
 free:∀b o,h.get? b=some o->H b=none->b ∉ ex->H' b=none
 there:∀b o,h.get? b=some o->b ∉ ex->∃o',h'.get? b=some o'
 tups:∀b xs,H b=some (.tup xs)->H' b=some (.tup xs)
 frzs:∀b o u,H b=some (.frz o u)->H' b=some (.frz o u)
 tbls:∀b ps,H b=some (.tbl ps)->∃more,H' b=some (.tbl (ps++more))
section
variable {fs fs' ex ex':List Addr} {H H1 H2:Hp} {h h1 h2 h':Heap} {a x e:Addr} {o:HO}
theorem Un.any (u:Un fs ex H H1 h h1) {b:Addr} {ob:Obj} (q:h.get? b=some ob) (n:H b=none) (hx:b ∉ ex):∃sl,h1.get? b=some { ob with slots:=sl }:=by
 by_cases hb:b∈fs
 ·exact u.slot b ob q n hb hx
 ·exact ⟨ob.slots,u.keep b ob q n hb hx⟩
theorem Un.kept (k:∀b u,h.get? b=some u->h'.get? b=some u):Un fs ex H H h h' :=
 ⟨fun b ob q _ _ _=>k b ob q,fun b ob q _ _ _=>⟨ob.slots,k b ob q⟩,fun _ _ _ n _=>n,fun b ob q _=>⟨ob,k b ob q⟩,fun _ _ q=>q,fun _ _ _ q=>q,fun _ ps q=>⟨#[],by rw [q];simp⟩⟩
theorem Un.refl:Un fs ex H H h h:=Un.kept fun _ _ q=>q
theorem Un.laid (k:∀b u,h.get? b=some u->h'.get? b=some u) (hp:h.objs.size<=a) (hn:H a=none):Un fs ex H (upd H a o) h h' where
 keep:=fun b u q _ _ _=>k b u q
 slot:=fun b u q _ _ _=>⟨u.slots,k b u q⟩
 free:=fun b u q n _=>by rw [upd_ne (Nat.ne_of_lt (Nat.lt_of_lt_of_le (Heap.lt_size q) hp))];exact n
 there:=fun b u q _=>⟨u,k b u q⟩
 tups:=fun b xs q=>by rw [upd_ne (ne_of_none q hn)];exact q
 frzs:=fun b u xs q=>by rw [upd_ne (ne_of_none q hn)];exact q
 tbls:=fun b ps q=>⟨#[],by rw [upd_ne (ne_of_none q hn),q];simp⟩
theorem Un.write (mu:Mut (H x)) (he:e=x\/H e=some (.own x)) (k:∀b u,b≠e->h.get? b=some u->h'.get? b=some u) (heo:∃u,h'.get? e=some u):Un fs ex H (upd H x o) h h':=by
 have hx:∀b,H b=none->b≠x:=fun b n z=>by subst z;rw [n] at mu;exact mu
 have hb:∀b,H b=none->b≠e:=fun b n z=>by
  subst z
  rcases he with r | r
  ·exact hx b n r
  ·rw [n] at r;cases r
 have hm:∀b u,H b=some u->¬ Mut (some u)->b≠x:=fun b u q nm z=>by subst z;rw [q] at mu;exact nm mu
 refine ⟨fun b u q n _ _=>k b u (hb b n) q,fun b u q n _ _=>⟨u.slots,k b u (hb b n) q⟩,fun b u q n _=>by rw [upd_ne (hx b n)];exact n,fun b u q _=>?_,
  fun b xs q=>by rw [upd_ne (hm b _ q fun z=>z)];exact q,fun b u xs q=>by rw [upd_ne (hm b _ q fun z=>z)];exact q,fun b ps q=>⟨#[],by rw [upd_ne (hm b _ q fun z=>z),q];simp⟩⟩
 by_cases hbe:b=e
 ·subst hbe;exact heo
 ·exact ⟨u,k b u hbe q⟩
end
noncomputable def trk (h:Heap) (H:Hp):List Addr:=(List.range h.objs.size).filter fun a=>(H a).isSome
noncomputable def hidT (h:Heap) (H:Hp):Heap:=PySem.W.hideAll h (trk h H)
theorem hidT_size (h:Heap) (H:Hp):(hidT h H).objs.size=h.objs.size:=PySem.W.hideAll_size _ _
theorem hidT_get {h:Heap} {H:Hp} {b:Addr} {o:Obj} (e:h.get? b=some o) (n:H b=none):(hidT h H).get? b=some o :=
 PySem.W.hideAll_get _ e fun hm=>by
  have q:(H b).isSome=true:=(List.mem_filter.mp hm).2
  rw [n] at q;simp at q
theorem of_hidT {h:Heap} {H:Hp} {b:Addr} {o:Obj} (e:(hidT h H).get? b=some o):h.get? b=some o/\H b=none:=by
 have e':h.get? b=some o:=PySem.W.of_hideAll (trk h H) e
 refine ⟨e',?_⟩
 cases q:H b with
 | none=>rfl
 | some x =>
   have hm:b∈trk h H:=List.mem_filter.mpr ⟨List.mem_range.mpr (Heap.lt_size e'),by simp [q]⟩
   have z:(hidT h H).get? b=none:=PySem.W.hideAll_none (trk h H) hm
   rw [z] at e;cases e
end L2
namespace L2
open PySem PySem.Spec PyProof.Rows
structure Mod (K:PySem.W.Frag) (mg:Str->Option Value) (base:Heap):Prop where
 kin:K.In base
 glob:base.Ns mainGlobals mg
 blt:∃mb,base.Ns builtinsNs mb/\∀x:Str,x≠"__name__"->mb x=bootBuiltins x
 nolimit:base.NoLimit
structure Cx where
 prog:Program
 w:World
 K:PySem.W.Frag
 mg:Str->Option Value
 base:Heap
 A:Around
 N:List Str
 s₀:Shared
 H₀:Hp
 env:Env
 outer:List Env
 stack:List Env
 ex:List Addr
 fn:Str->Bool
 calm:Bool
 pn:List (Addr × Obj)
 xe:Value->Shared->Prop
def frs (l:List Env):List Addr:=l.filterMap (·.frame)
abbrev Cx.fs (X:Cx):List Addr:=frs X.outer
noncomputable def Vis (sc:Scope) (x:Str):Prop:=sc.names.lookup x=some .local\/sc.names.lookup x=some .cell\/sc.names.lookup x=some .free
noncomputable def Loc (sc:Scope) (x:Str):Prop:=sc.names.lookup x=some .local\/sc.names.lookup x=some .cell
noncomputable def Look (env:Env) (h:Heap) (m:Str->Option Value) (x:Str) (u:Value):Prop :=
 (env.kindOf x=some .local/\m x=some u)\/((env.kindOf x=some .cell\/env.kindOf x=some .free)/\∃c,env.cells.lookup x=some c/\h.IsCell c (some u))
structure Cx.Ok (X:Cx):Prop where
 mod:Mod X.K X.mg X.base
 kind:X.env.scope.kind=.function
 glob:X.env.globals=mainGlobals
 blt:X.env.builtins=builtinsNs
 above:X.s₀.heap.objs.size<=X.env.locals
 inj:∀x y c,X.env.cells.lookup x=some c->X.env.cells.lookup y=some c->x=y
 has:∀x,(X.env.kindOf x=some .cell\/X.env.kindOf x=some .free)->∃c,X.env.cells.lookup x=some c
 cab:∀x c,X.fn x=true->X.env.cells.lookup x=some c->X.s₀.heap.objs.size<=c
 hd:X.calm=true->X.A.handled=none
 frames:X.A.frames=some X.stack
 stk:X.stack=X.outer\/(X.stack=X.env :: X.outer/\X.env.frame=some X.env.locals)
 exf:∀b∈X.ex,b≠X.env.locals/\∀x c,X.env.cells.lookup x=some c->c≠b
 bs:∀b o,X.base.get? b=some o->X.s₀.heap.get? b=some o/\X.H₀ b=none
 bsz:X.base.objs.size<=X.s₀.heap.objs.size
 noex:∀b o,X.base.get? b=some o->b ∉ X.ex
 exfs:∀b∈X.ex,b ∉ X.fs
 funs:X.s₀.heap.FunFrames X.base X.outer
 frf:∀b∈X.fs,X.H₀ b=none
structure Inv (X:Cx) (pins:List (Addr × Obj)) (σ:List (Option V)) (H:Hp) (s:Shared):Prop where
 ok:X.Ok
 os:s.os=X.s₀.os
 bare:AllBare s.gens
 base:Un X.fs X.ex X.H₀ H X.s₀.heap s.heap
 loc:∃m,s.heap.Ns X.env.locals m/\∀(i:Nat) (x:Str) (v:V),X.N[i]?=some x->σ[i]?=some (some v)->Vis X.env.scope x->∃u,RelV v u/\Look X.env s.heap m x u
 cell:∀x c,X.env.cells.lookup x=some c->∃v,s.heap.IsCell c v
 free:H X.env.locals=none
 freeC:∀x c,X.env.cells.lookup x=some c->H c=none
 pin:∀p∈X.pn++pins,s.heap.get? p.1=some p.2/\H p.1=none/\p.1≠X.env.locals/\p.1 ∉ X.fs/\∀v,p.2.data≠.cell v
 hok:HOk X.prog X.w H s.heap
 len:σ.length=X.N.length
section
variable {X:Cx} {pins:List (Addr × Obj)} {σ:List (Option V)} {H H':Hp} {s:Shared} {h':Heap}
theorem Cx.Ok.nofr (ok:X.Ok) {b:Addr} {o:Obj} (e:X.base.get? b=some o):b ∉ X.fs:=fun hb=>by
 have:=(ok.funs.mem hb).1
 rw [e] at this;cases this
theorem Inv.bs (I:Inv X pins σ H s):∀b o,X.base.get? b=some o->s.heap.get? b=some o/\H b=none:=fun b o e =>
 ⟨I.base.keep b o (I.ok.bs b o e).1 (I.ok.bs b o e).2 (I.ok.nofr e) (I.ok.noex b o e),I.base.free b o (I.ok.bs b o e).1 (I.ok.bs b o e).2 (I.ok.noex b o e)⟩
theorem Inv.bk (I:Inv X pins σ H s):∀b o,X.base.get? b=some o->s.heap.get? b=some o:=fun b o e=>(I.bs b o e).1
theorem Inv.mod (I:Inv X pins σ H s):Mod X.K X.mg X.base:=I.ok.mod
theorem Inv.kIn (I:Inv X pins σ H s):X.K.In s.heap:=I.ok.mod.kin.keeps I.bk
theorem Inv.lt (I:Inv X pins σ H s):X.env.locals < s.heap.objs.size:=let ⟨_,hn,_⟩:=I.loc;hn.lt
theorem Inv.sz (I:Inv X pins σ H s):X.s₀.heap.objs.size<=s.heap.objs.size:=Nat.le_trans I.ok.above (Nat.le_of_lt I.lt)
theorem Inv.nofs (I:Inv X pins σ H s) {a:Addr} (h:s.heap.objs.size<=a):a ∉ X.fs:=fun hb=>by
 obtain ⟨_,o,ho,_⟩:=I.ok.funs.mem hb
 exact absurd (Nat.lt_of_lt_of_le (Heap.lt_size ho) (Nat.le_trans I.sz h)) (Nat.lt_irrefl _)
theorem Inv.cne (I:Inv X pins σ H s):∀x c,X.env.cells.lookup x=some c->c≠X.env.locals:=fun x c e z=>by
 obtain ⟨v,o,ho,hd⟩:=I.cell x c e
 obtain ⟨m,⟨o',es,ep,ho',hd',_⟩,_⟩:=I.loc
 rw [z,ho'] at ho;cases ho;rw [hd'] at hd;cases hd
theorem Inv.funs (I:Inv X pins σ H s):s.heap.FunFrames X.base X.outer:=by
 have all:∀(l:List Env),(∀b∈frs l,b∈X.fs)->X.s₀.heap.FunFrames X.base l->s.heap.FunFrames X.base l:=by
  intro l
  induction l with
  | nil=>intro _ _;trivial
  | cons env r ih =>
    intro hs hl
    obtain ⟨hk,⟨L,o,hf,hn,ho,hd⟩,hr⟩:=hl
    have hL:L∈X.fs:=hs L (by unfold frs;rw [List.filterMap_cons,hf];exact List.mem_cons_self)
    obtain ⟨sl,e⟩:=I.base.slot L o ho (I.ok.frf L hL) hL fun z=>I.ok.exfs L z hL
    exact ⟨hk,⟨L,_,hf,hn,e,hd⟩,ih (fun b hb=>hs b (by unfold frs;rw [List.filterMap_cons,hf];exact List.mem_cons_of_mem _ hb)) hr⟩
 exact all X.outer (fun _ hb=>hb) I.ok.funs
theorem Inv.stack (I:Inv X pins σ H s):s.heap.FunFrames X.base X.stack:=by
 rcases I.ok.stk with e | ⟨e,hf⟩
 ·rw [e];exact I.funs
 ·rw [e]
  obtain ⟨m,hn,_⟩:=I.loc
  refine .cons (by rw [I.ok.kind];decide) hf hn ?_ I.funs
  exact Heap.get?_none_of_le (Nat.le_trans I.ok.bsz I.ok.above)
theorem Inv.stkSub (I:Inv X pins σ H s):∀b∈frs X.stack,b∈X.env.locals :: X.fs:=fun b hb=>by
 rcases I.ok.stk with e | ⟨e,hf⟩
 ·rw [e] at hb;exact List.mem_cons_of_mem _ hb
 ·rw [e] at hb
  unfold frs at hb
  rw [List.filterMap_cons,hf] at hb
  exact hb
theorem Inv.stkFree (I:Inv X pins σ H s):∀b∈frs X.stack,H b=none:=fun b hb=>by
 rcases List.mem_cons.mp (I.stkSub b hb) with e | hb
 ·rw [e];exact I.free
 ·obtain ⟨_,o,ho,_⟩:=I.ok.funs.mem hb
  exact I.base.free b o ho (I.ok.frf b hb) fun z=>I.ok.exfs b z hb
theorem Inv.step {g':Array GenState} {t':Nat} {d':Drawn} {ch:List Addr} (I:Inv X pins σ H s)
 (hch:∀b∈ch,(b∈X.ex\/X.s₀.heap.objs.size<=b)/\b≠X.env.locals/\(∀x c,X.env.cells.lookup x=some c->c≠b)/\∀p∈X.pn++pins,p.1≠b)
 (keep:∀b o,b≠X.env.locals->b ∉ X.fs->b ∉ ch->s.heap.get? b=some o->H b=none->h'.get? b=some o)
 (slot:∀b o,b≠X.env.locals->b∈X.fs->b ∉ ch->s.heap.get? b=some o->H b=none->∃sl,h'.get? b=some { o with slots:=sl }) (free:∀b o,b ∉ ch->s.heap.get? b=some o->H b=none->H' b=none)
 (there:∀b o,b ∉ ch->s.heap.get? b=some o->∃o',h'.get? b=some o')
 (tups:∀b xs,H b=some (.tup xs)->H' b=some (.tup xs)) (frzs:∀b o u,H b=some (.frz o u)->H' b=some (.frz o u)) (tbls:∀b ps,H b=some (.tbl ps)->∃more,H' b=some (.tbl (ps++more)))
 (ns:∀m,s.heap.Ns X.env.locals m->h'.Ns X.env.locals m) (hok:HOk X.prog X.w H' h') (hg:AllBare g') :
 Inv X pins σ H' { s with heap:=h',gens:=g',drawn:=d',toks:=t' }:=by
 have neL:∀b o,X.s₀.heap.get? b=some o->b≠X.env.locals:=fun b o e=>Nat.ne_of_lt (Nat.lt_of_lt_of_le (Heap.lt_size e) I.ok.above)
 have neC:∀b o,X.s₀.heap.get? b=some o->b ∉ X.ex->b ∉ ch:=fun b o e hx hb=>by
  rcases (hch b hb).1 with z | z
  ·exact hx z
  ·exact absurd (Nat.lt_of_lt_of_le (Heap.lt_size e) z) (Nat.lt_irrefl _)
 have cellK:∀x c,X.env.cells.lookup x=some c->∀v,s.heap.IsCell c v->h'.IsCell c v:=fun x c e v ⟨o,ho,hd⟩=>by
  have nch:c ∉ ch:=fun z=>(hch c z).2.2.1 x c e rfl
  by_cases hc:c∈X.fs
  ·obtain ⟨sl,q⟩:=slot c o (I.cne x c e) hc nch ho (I.freeC x c e)
   exact ⟨_,q,hd⟩
  ·exact ⟨o,keep c o (I.cne x c e) hc nch ho (I.freeC x c e),hd⟩
 refine ⟨I.ok,I.os,hg,⟨fun b o e n hb hx=>?_,fun b o e n hb hx=>?_,fun b o e n hx=>?_,fun b o e hx=>?_,fun b xs e=>tups b xs (I.base.tups b xs e),fun b o xs e=>frzs b o xs (I.base.frzs b o xs e),fun b ps e=>?_⟩,?_,fun x c e=>?_,?_,fun x c e=>?_,fun p hp=>?_,hok,I.len⟩
 ·exact keep b o (neL b o e) hb (neC b o e hx) (I.base.keep b o e n hb hx) (I.base.free b o e n hx)
 ·obtain ⟨sl,e1⟩:=I.base.slot b o e n hb hx
  obtain ⟨sl',e2⟩:=slot b _ (neL b o e) hb (neC b o e hx) e1 (I.base.free b o e n hx)
  exact ⟨sl',e2⟩
 ·obtain ⟨o',e1⟩:=I.base.there b o e hx
  exact free b o' (neC b o e hx) e1 (I.base.free b o e n hx)
 ·obtain ⟨o',e1⟩:=I.base.there b o e hx
  exact there b o' (neC b o e hx) e1
 ·obtain ⟨m1,e1⟩:=I.base.tbls b ps e
  obtain ⟨m2,e2⟩:=tbls b _ e1
  exact ⟨m1++m2,by rw [e2,Array.append_assoc]⟩
 ·obtain ⟨m,hn,hl⟩:=I.loc
  refine ⟨m,ns m hn,fun i x v e1 e2 e3=>?_⟩
  obtain ⟨u,r,l⟩:=hl i x v e1 e2 e3
  refine ⟨u,r,?_⟩
  rcases l with l | ⟨k,c,e,z⟩
  ·exact .inl l
  ·exact .inr ⟨k,c,e,cellK x c e _ z⟩
 ·obtain ⟨v,z⟩:=I.cell x c e
  exact ⟨v,cellK x c e v z⟩
 ·obtain ⟨m,⟨o,_,_,ho,_⟩,_⟩:=I.loc
  exact free _ o (fun z=>(hch _ z).2.1 rfl) ho I.free
 ·obtain ⟨v,o,ho,hd⟩:=I.cell x c e
  exact free c o (fun z=>(hch c z).2.2.1 x c e rfl) ho (I.freeC x c e)
 ·obtain ⟨e,n,ne,nf,d⟩:=I.pin p hp
  have nch:p.1 ∉ ch:=fun z=>(hch p.1 z).2.2.2 p hp rfl
  exact ⟨keep p.1 p.2 ne nf nch e n,free p.1 p.2 nch e n,ne,nf,d⟩
theorem Inv.un {t':Nat} (I:Inv X pins σ H s) (u:Un X.fs [] H H' s.heap h') (hok:HOk X.prog X.w H' h'):Inv X pins σ H' { s with heap:=h',toks:=t' }:=by
 obtain ⟨m,⟨o,es,ep,ho,r⟩,_⟩:=id I.loc
 obtain ⟨sl,hL⟩:=u.any ho I.free (by simp)
 exact I.step (g':=s.gens) (d':=s.drawn) (ch:=[]) (fun _ z=>nomatch z) (fun b o _ hb _ e n=>u.keep b o e n hb (by simp)) (fun b o _ hb _ e n=>u.slot b o e n hb (by simp)) (fun b o _ e n=>u.free b o e n (by simp)) (fun b o _ e=>u.there b o e (by simp)) u.tups u.frzs u.tbls (fun m' hm=>by
  obtain ⟨o',es',ep',ho',r'⟩:=hm
  rw [ho] at ho';cases ho'
  exact ⟨_,es',ep',hL,r'⟩) hok I.bare
theorem Inv.call {g':Array GenState} {t':Nat} {d':Drawn} {ch:List Addr} (I:Inv X pins σ H s) (u:Un (frs X.stack) ch H H' s.heap h') (hok:HOk X.prog X.w H' h') (hg:AllBare g')
 (hch:∀b∈ch,(b∈X.ex\/X.s₀.heap.objs.size<=b)/\b≠X.env.locals/\(∀x c,X.env.cells.lookup x=some c->c≠b)/\∀p∈X.pn++pins,p.1≠b) :
 Inv X pins σ H' { s with heap:=h',gens:=g',drawn:=d',toks:=t' }:=by
 obtain ⟨m,⟨o,es,ep,ho,r⟩,_⟩:=id I.loc
 obtain ⟨sl,hL⟩:=u.any ho I.free fun z=>(hch _ z).2.1 rfl
 exact I.step (ch:=ch) hch (fun b o hL hb hc e n=>u.keep b o e n (fun z=>(List.mem_cons.mp (I.stkSub b z)).elim hL hb) hc) (fun b o _ _ hc e n=>u.any e n hc) (fun b o hc e n=>u.free b o e n hc) (fun b o hc e=>u.there b o e hc) u.tups u.frzs u.tbls (fun m' hm=>by
  obtain ⟨o',es',ep',ho',r'⟩:=hm
  rw [ho] at ho';cases ho'
  exact ⟨_,es',ep',hL,r'⟩) hok hg
theorem Inv.turned {t':Nat} {it:Addr} (I:Inv X pins σ H s) (k:∀b o,b≠it->s.heap.get? b=some o->h'.get? b=some o) (hn:H it=none) (hL:it≠X.env.locals)
 (h1:it∈X.ex\/X.s₀.heap.objs.size<=it) (h2:∀x c,X.env.cells.lookup x=some c->c≠it) (h3:∀p∈X.pn++pins,p.1≠it):Inv X pins σ H { s with heap:=h',toks:=t' }:=by
 have nit:∀b u,H b=some u->b≠it:=fun b u e z=>by rw [z,hn] at e;cases e
 refine I.step (g':=s.gens) (d':=s.drawn) (ch:=[it]) (fun b hb=>?_) (fun b o _ _ hc e _=>k b o (fun z=>hc (by simp [z])) e) (fun b o _ _ hc e _=>⟨o.slots,k b o (fun z=>hc (by simp [z])) e⟩) (fun _ _ _ _ n=>n)
  (fun b o hc e=>⟨o,k b o (fun z=>hc (by simp [z])) e⟩) (fun _ _ e=>e) (fun _ _ _ e=>e) (fun b ps e=>⟨#[],by rw [e];simp⟩) (fun m hm=>?_) (fun b u e=>?_) I.bare
 ·have e:b=it:=by simpa using hb
  subst e
  exact ⟨h1,hL,h2,h3⟩
 ·obtain ⟨o,es,ep,ho,r⟩:=hm
  exact ⟨o,es,ep,k _ o (Ne.symm hL) ho,r⟩
 ·refine (I.hok b u e).stay (fun c v hc q=>k c v ?_ q) (fun _ q=>q) fun _ _ q=>q
  rcases hc with z | z
  ·rw [z];exact nit b u e
  ·exact nit c _ z
theorem Inv.tok (I:Inv X pins σ H s) (t:Nat):Inv X pins σ H { s with toks:=t }:=I.un (h':=s.heap) (t':=t) Un.refl I.hok
theorem Inv.kept {t':Nat} (I:Inv X pins σ H s) (k:∀b u,s.heap.get? b=some u->h'.get? b=some u):Inv X pins σ H { s with heap:=h',toks:=t' }:=I.un (Un.kept k) (I.hok.kept k)
theorem Inv.laid {a:Addr} {o:HO} {t':Nat} (I:Inv X pins σ H s) (k:∀b u,s.heap.get? b=some u->h'.get? b=some u) (hp:s.heap.objs.size<=a) (new:ObjOk X.prog X.w (upd H a o) h' a o) :
 Inv X pins σ (upd H a o) { s with heap:=h',toks:=t' }:=I.un (Un.laid k hp (I.hok.fresh hp)) (I.hok.laid k hp new)
theorem Inv.write {x e:Addr} {o:HO} {t':Nat} (I:Inv X pins σ H s) (mu:Mut (H x)) (he:e=x\/H e=some (.own x)) (k:∀b u,b≠e->s.heap.get? b=some u->h'.get? b=some u) (heo:∃u,h'.get? e=some u)
 (new:ObjOk X.prog X.w (upd H x o) h' x o):Inv X pins σ (upd H x o) { s with heap:=h',toks:=t' }:=I.un (Un.write mu he k heo) (I.hok.write mu he k heo new)
theorem Inv.pins_of {pins':List (Addr × Obj)} (I:Inv X pins σ H s) (h:∀p∈pins',s.heap.get? p.1=some p.2/\H p.1=none/\p.1≠X.env.locals/\p.1 ∉ X.fs/\∀v,p.2.data≠.cell v):Inv X pins' σ H s :=
 ⟨I.ok,I.os,I.bare,I.base,I.loc,I.cell,I.free,I.freeC,fun p hp=>(List.mem_append.mp hp).elim (fun z=>I.pin p (List.mem_append_left _ z)) (h p),I.hok,I.len⟩
theorem nodup_ix {N:List Str} (hN:N.Nodup) {i j:Nat} {x:Str} (a:N[i]?=some x) (b:N[j]?=some x):i=j:=by
 obtain ⟨h1,e1⟩:=List.getElem?_eq_some_iff.mp a
 obtain ⟨h2,e2⟩:=List.getElem?_eq_some_iff.mp b
 exact (List.getElem_inj hN).mp (e1.trans e2.symm)
theorem store_ok2 {M:Model} {A:Around} {E:Value->Shared->Prop} {i:Nat} {x:Str} {v:V} {u:Value} {Q:Unit->Shared->Prop} (I:Inv X pins σ H s) (hN:X.N.Nodup) (hi:X.N[i]?=some x) (hx:Loc X.env.scope x) (r:RelV v u)
 (h:∀s',Inv X pins (σ.set i (some v)) H s'->(∃a,Heap.SameBut a s.heap s'.heap/\(a=X.env.locals\/X.env.cells.lookup x=some a))->Q () s') (hf:X.fn x=true\/X.env.scope.names.lookup x=some .local:=by first | exact .inl rfl | exact .inr rfl | assumption):wpAny M A (storeName X.env x u) Q E s:=by
 obtain ⟨m,hn,hl⟩:=id I.loc
 have hcls:(X.env.scope.kind == .class || (X.env.scope.kind == .module && X.env.locals != X.env.globals))=false:=by rw [I.ok.kind];rfl
 have hiσ:i < σ.length:=by rw [I.len];exact (List.getElem?_eq_some_iff.mp hi).1
 have cne:=I.cne
 have tracked:∀{a:Addr} {h':Heap},(∃o,s.heap.get? a=some o/\H a=none)->Heap.SameBut a s.heap h'->HOk X.prog X.w H h':=fun {a h'} ha hs b ob e=>by
  obtain ⟨_,_,hfree⟩:=ha
  refine (I.hok b ob e).stay (fun c w' hc q=>(hs.2 c ?_).trans q) (fun _ q=>q) fun _ _ q=>q
  rintro rfl
  rcases hc with rfl | hc
  ·rw [hfree] at e;cases e
  ·rw [hfree] at hc;cases hc
 rcases hx with hk | hk
 ·refine wpAny_storeName_local hk hn (fun h' hn' hs=>?_) hcls
  obtain ⟨oL,_,_,hoL,_⟩:=id hn
  refine h _ ⟨I.ok,I.os,I.bare,⟨fun b o e n hb hx=>?_,fun b o e n hb hx=>?_,I.base.free,fun b o e hx=>?_,I.base.tups,I.base.frzs,I.base.tbls⟩,⟨_,hn',fun j y v' e1 e2 e3=>?_⟩,fun y c e=>?_,I.free,I.freeC,fun p hp=>?_,tracked ⟨oL,hoL,I.free⟩ hs,by simpa using I.len⟩ ⟨_,hs,.inl rfl⟩
  ·exact (hs.2 b (Nat.ne_of_lt (Nat.lt_of_lt_of_le (Heap.lt_size e) I.ok.above))).trans (I.base.keep b o e n hb hx)
  ·obtain ⟨sl,e1⟩:=I.base.slot b o e n hb hx
   exact ⟨sl,(hs.2 b (Nat.ne_of_lt (Nat.lt_of_lt_of_le (Heap.lt_size e) I.ok.above))).trans e1⟩
  ·obtain ⟨o',e1⟩:=I.base.there b o e hx
   exact ⟨o',(hs.2 b (Nat.ne_of_lt (Nat.lt_of_lt_of_le (Heap.lt_size e) I.ok.above))).trans e1⟩
  ·by_cases hj:j=i
   ·subst hj
    rw [hi] at e1;cases e1
    rw [List.getElem?_set_self hiσ] at e2
    cases e2
    exact ⟨u,r,.inl ⟨hk,by simp⟩⟩
   ·rw [List.getElem?_set_ne (Ne.symm hj)] at e2
    obtain ⟨u',r',q⟩:=hl j y v' e1 e2 e3
    refine ⟨u',r',?_⟩
    rcases q with ⟨k,e⟩ | ⟨k,c,e,z⟩
    ·refine .inl ⟨k,?_⟩
     have:y≠x:=fun e=>hj (nodup_ix hN e1 (e ▸ hi))
     simp [this,e]
    ·exact .inr ⟨k,c,e,z.sameBut hs (cne y c e)⟩
  ·obtain ⟨w',z⟩:=I.cell y c e
   exact ⟨w',z.sameBut hs (cne y c e)⟩
  ·obtain ⟨e,n,ne,nf,d⟩:=I.pin p hp
   exact ⟨(hs.2 p.1 ne).trans e,n,ne,nf,d⟩
 ·have hfn:X.fn x=true:=by
   rcases hf with z | z
   ·exact z
   ·rw [z] at hk;cases hk
  obtain ⟨c,hc⟩:=I.ok.has x (.inl hk)
  obtain ⟨w',z⟩:=I.cell x c hc
  refine wpAny_storeName_cell I.ok.kind hk hc z (fun h' hc' hs=>?_)
  obtain ⟨oc,hoc,hocd⟩:=id z
  refine h { s with heap:=h' } ⟨I.ok,I.os,I.bare,⟨fun b o e n hb hx=>?_,fun b o e n hb hx=>?_,I.base.free,fun b o e hx=>?_,I.base.tups,I.base.frzs,I.base.tbls⟩,⟨m,hn.sameBut hs (Ne.symm (cne x c hc)),fun j y v' e1 e2 e3=>?_⟩,fun y c' e=>?_,I.free,I.freeC,fun p hp=>?_,tracked ⟨oc,hoc,I.freeC x c hc⟩ hs,by simpa using I.len⟩ ⟨c,hs,.inr hc⟩
  ·exact (hs.2 b (Nat.ne_of_lt (Nat.lt_of_lt_of_le (Heap.lt_size e) (I.ok.cab x c hfn hc)))).trans (I.base.keep b o e n hb hx)
  ·obtain ⟨sl,e1⟩:=I.base.slot b o e n hb hx
   exact ⟨sl,(hs.2 b (Nat.ne_of_lt (Nat.lt_of_lt_of_le (Heap.lt_size e) (I.ok.cab x c hfn hc)))).trans e1⟩
  ·obtain ⟨o',e1⟩:=I.base.there b o e hx
   exact ⟨o',(hs.2 b (Nat.ne_of_lt (Nat.lt_of_lt_of_le (Heap.lt_size e) (I.ok.cab x c hfn hc)))).trans e1⟩
  ·by_cases hj:j=i
   ·subst hj
    rw [hi] at e1;cases e1
    rw [List.getElem?_set_self hiσ] at e2
    cases e2
    exact ⟨u,r,.inr ⟨.inl hk,c,hc,hc'⟩⟩
   ·rw [List.getElem?_set_ne (Ne.symm hj)] at e2
    obtain ⟨u',r',q⟩:=hl j y v' e1 e2 e3
    refine ⟨u',r',?_⟩
    rcases q with q | ⟨k,c',e,z'⟩
    ·exact .inl q
    ·refine .inr ⟨k,c',e,z'.sameBut hs ?_⟩
     rintro rfl
     exact hj (nodup_ix hN e1 (I.ok.inj _ _ _ e hc ▸ hi))
  ·by_cases hcc:c'=c
   ·subst hcc;exact ⟨_,hc'⟩
   ·obtain ⟨w2,z2⟩:=I.cell y c' e
    exact ⟨w2,z2.sameBut hs hcc⟩
  ·obtain ⟨e,n,ne,nf,d⟩:=I.pin p hp
   refine ⟨(hs.2 p.1 ?_).trans e,n,ne,nf,d⟩
   intro q
   rw [q,hoc] at e
   have q':oc=p.2:=Option.some.inj e
   exact d w' (by rw [<- q'];exact hocd)
theorem store_ok {M:Model} {A:Around} {E:Value->Shared->Prop} {i:Nat} {x:Str} {v:V} {u:Value} {Q:Unit->Shared->Prop} (I:Inv X pins σ H s) (hN:X.N.Nodup) (hi:X.N[i]?=some x) (hx:Loc X.env.scope x) (r:RelV v u)
 (h:∀s',Inv X pins (σ.set i (some v)) H s'->Q () s') (hf:X.fn x=true\/X.env.scope.names.lookup x=some .local:=by first | exact .inl rfl | exact .inr rfl | assumption):wpAny M A (storeName X.env x u) Q E s :=
 store_ok2 I hN hi hx r (fun s' I' _=>h s' I') hf
theorem Inv.call' {s':Shared} {ch:List Addr} (I:Inv X pins σ H s) (ho:s'.os=s.os) (u:Un (frs X.stack) ch H H' s.heap s'.heap) (hok:HOk X.prog X.w H' s'.heap) (hg:AllBare s'.gens)
 (hch:∀b∈ch,(b∈X.ex\/X.s₀.heap.objs.size<=b)/\b≠X.env.locals/\(∀x c,X.env.cells.lookup x=some c->c≠b)/\∀p∈X.pn++pins,p.1≠b):Inv X pins σ H' s':=by
 obtain ⟨h',g',d',t',o'⟩:=s'
 have e:o'=s.os:=ho
 subst e
 exact I.call (g':=g') (t':=t') (d':=d') u hok hg hch
end
abbrev XK:=Value->Option Addr->Hp->Prop
abbrev St:=List (Option V)
abbrev VK:=V->Hp->Prop
abbrev TE:=St->Hp->VK->Prop
abbrev TT:=St->Hp->(Bool->Hp->Prop)->Prop
abbrev TA:=St->Hp->(List V->Hp->Prop)->Prop
structure Ends where
 nx:St->Hp->Prop
 rt:VK
 bk:St->Hp->Prop:=fun _ _=>False
 ct:St->Hp->Prop:=fun _ _=>False
abbrev TS:=Ends->St->Hp->Prop
noncomputable def EP (X:Cx) (pins:List (Addr × Obj)) (σ:St) (Q:VK) (u:Value) (s':Shared):Prop:=∃v H',Inv X pins σ H' s'/\RelV v u/\Q v H'
noncomputable def TP (X:Cx) (pins:List (Addr × Obj)) (σ:St) (Q:Bool->Hp->Prop) (b:Bool) (s':Shared):Prop:=∃H',Inv X pins σ H' s'/\Q b H'
noncomputable def AP (X:Cx) (pins:List (Addr × Obj)) (σ:St) (Q:List V->Hp->Prop) (us:List Value) (s':Shared):Prop:=∃vs H',Inv X pins σ H' s'/\Vals vs us/\Q vs H'
noncomputable def SP (X:Cx) (pins:List (Addr × Obj)) (D:Ends) (f:Flow) (s':Shared):Prop :=
 match f with
 | .next=>∃σ' H',Inv X pins σ' H' s'/\D.nx σ' H'
 | .brk=>∃σ' H',Inv X pins σ' H' s'/\D.bk σ' H'
 | .cont=>∃σ' H',Inv X pins σ' H' s'/\D.ct σ' H'
 | .ret u=>∃v σ' H',Inv X pins σ' H' s'/\RelV v u/\D.rt v H'
noncomputable def PE (X:Cx) (e:Expr) (t:TE):Prop :=
 ∀(pins:List (Addr × Obj)) (s:Shared) (σ:St) (H:Hp) (Q:VK),Inv X pins σ H s->t σ H Q->wpAny (model X.prog X.w) X.A (eval e X.env) (EP X pins σ Q) X.xe s
noncomputable def PT (X:Cx) (e:Expr) (t:TT):Prop :=
 ∀(pins:List (Addr × Obj)) (s:Shared) (σ:St) (H:Hp) (Q:Bool->Hp->Prop),Inv X pins σ H s->t σ H Q->wpAny (model X.prog X.w) X.A (isTrue e X.env (eval e X.env)) (TP X pins σ Q) X.xe s
noncomputable def PW (X:Cx) (e:Expr) (t:TT):Prop :=
 ∀(whole:Sem Value) (pins:List (Addr × Obj)) (s:Shared) (σ:St) (H:Hp) (Q:Bool->Hp->Prop),Inv X pins σ H s->t σ H Q->wpAny (model X.prog X.w) X.A (isTrue e X.env whole) (TP X pins σ Q) X.xe s
theorem PW.pt {X:Cx} {e:Expr} {t:TT} (h:PW X e t):PT X e t:=h _
noncomputable def PA (X:Cx) (es:List Expr) (t:TA):Prop :=
 ∀(pos:Pos) (pins:List (Addr × Obj)) (s:Shared) (σ:St) (H:Hp) (Q:List V->Hp->Prop),Inv X pins σ H s->t σ H Q->wpAny (model X.prog X.w) X.A (spliced (backTo pos (starEach es X.env))) (AP X pins σ Q) X.xe s
noncomputable def PS (X:Cx) (st:Stmt) (t:TS):Prop :=
 ∀(pins:List (Addr × Obj)) (s:Shared) (σ:St) (H:Hp) (D:Ends),Inv X pins σ H s->t D σ H->wpAny (model X.prog X.w) X.A (exec st X.env) (SP X pins D) X.xe s
noncomputable def PSs (X:Cx) (st:List Stmt) (t:TS):Prop :=
 ∀(pins:List (Addr × Obj)) (s:Shared) (σ:St) (H:Hp) (D:Ends),Inv X pins σ H s->t D σ H->wpAny (model X.prog X.w) X.A (execs st X.env) (SP X pins D) X.xe s
theorem thn {α:Type} {t:Sem α} {Q Q':α->Shared->Prop} {M:Model} {A:Around} {E:Value->Shared->Prop} {s:Shared} (h:wpAny M A t Q E s) (hQ:∀a s,Q a s->Q' a s):wpAny M A t Q' E s:=wpAny_mono h hQ fun _ _ x=>x
end L2
namespace L2
open PySem PySem.Spec PyProof.Rows
section
variable {X:Cx}
noncomputable def tVar (i:Nat):TE:=fun σ H Q=>∃v,σ[i]?=some (some v)/\Q v H
noncomputable def tC (v:V):TE:=fun _ H Q=>Q v H
theorem pe_var {i:Nat} {x:Str} {pos:Pos} (hN:X.N[i]?=some x) (hv:Vis X.env.scope x) (hd:(x == ("__debug__":Str))=false:=by decide) (hcd:(x == ("__classdict__":Str))=false:=by decide):PE X (.Name x pos) (tVar i):=by
 intro pins s σ H Q I h
 obtain ⟨v,e,h⟩:=h
 obtain ⟨m,hn,hl⟩:=I.loc
 obtain ⟨u,r,l⟩:=hl i x v hN e hv
 have fin:EP X pins σ Q u s:=⟨v,H,I,r,h⟩
 rcases l with ⟨hk,hm⟩ | ⟨hk,c,hc,hcell⟩
 ·exact wpAny_Name (wpAny_loadName_local I.ok.kind hk hn hm fin) hd
 ·rcases hk with hk | hk
  ·exact wpAny_Name (wpAny_loadName_cell I.ok.kind hk hc hcell fin) hd
  ·exact wpAny_Name (wpAny_loadName_free I.ok.kind hk hc hcell fin hcd) hd
theorem pe_int {i j pos}:PE X (.Constant (.int i) j pos) (tC (.int i)):=fun _ _ _ H _ I h=>wpAny_Constant_int ⟨.int i,H,I.tok _,⟨_,rfl⟩,h⟩
theorem pe_bl {b j pos}:PE X (.Constant (.bool b) j pos) (tC (.bl b)):=fun _ _ _ H _ I h=>Constant_bool ⟨.bl b,H,I,rfl,h⟩
theorem pe_non {j pos}:PE X (.Constant .none j pos) (tC .non):=fun _ _ _ H _ I h=>Constant_none ⟨.non,H,I,rfl,h⟩
theorem pe_str {x j pos}:PE X (.Constant (.str x) j pos) (tC (.str x)):=fun _ _ _ H _ I h=>Calls.Constant_str ⟨.str x,H,I.tok _,⟨_,rfl⟩,h⟩
noncomputable def Gl (X:Cx) (x:Str):Prop:=X.env.kindOf x=some .globalImplicit
theorem ld_glob {E:Value->Shared->Prop} {pins:List (Addr × Obj)} {s:Shared} {σ:St} {H:Hp} {x:Str} {u:Value} {pos:Pos} {Q:Value->Shared->Prop} (I:Inv X pins σ H s) (hg:Gl X x) (hm:X.mg x=some u) (h:Q u s)
 (hd:(x == ("__debug__":Str))=false:=by decide):wpAny (model X.prog X.w) X.A (eval (.Name x pos) X.env) Q E s :=
 Calls.Name_function_global I.ok.kind hg (Calls.loadGlobal_global (by rw [I.ok.glob];exact I.mod.glob.keeps I.bk) hm h) hd
theorem ld_blt {E:Value->Shared->Prop} {pins:List (Addr × Obj)} {s:Shared} {σ:St} {H:Hp} {x:Str} {u:Value} {pos:Pos} {Q:Value->Shared->Prop} (I:Inv X pins σ H s) (hg:Gl X x) (hm:X.mg x=none) (hv:bootBuiltins x=some u) (h:Q u s)
 (hn:x≠"__name__":=by decide) (hd:(x == ("__debug__":Str))=false:=by decide):wpAny (model X.prog X.w) X.A (eval (.Name x pos) X.env) Q E s:=by
 obtain ⟨mb,h1,h2⟩:=I.mod.blt
 exact Calls.Name_function_global I.ok.kind hg (Calls.loadGlobal_builtin (by rw [I.ok.glob];exact I.mod.glob.keeps I.bk) hm (by rw [I.ok.blt];exact h1.keeps I.bk) ((h2 x hn).trans hv) h) hd
theorem pe_glob {x:Str} {v:V} {u:Value} {pos:Pos} (hg:Gl X x) (hm:X.mg x=some u) (r:RelV v u) (hd:(x == ("__debug__":Str))=false:=by decide):PE X (.Name x pos) (tC v) :=
 fun _ _ _ H _ I h=>ld_glob I hg hm ⟨v,H,I,r,h⟩ hd
theorem pe_bltn {x:Str} {v:V} {u:Value} {pos:Pos} (hg:Gl X x) (hm:X.mg x=none) (hv:bootBuiltins x=some u) (r:RelV v u) (hn:x≠"__name__":=by decide) (hd:(x == ("__debug__":Str))=false:=by decide):PE X (.Name x pos) (tC v) :=
 fun _ _ _ H _ I h=>ld_blt I hg hm hv ⟨v,H,I,r,h⟩ hn hd
variable {a b:Expr} {ta tb:TE} {pos:Pos}
noncomputable def tB (t:TE):TT:=fun σ H Q=>t σ H fun x H1=>∃c,x=.bl c/\Q c H1
theorem pt_val {e:Expr} {t:TE} (h:PE X e t) (he:∀whole,isTrue e X.env whole=(do let v <- whole;standAt e.pos;holding [v] (truthy v)):=by intro _;rfl):PT X e (tB t):=by
 intro pins s σ H Q I hw
 refine isTrue_plain (thn (h pins s σ H _ I hw) fun v s1 ⟨x,H1,I1,r1,q1⟩=>?_) (he _)
 obtain ⟨d,rfl,q⟩:=q1
 cases r1
 exact wpAny_truthy_bool ⟨H1,I1,q⟩
variable {tA tB':TT} {rest:List Expr}
noncomputable def tAnd (t u:TT):TT:=fun σ H Q=>t σ H fun c H1=>if c=true then u σ H1 Q else Q false H1
noncomputable def tOr (t u:TT):TT:=fun σ H Q=>t σ H fun c H1=>if c=true then Q true H1 else u σ H1 Q
noncomputable def tNot (t:TT):TT:=fun σ H Q=>t σ H fun c H1=>Q (!c) H1
theorem pw_and1 (ha:PT X a tA):PW X (.BoolOp .And [a] pos) tA:=by
 intro wh pins s σ H Q I h
 refine isTrue_and (thn (ha pins s σ H Q I h) fun c s1 e=>?_)
 cases c with
 | true=>exact isTrue_and_nil e
 | false=>exact e
theorem pw_or1 (ha:PT X a tA):PW X (.BoolOp .Or [a] pos) tA:=by
 intro wh pins s σ H Q I h
 refine isTrue_or (thn (ha pins s σ H Q I h) fun c s1 e=>?_)
 cases c with
 | false=>exact isTrue_or_nil e
 | true=>exact e
theorem pw_and (ha:PT X a tA) (hb:PW X (.BoolOp .And (b :: rest) pos) tB'):PW X (.BoolOp .And (a :: b :: rest) pos) (tAnd tA tB'):=by
 intro wh pins s σ H Q I h
 refine isTrue_and (thn (ha pins s σ H _ I h) fun c s1 ⟨H1,I1,q1⟩=>?_)
 cases c with
 | true=>exact hb wh pins s1 σ H1 Q I1 q1
 | false=>exact ⟨H1,I1,q1⟩
theorem pw_or (ha:PT X a tA) (hb:PW X (.BoolOp .Or (b :: rest) pos) tB'):PW X (.BoolOp .Or (a :: b :: rest) pos) (tOr tA tB'):=by
 intro wh pins s σ H Q I h
 refine isTrue_or (thn (ha pins s σ H _ I h) fun c s1 ⟨H1,I1,q1⟩=>?_)
 cases c with
 | true=>exact ⟨H1,I1,q1⟩
 | false=>exact hb wh pins s1 σ H1 Q I1 q1
theorem pt_not (ha:PT X a tA):PT X (.UnaryOp .Not a pos) (tNot tA):=by
 intro pins s σ H Q I h
 exact isTrue_not (ha pins s σ H (fun c H1=>Q (!c) H1) I h)
noncomputable def tAndV (ta tb:TE):TE:=fun σ H Q=>ta σ H fun x H1=>∃c,x=.bl c/\if c=true then tb σ H1 Q else Q (.bl false) H1
noncomputable def tNotV (ta:TE):TE:=fun σ H Q=>ta σ H fun x H1=>∃c,x=.bl c/\Q (.bl (!c)) H1
theorem pe_one {op} {t:TE} (h:PE X a t):PE X (.BoolOp op [a] pos) t:=fun pins s σ H Q I hw=>BoolOp_one (h pins s σ H Q I hw)
theorem pe_and (ha:PE X a ta) (hb:PE X (.BoolOp .And (b :: rest) pos) tb):PE X (.BoolOp .And (a :: b :: rest) pos) (tAndV ta tb):=by
 intro pins s σ H Q I h
 refine BoolOp_and (thn (ha pins s σ H _ I h) fun v s1 ⟨x,H1,I1,r1,q1⟩=>?_)
 obtain ⟨c,rfl,q1⟩:=q1
 cases r1
 refine wpAny_truthy_bool ?_
 cases c with
 | true=>exact hb pins s1 σ H1 Q I1 q1
 | false=>exact ⟨.bl false,H1,I1,rfl,q1⟩
theorem pe_not (ha:PE X a ta):PE X (.UnaryOp .Not a pos) (tNotV ta):=by
 intro pins s σ H Q I h
 refine UnaryOp_ (thn (ha pins s σ H _ I h) fun v s1 ⟨x,H1,I1,r1,q1⟩=>?_)
 obtain ⟨c,rfl,q1⟩:=q1
 cases r1
 exact not_of (wpAny_truthy_bool ⟨.bl (!c),H1,I1,rfl,q1⟩)
end
end L2
namespace L2
open PySem PySem.Spec PyProof.Rows
noncomputable def SqL (K:PySem.W.Frag) (H:Hp) (a:Addr) (xs:List V):Prop :=
 Rd H a (.lst xs) \/
  ∃(o:Obj) (its:Array Value) (n:Nat),K.lookup a=some o/\o.cls=.type "list"/\o.dict=none/\o.data=.seq its n/\its.size<=sizeLine/\Vals xs its.toList
noncomputable def SqT (K:PySem.W.Frag) (H:Hp) (a:Addr) (xs:List V):Prop :=
 Rd H a (.tup xs) \/
  ∃(o:Obj) (its:Array Value) (n:Nat),K.lookup a=some o/\o.cls=.type "tuple"/\o.data=.seq its n/\its.size<=sizeLine/\Vals xs its.toList
noncomputable def absV:Value->Option V
 | .none=>some .non
 | .bool b=>some (.bl b)
 | .int i _=>some (.int i)
 | .str x _=>some (.str x)
 | .bytes b _=>some (.byt b)
 | .float b _=>some (.flt b)
 | .ref a=>some (.ref a)
 | .type n=>some (.ty n)
 | _=>none
theorem RelV.abs {x:V} {u:Value} (r:RelV x u):absV u=some x:=by
 cases x with
 | non=>cases r;rfl
 | bl _=>cases r;rfl
 | int _=>obtain ⟨t,rfl⟩:=r;rfl
 | str _=>obtain ⟨t,rfl⟩:=r;rfl
 | byt _=>obtain ⟨t,rfl⟩:=r;rfl
 | flt _=>obtain ⟨t,rfl⟩:=r;rfl
 | ref _=>cases r;rfl
 | ty _=>cases r;rfl
theorem RelV.inj {x y:V} {u:Value} (r:RelV x u) (q:RelV y u):x=y:=Option.some.inj (r.abs.symm.trans q.abs)
theorem Vals.inj:∀{xs ys:List V} {us:List Value},Vals xs us->Vals ys us->xs=ys
 | _,_,_,.nil,.nil=>rfl
 | _,_,_,.cons r t,.cons r' t'=>by rw [r.inj r',Vals.inj t t']
section
variable {X:Cx} {pins:List (Addr × Obj)} {σ:St} {H:Hp} {s:Shared} {a:Addr} {xs ys:List V}
theorem SqL.of {K:PySem.W.Frag} (h:H a=some (.lst xs)):SqL K H a xs:=.inl (.inl h)
theorem SqT.of {K:PySem.W.Frag} (h:H a=some (.tup xs)):SqT K H a xs:=.inl (.inl h)
theorem Inv.list (I:Inv X pins σ H s) (h:SqL X.K H a xs):∃its:List Value,Vals xs its/\PlainL s.heap a its.toArray/\xs.length<=sizeLine:=by
 rcases h with h | ⟨o,its,n,hk,hc,hd,hs,hz,r⟩
 ·obtain ⟨z,its,n,r,e⟩:=h.ok I.hok
  exact ⟨its,r,⟨_,n,e,rfl,rfl,rfl⟩,z⟩
 ·refine ⟨its.toList,r,⟨o,n,I.kIn a o hk,hc,hd,by simpa using hs⟩,?_⟩
  have e:=r.length
  simp only [Array.length_toList] at e
  omega
theorem Inv.tuple (I:Inv X pins σ H s) (h:SqT X.K H a xs):∃its:List Value,Vals xs its/\IsTup s.heap a its.toArray/\xs.length<=sizeLine:=by
 rcases h with h | ⟨o,its,n,hk,hc,hs,hz,r⟩
 ·obtain ⟨z,its,r,p⟩:=h.ok I.hok
  exact ⟨its,r,p,z⟩
 ·refine ⟨its.toList,r,⟨o,I.kIn a o hk,hc,n,by simpa using hs⟩,?_⟩
  have e:=r.length
  simp only [Array.length_toList] at e
  omega
theorem Inv.list_inj (I:Inv X pins σ H s) (h:SqL X.K H a xs) (h':SqL X.K H a ys):xs=ys:=by
 obtain ⟨its,r,⟨o,n,e,_,_,d⟩,_⟩:=I.list h
 obtain ⟨its',r',⟨o',n',e',_,_,d'⟩,_⟩:=I.list h'
 rw [e] at e';cases e'
 rw [d] at d'
 injection d' with d1 _
 have:its=its':=by simpa using congrArg Array.toList d1
 subst this
 exact r.inj r'
theorem Inv.tuple_inj (I:Inv X pins σ H s) (h:SqT X.K H a xs) (h':SqT X.K H a ys):xs=ys:=by
 obtain ⟨its,r,⟨o,e,_,n,d⟩,_⟩:=I.tuple h
 obtain ⟨its',r',⟨o',e',_,n',d'⟩,_⟩:=I.tuple h'
 rw [e] at e';cases e'
 rw [d] at d'
 injection d' with d1 _
 have:its=its':=by simpa using congrArg Array.toList d1
 subst this
 exact r.inj r'
end
abbrev Cx.wish (X:Cx) (E:Value->Shared->Prop):Cx:={ X with xe:=E }
abbrev Cx.nox (X:Cx):Cx:=X.wish fun _ _=>False
theorem Cx.Ok.wish {X:Cx} (ok:X.Ok) (E:Value->Shared->Prop):(X.wish E).Ok :=
 ⟨ok.mod,ok.kind,ok.glob,ok.blt,ok.above,ok.inj,ok.has,ok.cab,ok.hd,ok.frames,ok.stk,ok.exf,ok.bs,ok.bsz,ok.noex,ok.exfs,ok.funs,ok.frf⟩
theorem Cx.Ok.unwish {X:Cx} {E:Value->Shared->Prop} (ok:(X.wish E).Ok):X.Ok :=
 ⟨ok.mod,ok.kind,ok.glob,ok.blt,ok.above,ok.inj,ok.has,ok.cab,ok.hd,ok.frames,ok.stk,ok.exf,ok.bs,ok.bsz,ok.noex,ok.exfs,ok.funs,ok.frf⟩
section
variable {X:Cx} {pins:List (Addr × Obj)} {σ:St} {H:Hp} {s:Shared} {E:Value->Shared->Prop}
theorem Inv.wish (I:Inv X pins σ H s) (E:Value->Shared->Prop):Inv (X.wish E) pins σ H s:=⟨I.ok.wish E,I.os,I.bare,I.base,I.loc,I.cell,I.free,I.freeC,I.pin,I.hok,I.len⟩
theorem Inv.unwish (I:Inv (X.wish E) pins σ H s):Inv X pins σ H s:=⟨I.ok.unwish,I.os,I.bare,I.base,I.loc,I.cell,I.free,I.freeC,I.pin,I.hok,I.len⟩
theorem SP.unwish {D:Ends} {f:Flow} {s':Shared} (h:SP (X.wish E) pins D f s'):SP X pins D f s':=by
 cases f with
 | next=>obtain ⟨σ',H',I,q⟩:=h;exact ⟨σ',H',I.unwish,q⟩
 | brk=>obtain ⟨σ',H',I,q⟩:=h;exact ⟨σ',H',I.unwish,q⟩
 | cont=>obtain ⟨σ',H',I,q⟩:=h;exact ⟨σ',H',I.unwish,q⟩
 | ret u=>obtain ⟨v,σ',H',I,r,q⟩:=h;exact ⟨v,σ',H',I.unwish,r,q⟩
theorem PSs.nox {st:List Stmt} {t:TS} (h:PSs X.nox st t):PSs X st t:=fun pins s σ H D I hw =>
 wpAny_mono (h pins s σ H D (I.wish _) hw) (fun _ _ q=>q.unwish) fun _ _ z=>False.elim z
end
section
variable {X:Cx} {st:Stmt} {rest:List Stmt} {t u:TS} {e:Expr} {te:TE} {pos:Pos}
noncomputable def tNext:TS:=fun D σ H=>D.nx σ H
noncomputable def tSeq (t u:TS):TS:=fun D σ H=>t { D with nx:=u D } σ H
theorem pss_nil:PSs X [] tNext:=fun _ _ σ H _ I h=>wpAny_execs_nil ⟨σ,H,I,h⟩
theorem pss_cons (h1:PS X st t) (h2:PSs X rest u):PSs X (st :: rest) (tSeq t u):=by
 intro pins s σ H D I h
 refine wpAny_execs_cons (thn (h1 pins s σ H { D with nx:=u D } I h) fun f s1 q=>?_)
 cases f with
 | next =>
   obtain ⟨σ',H',I',q⟩:=q
   exact h2 pins s1 σ' H' D I' q
 | ret v=>exact q
 | brk=>exact q
 | cont=>exact q
theorem pss_one (h1:PS X st t):PSs X [st] t:=by
 intro pins s σ H D I h
 refine wpAny_execs_cons (thn (h1 pins s σ H D I h) fun f s1 q=>?_)
 cases f with
 | next=>exact wpAny_execs_nil q
 | ret v=>exact q
 | brk=>exact q
 | cont=>exact q
theorem Inv.quiet {pins:List (Addr × Obj)} {σ:St} {H:Hp} {s:Shared} (I:Inv X pins σ H s):interactive X.env=false:=by simp [interactive,I.ok.kind]
noncomputable def tDrop (te:TE):TS:=fun D σ H=>te σ H fun _ H1=>D.nx σ H1
theorem ps_expr (he:PE X e te) (hs:swapsWith e none pos.line X.env=pure false:=by rfl):PS X (.Expr e pos) (tDrop te):=by
 intro pins s σ H D I h
 exact wpAny_Expr_any (thn (he pins s σ H _ I h) fun v s1 ⟨x,H1,I1,r1,q1⟩=>⟨σ,H1,I1,q1⟩) I.quiet hs
noncomputable def tRet (te:TE):TS:=fun D σ H=>te σ H D.rt
theorem ps_ret (he:PE X e te):PS X (.Return (some e) pos) (tRet te):=by
 intro pins s σ H D I h
 exact wpAny_Return_some (thn (he pins s σ H _ I h) fun v s1 ⟨x,H1,I1,r1,q1⟩=>⟨x,σ,H1,I1,r1,q1⟩)
noncomputable def tIfS (c:TT) (t u:TS):TS:=fun D σ H=>c σ H fun b H1=>if b=true then t D σ H1 else u D σ H1
theorem ps_if {c:Expr} {a b:List Stmt} {tc:TT} (hc:PT X c tc) (ha:PSs X a t) (hb:PSs X b u):PS X (.If c a b pos) (tIfS tc t u):=by
 intro pins s σ H D I h
 refine wpAny_If (thn (hc pins s σ H _ I h) fun d s1 ⟨H1,I1,q1⟩=>?_)
 cases d with
 | true=>exact ha pins s1 σ H1 D I1 q1
 | false=>exact hb pins s1 σ H1 D I1 q1
noncomputable def tNever:TS:=fun _ _ _=>False
theorem ps_never:PS X st tNever:=fun _ _ _ _ _ _ h=>h.elim
end
abbrev TG:=V->St->Hp->(St->Hp->Prop)->Prop
abbrev TGs:=List V->St->Hp->(St->Hp->Prop)->Prop
noncomputable def PG (X:Cx) (target:Expr) (t:TG):Prop :=
 ∀(pins:List (Addr × Obj)) (s:Shared) (σ:St) (H:Hp) (v:V) (u:Value) (Q:St->Hp->Prop),Inv X pins σ H s->RelV v u->t v σ H Q ->
  wpAny (model X.prog X.w) X.A (assign target X.env u) (fun _ s'=>∃σ' H',Inv X pins σ' H' s'/\Q σ' H') X.xe s
noncomputable def PGs (X:Cx) (ts:List Expr) (t:TGs):Prop :=
 ∀(pins:List (Addr × Obj)) (s:Shared) (σ:St) (H:Hp) (vs:List V) (us:List Value) (Q:St->Hp->Prop),Inv X pins σ H s->Vals vs us->t vs σ H Q ->
  wpAny (model X.prog X.w) X.A (assignInOrder ((assignEach ts X.env).map (·.2)) us) (fun _ s'=>∃σ' H',Inv X pins σ' H' s'/\Q σ' H') X.xe s
abbrev TSet:=V->V->V->Hp->(Hp->Prop)->Prop
noncomputable def PSet (X:Cx) (t:TSet):Prop :=
 ∀(pins:List (Addr × Obj)) (s:Shared) (σ:St) (H:Hp) (o i v:V) (ov iv u:Value) (Q:Hp->Prop),Inv X pins σ H s->RelV o ov->RelV i iv->RelV v u->t o i v H Q ->
  wpAny (model X.prog X.w) X.A (setItem ov iv u) (fun _ s'=>∃H',Inv X pins σ H' s'/\Q H') X.xe s
section
variable {X:Cx} {pos:Pos}
noncomputable def gName (i:Nat):TG:=fun v σ H Q=>Q (σ.set i (some v)) H
theorem pg_name {i:Nat} {x:Str} (hN:X.N.Nodup) (hi:X.N[i]?=some x) (hx:Loc X.env.scope x) (hf:X.fn x=true\/X.env.scope.names.lookup x=some .local:=by first | exact .inl rfl | exact .inr rfl | assumption):PG X (.Name x pos) (gName i):=by
 intro pins s σ H v u Q I r h
 exact wpAny_assign_Name (store_ok I hN hi hx r (fun s' I'=>⟨_,H,I',h⟩) hf)
noncomputable def gNil:TGs:=fun vs σ H Q=>vs=[]/\Q σ H
noncomputable def gCons (t:TG) (u:TGs):TGs:=fun vs σ H Q=>∃v r,vs=v :: r/\t v σ H fun σ' H'=>u r σ' H' Q
theorem pgs_nil:PGs X [] gNil:=by
 intro pins s σ H vs us Q I r h
 obtain ⟨e,h⟩:=h
 subst e
 cases r
 exact assignInOrder_nil ⟨σ,H,I,h⟩
theorem pgs_cons {e:Expr} {es:List Expr} {t:TG} {u:TGs} (h1:PG X e t) (h2:PGs X es u)
 (hs:(assignEach (e :: es) X.env).map (·.2)=assign e X.env :: (assignEach es X.env).map (·.2):=by rfl):PGs X (e :: es) (gCons t u):=by
 intro pins s σ H vs us Q I r h
 obtain ⟨v,vr,e1,h⟩:=h
 subst e1
 cases r with
 | cons r rr =>
   rw [hs]
   refine assignInOrder_cons (thn (h1 pins s σ H _ _ _ I r h) fun _ s1 ⟨σ1,H1,I1,q1⟩=>?_)
   exact h2 pins s1 σ1 H1 _ _ Q I1 rr q1
noncomputable def gTup (K:PySem.W.Frag) (n:Nat) (t:TGs):TG:=fun v σ H Q=>∃a xs,v=.ref a/\SqT K H a xs/\xs.length=n/\t xs σ H Q
theorem pg_tup {es:List Expr} {k:Nat} {t:TGs} {n:Nat} (hc:X.calm=true) (h:PGs X es t)
 (hn:(assignEach es X.env).length=n:=by rfl) (hst:(assignEach es X.env).findIdx? (·.1)=none:=by rfl):PG X (.Tuple es k pos) (gTup X.K n t):=by
 intro pins s σ H v u Q I r hw
 obtain ⟨a,xs,e1,hq,hl,hw⟩:=hw
 subst e1
 cases r
 obtain ⟨its,rv,ht,hz⟩:=I.tuple hq
 refine assign_Tuple_tuple (I.ok.hd hc) ht (by simp [hn,<- hl,rv.length]) hst fun h' hx=>?_
 have I1:Inv X pins σ H { s with heap:=h' }:=I.kept (t':=s.toks) fun b o e=>hx b o (Nat.ne_of_lt (Heap.lt_size e)) e
 exact h pins _ σ H xs _ Q I1 (by simpa using rv) hw
noncomputable def gSub (to ti:TE) (t:TSet):TG:=fun v σ H Q=>to σ H fun o H1=>ti σ H1 fun i H2=>t o i v H2 fun H3=>Q σ H3
theorem pg_sub {o i:Expr} {to ti:TE} {t:TSet} (ho:PE X o to) (hi:PE X i ti) (hs:PSet X t)
 (ha:∀v,assign (.Subscript o i pos) X.env v=(do
  let ov <- holding [v] (eval o X.env)
  let iv <- holding [v,ov] (eval i X.env)
  standAt pos
  holding [v,ov,iv] (setItem ov iv v)
  release [v,ov,iv] []):=by intro _;rfl):PG X (.Subscript o i pos) (gSub to ti t):=by
 intro pins s σ H v u Q I r h
 rw [ha]
 refine wpAny_bind (wpAny_holding (thn (ho pins s σ H _ I h) fun ov s1 ⟨x,H1,I1,r1,q1⟩=>?_))
 refine wpAny_bind (wpAny_holding (thn (hi pins s1 σ H1 _ I1 q1) fun iv s2 ⟨y,H2,I2,r2,q2⟩=>?_))
 refine wpAny_bind (wpAny_standAt (wpAny_bind (wpAny_holding (thn (hs pins s2 σ H2 x y v ov iv u _ I2 r1 r2 r q2) fun _ s3 ⟨H3,I3,q3⟩=>?_))))
 exact wpAny_release ⟨σ,H3,I3,q3⟩
noncomputable def tAsg (te:TE) (g:TG):TS:=fun D σ H=>te σ H fun x H1=>g x σ H1 D.nx
theorem ps_asg {tg e:Expr} {te:TE} {g:TG} (he:PE X e te) (hg:PG X tg g) (hs:swapsWithSole [tg] e pos.line X.env=pure false:=by rfl) (hw:swappedStores [tg] e X.env=pure none:=by rfl)
 (h1:(assignEach [tg] X.env).map (·.2)=[assign tg X.env]:=by rfl):PS X (.Assign [tg] e pos) (tAsg te g):=by
 intro pins s σ H D I h
 refine wpAny_Assign_stores (thn (he pins s σ H _ I h) fun v s1 ⟨x,H1,I1,r1,q1⟩=>?_) hs hw
 rw [h1]
 exact thn (hg pins s1 σ H1 x v _ I1 r1 q1) fun _ s2 q=>q
theorem ps_set {i:Nat} {x:Str} {e:Expr} {te:TE} {pos':Pos} (hN:X.N.Nodup) (hi:X.N[i]?=some x) (hx:Loc X.env.scope x) (he:PE X e te) (hs:swapsWith e (some (.Name x pos')) pos.line X.env=pure false:=by rfl) (hf:X.fn x=true\/X.env.scope.names.lookup x=some .local:=by first | exact .inl rfl | exact .inr rfl | assumption) :
 PS X (.Assign [.Name x pos'] e pos) (tAsg te (gName i)):=by
 intro pins s σ H D I h
 refine wpAny_Assign_Name (thn (he pins s σ H _ I h) fun v s1 ⟨y,H1,I1,r1,q1⟩=>?_) hs
 exact store_ok I1 hN hi hx r1 (fun s2 I2=>⟨_,H1,I2,q1⟩) hf
end
section
variable {X:Cx} {pos:Pos}
end
structure It where
 go:Nat->Hp->Prop
 yld:Nat->Hp->V->Hp->Prop
 stop:Nat->Hp->Prop
noncomputable def FpOk (X:Cx) (pins:List (Addr × Obj)) (H:Hp) (b:Addr):Prop :=
 H b=none/\b≠X.env.locals/\b ∉ X.fs/\(b∈X.ex\/X.s₀.heap.objs.size<=b)/\(∀x c,X.env.cells.lookup x=some c->c≠b)/\∀p∈X.pn++pins,p.1≠b
theorem Inv.fpOk {X:Cx} {pins:List (Addr × Obj)} {σ:St} {H H':Hp} {s:Shared} {b:Addr} (I:Inv X pins σ H s) (hb:s.heap.objs.size<=b) (hn:H' b=none):FpOk X pins H' b:=by
 refine ⟨hn,Nat.ne_of_gt (Nat.lt_of_lt_of_le I.lt hb),I.nofs hb,.inr (Nat.le_trans I.sz hb),fun x c e z=>?_,fun p hp z=>?_⟩
 ·obtain ⟨v,q⟩:=I.cell x c e
  exact absurd (Nat.lt_of_lt_of_le q.lt (by rw [z];exact hb)) (Nat.lt_irrefl _)
 ·exact absurd (Nat.lt_of_lt_of_le (Heap.lt_size (I.pin p hp).1) (by rw [z];exact hb)) (Nat.lt_irrefl _)
structure Turn (P:Program) (w:World) (K:PySem.W.Frag) (tg:Expr) (J:It) (fp:List Addr) (it:Addr) (tn:Nat->Heap->Prop):Prop where
 mem:it∈fp
 obj:∀i h,tn i h->∀b∈fp,∃o,h.get? b=some o/\∀v,o.data≠.cell v
 keep:∀i h h',tn i h->(∀b∈fp,∀o,h.get? b=some o->h'.get? b=some o)->tn i h'
 item:∀(X:Cx),X.prog=P->X.w=w->X.K=K->X.calm=true->∀(i:Nat) (pins:List (Addr × Obj)) (s:Shared) (σ:St) (H:Hp) (E:Value->Shared->Prop),Inv X pins σ H s->(∀b∈fp,FpOk X pins H b)->tn i s.heap->J.go i H ->
  wpAny (model P w) X.A (pyNext (.ref it)) (fun r s1=>∃u,r=some u /\
   wpAny (model P w) X.A (letOwnedTupleGo tg (.ref it) u) (fun _ s2=>∃x H',Inv X pins σ H' s2/\RelV x u/\J.yld i H x H'/\tn (i+1) s2.heap/\∀b∈fp,H' b=none) E s1) E s
 done:∀(X:Cx),X.prog=P->X.w=w->X.K=K->X.calm=true->∀(i:Nat) (pins:List (Addr × Obj)) (s:Shared) (σ:St) (H:Hp) (E:Value->Shared->Prop),Inv X pins σ H s->(∀b∈fp,FpOk X pins H b)->tn i s.heap->J.stop i H ->
  wpAny (model P w) X.A (pyNext (.ref it)) (fun r s1=>r=none/\Inv X pins σ H s1) E s
 self:∀(A:Around) (i:Nat) (s:Shared) (Q:Value->Shared->Prop) (E:Value->Shared->Prop),tn i s.heap->Q (.ref it) s->wpAny (model P w) A (pyIter (.ref it)) Q E s
abbrev TI:=St->Hp->(It->Hp->Prop)->Prop
noncomputable def PIE (X:Cx) (pins:List (Addr × Obj)) (σ:St) (tg:Expr) (R:It->Hp->Prop) (itv:Value) (s2:Shared):Prop :=
 ∃(it:Addr) (fp:List Addr) (tn:Nat->Heap->Prop) (J:It) (H':Hp),itv=.ref it/\Inv X pins σ H' s2/\Turn X.prog X.w X.K tg J fp it tn/\tn 0 s2.heap/\(∀b∈fp,FpOk X pins H' b)/\R J H'
noncomputable def PI (X:Cx) (tg iter:Expr) (wi:TI):Prop :=
 ∀(pins:List (Addr × Obj)) (s:Shared) (σ:St) (H:Hp) (R:It->Hp->Prop),Inv X pins σ H s->wi σ H R ->
  wpAny (model X.prog X.w) X.A (eval iter X.env) (fun v s1=>wpAny (model X.prog X.w) X.A (pyIter v) (PIE X pins σ tg R) X.xe s1) X.xe s
theorem go_of {M:Model} {A:Around} {E:Value->Shared->Prop} {s:Shared} {tg:Expr} {it:Addr} {u:Value} {o:Obj} {n:String} {vs:Array Value} {Q:Unit->Shared->Prop} (ho:s.heap.get? it=some o) (hc:o.cls=.type n) (hd:o.data=.fields vs)
 (hn:["enumerate","zip","dict_itemiterator","dict_reverseitemiterator","odict_iterator","itertools.zip_longest","itertools.pairwise"].contains n=false) (hQ:Q () s):wpAny M A (letOwnedTupleGo tg (.ref it) u) Q E s:=by
 unfold letOwnedTupleGo
 cases tg <;> first
  | exact wpAny_pure hQ
  | (cases u <;> first
   | exact wpAny_pure hQ
   | (refine wpAny_bind (wpAny_load ho ?_)
      rw [hc,hd]
      show wpAny M A (if (["enumerate","zip","dict_itemiterator","dict_reverseitemiterator","odict_iterator","itertools.zip_longest","itertools.pairwise"].contains n && vs[0]? == some (rawInt _))=true then _ else _) Q E s
      rw [if_neg (by intro h;rw [hn,Bool.false_and] at h;cases h)]
      exact wpAny_pure hQ))
noncomputable def Itl (K:PySem.W.Frag) (a:Addr):It :=
 ⟨fun i H=>∃xs x,SqL K H a xs/\xs[i]?=some x,fun i H x H'=>H'=H/\∀xs,SqL K H a xs->xs[i]?=some x,fun i H=>∃xs,SqL K H a xs/\xs.length<=i⟩
noncomputable def Itt (K:PySem.W.Frag) (a:Addr):It :=
 ⟨fun i H=>∃xs x,SqT K H a xs/\xs[i]?=some x,fun i H x H'=>H'=H/\∀xs,SqT K H a xs->xs[i]?=some x,fun i H=>∃xs,SqT K H a xs/\xs.length<=i⟩
noncomputable def Itr (lo:Int) (n:Nat):It:=⟨fun i _=>i < n,fun i H x H'=>H'=H/\x=.int (lo+i),fun i _=>n<=i⟩
theorem turn_list {P:Program} {w:World} {K:PySem.W.Frag} {tg:Expr} (a it:Addr):Turn P w K tg (Itl K a) [it] it (fun i h=>h.IsListIter it a i) where
 mem:=by simp
 obj:=fun i h st b hb=>by
  have e:b=it:=by simpa using hb
  subst e
  obtain ⟨o,e,c,d⟩:=st
  exact ⟨o,e,fun v z=>by rw [d] at z;cases z⟩
 keep:=fun i h h' st k=>st.at fun o e=>k it (by simp) o e
 item:=by
  intro X hP hw hK hc i pins s σ H E I hf st hg
  subst hP hw hK
  obtain ⟨xs,x,hq,hx⟩:=hg
  obtain ⟨its,rv,p,hz⟩:=I.list hq
  obtain ⟨u,hu,ru⟩:=rv.get hx
  obtain ⟨f0,f1,f2,f3,f4,f5⟩:=hf it (by simp)
  refine wpAny_pyNext_list_item st p.isList (x:=u) (by simpa using hu) fun h' st' sb=>?_
  have I1:Inv X pins σ H { s with heap:=h' }:=I.turned (t':=s.toks) (fun b o hb e=>(sb.2 b hb).trans e) f0 f1 f3 f4 f5
  obtain ⟨o,e,c,d⟩:=id st'
  exact ⟨u,rfl,go_of (s:={ s with heap:=h' }) e c d (by decide) ⟨x,H,I1,ru,⟨rfl,fun ys hy=>by rw [I.list_inj hy hq];exact hx⟩,st',fun b hb=>(hf b hb).1⟩⟩
 done:=by
  intro X hP hw hK hc i pins s σ H E I hf st hg
  subst hP hw hK
  obtain ⟨xs,hq,hx⟩:=hg
  obtain ⟨its,rv,p,hz⟩:=I.list hq
  obtain ⟨f0,f1,f2,f3,f4,f5⟩:=hf it (by simp)
  have hl:=rv.length
  exact wpAny_pyNext_list_end (I.ok.hd hc) st p.isList (by simp;omega) fun h' eb=>⟨rfl,I.turned (t':=s.toks) (fun b o hb e=>eb b o hb e) f0 f1 f3 f4 f5⟩
 self:=fun _ _ _ _ _ st h=>wpAny_pyIter_listiter st h
theorem turn_tuple {P:Program} {w:World} {K:PySem.W.Frag} {tg:Expr} (a it:Addr):Turn P w K tg (Itt K a) [it] it (fun i h=>h.IsTupleIter it a i) where
 mem:=by simp
 obj:=fun i h st b hb=>by
  have e:b=it:=by simpa using hb
  subst e
  obtain ⟨o,e,c,d⟩:=st
  exact ⟨o,e,fun v z=>by rw [d] at z;cases z⟩
 keep:=fun i h h' st k=>st.at fun o e=>k it (by simp) o e
 item:=by
  intro X hP hw hK hc i pins s σ H E I hf st hg
  subst hP hw hK
  obtain ⟨xs,x,hq,hx⟩:=hg
  obtain ⟨its,rv,p,hz⟩:=I.tuple hq
  obtain ⟨u,hu,ru⟩:=rv.get hx
  obtain ⟨f0,f1,f2,f3,f4,f5⟩:=hf it (by simp)
  refine wpAny_pyNext_tuple_item st (show s.heap.IsTuple a its.toArray from p) (x:=u) (by simpa using hu) fun h' st' sb=>?_
  have I1:Inv X pins σ H { s with heap:=h' }:=I.turned (t':=s.toks) (fun b o hb e=>(sb.2 b hb).trans e) f0 f1 f3 f4 f5
  obtain ⟨o,e,c,d⟩:=id st'
  exact ⟨u,rfl,go_of (s:={ s with heap:=h' }) e c d (by decide) ⟨x,H,I1,ru,⟨rfl,fun ys hy=>by rw [I.tuple_inj hy hq];exact hx⟩,st',fun b hb=>(hf b hb).1⟩⟩
 done:=by
  intro X hP hw hK hc i pins s σ H E I hf st hg
  subst hP hw hK
  obtain ⟨xs,hq,hx⟩:=hg
  obtain ⟨its,rv,p,hz⟩:=I.tuple hq
  obtain ⟨f0,f1,f2,f3,f4,f5⟩:=hf it (by simp)
  have hl:=rv.length
  exact wpAny_pyNext_tuple_end (I.ok.hd hc) st (show s.heap.IsTuple a its.toArray from p) (by simp;omega) fun h' eb=>⟨rfl,I.turned (t':=s.toks) (fun b o hb e=>eb b o hb e) f0 f1 f3 f4 f5⟩
 self:=fun _ _ _ _ _ st h=>wpAny_pyIter_tupleiter st h
theorem turn_range {P:Program} {w:World} {K:PySem.W.Frag} {tg:Expr} (it:Addr) (lo:Int) (n:Nat):Turn P w K tg (Itr lo n) [it] it (fun i h=>IsRangeIter h it (lo+(i:Nat)*1) ((n:Int) - (i:Nat)) 1) where
 mem:=by simp
 obj:=fun i h st b hb=>by
  have e:b=it:=by simpa using hb
  subst e
  exact ⟨_,st,fun v z=>by
   have z':Data.fields _=Data.cell v:=z
   cases z'⟩
 keep:=fun i h h' st k=>k it (by simp) _ st
 item:=by
  intro X hP hw hK hc i pins s σ H E I hf st hg
  subst hP hw hK
  obtain ⟨f0,f1,f2,f3,f4,f5⟩:=hf it (by simp)
  have W:=Walks.range (prog:=X.prog) (w:=X.w) (I.ok.hd hc) it lo 1 n
  refine W.item i s _ _ hg st fun v h' tk hv st' kk=>?_
  obtain ⟨t,rfl⟩:=hv
  have I1:Inv X pins σ H { s with heap:=h',toks:=tk }:=I.turned (fun b o hb e=>kk b o (by simpa using hb) e) f0 f1 f3 f4 f5
  refine ⟨_,rfl,go_of (s:={ s with heap:=h',toks:=tk }) (n:="range_iterator") st' rfl rfl (by decide) ⟨.int (lo+i),H,I1,⟨t,?_⟩,⟨rfl,rfl⟩,st',fun b hb=>(hf b hb).1⟩⟩
  rw [Int.mul_one]
 done:=by
  intro X hP hw hK hc i pins s σ H E I hf st hg
  subst hP hw hK
  obtain ⟨f0,f1,f2,f3,f4,f5⟩:=hf it (by simp)
  exact wpAny_pyNext_range_end (I.ok.hd hc) st (by have:n<=i:=hg;omega) fun h' eb=>⟨rfl,I.turned (t':=s.toks) (fun b o hb e=>eb b o hb e) f0 f1 f3 f4 f5⟩
 self:=fun _ _ _ _ _ st h=>wpAny_pyIter_rangeiter st h
end L2
namespace L2
open PySem PySem.Spec PyProof.Rows
section
variable {X:Cx} {tg:Expr}
noncomputable def iList (K:PySem.W.Frag) (tl:TE):TI:=fun σ H R=>tl σ H fun x H1=>∃a,x=.ref a/\(∃xs,SqL K H1 a xs)/\R (Itl K a) H1
noncomputable def iTup (K:PySem.W.Frag) (tl:TE):TI:=fun σ H R=>tl σ H fun x H1=>∃a,x=.ref a/\(∃xs,SqT K H1 a xs)/\R (Itt K a) H1
theorem pi_list {l:Expr} {tl:TE} (hl:PE X l tl):PI X tg l (iList X.K tl):=by
 intro pins s σ H R I h
 refine thn (hl pins s σ H _ I h) fun v s1 ⟨x,H1,I1,r1,q1⟩=>?_
 obtain ⟨a,e,⟨xs,hq⟩,q⟩:=q1
 subst e
 cases r1
 obtain ⟨its,rv,p,hz⟩:=I1.list hq
 refine wpAny_pyIter_list p.isList ?_
 refine ⟨s1.heap.objs.size,[s1.heap.objs.size],_,_,H1,rfl,I1.kept (t':=s1.toks) fun b o e=>Heap.get?_push_of_some _ e,turn_list a _,⟨_,Heap.get?_push_size _ rfl,rfl,rfl⟩,fun b hb=>?_,q⟩
 have e:b=s1.heap.objs.size:=by simpa using hb
 subst e
 exact I1.fpOk (Nat.le_refl _) (I1.hok.fresh (Nat.le_refl _))
theorem pi_tup {l:Expr} {tl:TE} (hl:PE X l tl):PI X tg l (iTup X.K tl):=by
 intro pins s σ H R I h
 refine thn (hl pins s σ H _ I h) fun v s1 ⟨x,H1,I1,r1,q1⟩=>?_
 obtain ⟨a,e,⟨xs,hq⟩,q⟩:=q1
 subst e
 cases r1
 obtain ⟨its,rv,p,hz⟩:=I1.tuple hq
 refine wpAny_pyIter_tuple (show s1.heap.IsTuple a its.toArray from p) ?_
 refine ⟨s1.heap.objs.size,[s1.heap.objs.size],_,_,H1,rfl,I1.kept (t':=s1.toks) fun b o e=>Heap.get?_push_of_some _ e,turn_tuple a _,⟨_,Heap.get?_push_size _ rfl,rfl,rfl⟩,fun b hb=>?_,q⟩
 have e:b=s1.heap.objs.size:=by simpa using hb
 subst e
 exact I1.fpOk (Nat.le_refl _) (I1.hok.fresh (Nat.le_refl _))
theorem range_it {pins:List (Addr × Obj)} {σ:St} {H:Hp} {s:Shared} {R:It->Hp->Prop} {E:Value->Shared->Prop} {lo hi:Int} {t u v:Tok} {tk:Nat} (I:Inv X pins σ H s) (h1:-(2 ^ 62)<=lo) (h2:lo < 2 ^ 62) (h3:-(2 ^ 62)<=hi) (h4:hi < 2 ^ 62)
 (q:R (Itr lo (hi - lo).toNat) H):wpAny (model X.prog X.w) X.A (pyIter (.ref s.heap.objs.size)) (PIE X pins σ tg R) E { s with heap:=s.heap.push { cls:=.type "range",data:=.fields #[.int lo t,.int hi u,.int 1 v] },toks:=tk }:=by
 refine wpAny_pyIter_range (IsRange.new ..) (small_one h1 h2 h3 h4) ?_
 have I1:Inv X pins σ H { s with heap:=s.heap.push { cls:=.type "range",data:=.fields #[.int lo t,.int hi u,.int 1 v] },toks:=tk }:=I.kept fun b o e=>Heap.get?_push_of_some _ e
 refine ⟨(s.heap.push { cls:=.type "range",data:=.fields #[.int lo t,.int hi u,.int 1 v] }).objs.size,[(s.heap.push { cls:=.type "range",data:=.fields #[.int lo t,.int hi u,.int 1 v] }).objs.size],_,_,H,rfl,
  I1.kept (t':=tk) fun b o e=>Heap.get?_push_of_some _ e,turn_range _ lo (hi - lo).toNat,?_,fun b hb=>?_,q⟩
 ·have e1:lo+((0:Nat):Int)*1=lo:=by simp
  have e2:(((hi - lo).toNat:Nat):Int) - ((0:Nat):Int)=Builtin.Range.rangeSize lo hi 1:=by rw [rangeSize_one];split <;> omega
  show IsRangeIter _ _ (lo+((0:Nat):Int)*1) ((((hi - lo).toNat:Nat):Int) - ((0:Nat):Int)) 1
  rw [e1,e2]
  exact Heap.get?_push_size _ rfl
 ·have e:b=(s.heap.push { cls:=.type "range",data:=.fields #[.int lo t,.int hi u,.int 1 v] }).objs.size:=by simpa using hb
  subst e
  exact I1.fpOk (Nat.le_refl _) (I1.hok.fresh (Nat.le_refl _))
noncomputable def iRng1 (ta:TA):TI:=fun σ H R=>ta σ H fun vs H1=>∃j:Int,vs=[.int j]/\-(2 ^ 62)<=j/\j < 2 ^ 62/\R (Itr 0 j.toNat) H1
noncomputable def iRng2 (ta:TA):TI:=fun σ H R=>ta σ H fun vs H1=>∃i j:Int,vs=[.int i,.int j]/\(-(2 ^ 62)<=i/\i < 2 ^ 62/\-(2 ^ 62)<=j/\j < 2 ^ 62)/\R (Itr i (j - i).toNat) H1
theorem pi_range1 {a:Expr} {ta:TA} {p pos:Pos} (hg:Gl X "range") (hm:X.mg "range"=none) (ha:PA X [a] ta) (hs:starEach [a] X.env=[(false,eval a X.env)]:=by rfl):PI X tg (.Call (.Name "range" p) [a] [] pos) (iRng1 ta):=by
 intro pins s σ H R I h
 refine Call_ (ld_blt I hg hm boot_range (PyProof.Rows.callWith_type1 (thn (ha pos pins s σ H _ I h) fun us s1 ⟨vs,H1,I1,r1,q1⟩=>?_) hs rfl))
 obtain ⟨j,e,q1,q2,q⟩:=q1
 subst e
 cases r1 with
 | cons r rr =>
   cases rr
   obtain ⟨t,rfl⟩:=r
   exact call_range_1 (range_it I1 (by omega) (by omega) q1 q2 (by simpa using q))
theorem pi_range2 {a b:Expr} {ta:TA} {p pos:Pos} (hg:Gl X "range") (hm:X.mg "range"=none) (ha:PA X [a,b] ta) (hs:starEach [a,b] X.env=[(false,eval a X.env),(false,eval b X.env)]:=by rfl) (hs2:starEach [b] X.env=[(false,eval b X.env)]:=by rfl) :
 PI X tg (.Call (.Name "range" p) [a,b] [] pos) (iRng2 ta):=by
 intro pins s σ H R I h
 refine Call_ (ld_blt I hg hm boot_range (PyProof.Rows.callWith_type1 (thn (ha pos pins s σ H _ I h) fun us s1 ⟨vs,H1,I1,r1,q1⟩=>?_) (by rw [hs,hs2]) (by rw [hs2];rfl)))
 obtain ⟨i,j,e,⟨q1,q2,q3,q4⟩,q⟩:=q1
 subst e
 cases r1 with
 | cons r rr =>
   cases rr with
   | cons r' rr =>
     cases rr
     obtain ⟨t,rfl⟩:=r
     obtain ⟨t',rfl⟩:=r'
     exact call_range_2 (range_it I1 q1 q2 q3 q4 q)
noncomputable def tFor (wi:TI) (g:TG) (tb:TS):TS:=fun D σ H=>wi σ H fun J H1=>∃W:Nat->Nat->St->Hp->Prop,(∃m,W 0 m σ H1)/\∀i m σ H,W i m σ H ->
 (J.stop i H/\D.nx σ H)\/(J.go i H/\∃N:St->Hp->Prop,(∀σ' H',N σ' H'->∃m',m' < m/\W (i+1) m' σ' H')/\∀x H',J.yld i H x H'->g x σ H' fun σ2 H2=>tb { D with nx:=N,ct:=N,bk:=D.nx } σ2 H2)
noncomputable def pinsAt (fp:List Addr) (h:Heap):List (Addr × Obj):=fp.filterMap fun b=>(h.get? b).map fun o=>(b,o)
theorem mem_pinsAt {fp:List Addr} {h:Heap} {b:Addr} {o:Obj} (hb:b∈fp) (e:h.get? b=some o):(b,o)∈pinsAt fp h:=List.mem_filterMap.mpr ⟨b,hb,by rw [e];rfl⟩
theorem of_pinsAt {fp:List Addr} {h:Heap} {p:Addr × Obj} (hp:p∈pinsAt fp h):p.1∈fp/\h.get? p.1=some p.2:=by
 obtain ⟨b,hb,e⟩:=List.mem_filterMap.mp hp
 cases q:h.get? b with
 | none=>rw [q] at e;cases e
 | some o =>
   rw [q] at e
   have e':(b,o)=p:=Option.some.inj e
   subst e'
   exact ⟨hb,q⟩
theorem Inv.pinned {pins:List (Addr × Obj)} {σ:St} {H:Hp} {s:Shared} {fp:List Addr} (I:Inv X pins σ H s) (hf:∀b∈fp,FpOk X pins H b) (ho:∀b∈fp,∃o,s.heap.get? b=some o/\∀v,o.data≠.cell v):Inv X (pins++pinsAt fp s.heap) σ H s :=
 I.pins_of fun p hp=>(List.mem_append.mp hp).elim (fun z=>I.pin p (List.mem_append_right _ z)) fun z=>by
  obtain ⟨hb,e⟩:=of_pinsAt z
  obtain ⟨f0,f1,f2,_⟩:=hf p.1 hb
  obtain ⟨o,e',d⟩:=ho p.1 hb
  rw [e] at e';cases e'
  exact ⟨e,f0,f1,f2,d⟩
theorem Inv.unpinned {pins pl:List (Addr × Obj)} {σ:St} {H:Hp} {s:Shared} (I:Inv X (pins++pl) σ H s):Inv X pins σ H s:=I.pins_of fun p hp=>I.pin p (List.mem_append_right _ (List.mem_append_left _ hp))
theorem ps_for {iter:Expr} {body:List Stmt} {wi:TI} {g:TG} {tb:TS} {pos:Pos} (hp:PassesOwn (model X.prog X.w) X.A X.env X.xe) (hc:X.calm=true) (hi:PI X tg iter wi) (hg:PG X tg g) (hb:PSs X body tb)
 (hs:∀x,foldedSetIterable iter X.env x=pure x:=by intro _;rfl):PS X (.For tg iter body [] pos) (tFor wi g tb):=by
 intro pins s σ H D I h
 refine wpAny_For (thn (hi pins s σ H _ I h) fun v s1 h1=>thn h1 fun itv s2 h2=>?_) hs
 obtain ⟨it,fp,tn,J,H2,e,I2,T,st2,f2,W,⟨m0,w0⟩,turn⟩:=h2
 subst e
 have stat:∀{H':Hp},(∀b∈fp,H' b=none)->∀b∈fp,FpOk X pins H' b:=fun hn b hb=>⟨hn b hb,(f2 b hb).2⟩
 refine codeAny_forLoop_any (fun n s'=>∃i σ' H',Inv X pins σ' H' s'/\tn i s'.heap/\(∀b∈fp,H' b=none)/\W i n σ' H') ?_ m0 ⟨0,σ,H2,I2,st2,fun b hb=>(f2 b hb).1,w0⟩
 rintro n s3 ⟨i,σ3,H3,I3,st3,fr3,w3⟩
 rcases turn i n σ3 H3 w3 with ⟨stop,qn⟩ | ⟨go,N,hN,step⟩
 ·refine wpAny_passesOwn hp (thn (T.done X rfl rfl rfl hc i pins s3 σ3 H3 X.xe I3 (stat fr3) st3 stop) fun r s4 ⟨hr,I4⟩=>?_)
  subst hr
  exact wpAny_execs_nil ⟨σ3,H3,I4,qn⟩
 ·refine wpAny_passesOwn hp (thn (T.item X rfl rfl rfl hc i pins s3 σ3 H3 X.xe I3 (stat fr3) st3 go) fun r s4 ⟨u,hr,h4⟩=>?_)
  subst hr
  refine wpAny_passesOwn hp (thn h4 fun _ s5 ⟨x,H5,I5,r5,y5,st5,fr5⟩=>?_)
  have I5':=I5.pinned (stat fr5) (T.obj _ _ st5)
  refine wpAny_passesOwn hp (thn (hg _ s5 σ3 H5 x u _ I5' r5 (step x H5 y5)) fun _ s6 ⟨σ6,H6,I6,q6⟩=>?_)
  refine wpAny_passesOwn hp (thn (hb _ s6 σ6 H6 _ I6 q6) fun f s7 q7=>?_)
  have again:∀{σ7:St} {H7:Hp},Inv X (pins++pinsAt fp s5.heap) σ7 H7 s7->N σ7 H7->∃m,m < n/\∃i σ' H',Inv X pins σ' H' s7/\tn i s7.heap/\(∀b∈fp,H' b=none)/\W i m σ' H':=fun {σ7 H7} I7 n7=>by
   obtain ⟨m',hm,w7⟩:=hN σ7 H7 n7
   refine ⟨m',hm,i+1,σ7,H7,I7.unpinned,T.keep _ _ _ st5 fun b hb o e=>(I7.pin (b,o) (List.mem_append_right _ (List.mem_append_right _ (mem_pinsAt hb e)))).1,fun b hb=>?_,w7⟩
   obtain ⟨o,e,d⟩:=T.obj _ _ st5 b hb
   exact (I7.pin (b,o) (List.mem_append_right _ (List.mem_append_right _ (mem_pinsAt hb e)))).2.1
  cases f with
  | next=>obtain ⟨σ7,H7,I7,n7⟩:=q7;exact again I7 n7
  | cont=>obtain ⟨σ7,H7,I7,n7⟩:=q7;exact again I7 n7
  | brk=>obtain ⟨σ7,H7,I7,q7⟩:=q7;exact ⟨σ7,H7,I7.unpinned,q7⟩
  | ret v=>obtain ⟨x7,σ7,H7,I7,r7,q7⟩:=q7;exact ⟨x7,σ7,H7,I7.unpinned,r7,q7⟩
end
theorem for_list {K:PySem.W.Frag} {a:Addr} {xs:List V} {g:TG} {tb:TS} {D:Ends} {σ:St} {H:Hp} (Pv:Nat->St->Hp->Prop) (h0:Pv 0 σ H) (hl:∀i σ H,i<=xs.length->Pv i σ H->SqL K H a xs)
 (hs:∀i x σ H,xs[i]?=some x->Pv i σ H->g x σ H fun σ2 H2=>tb { D with nx:=Pv (i+1),ct:=Pv (i+1),bk:=D.nx } σ2 H2) (hd:∀σ H,Pv xs.length σ H->D.nx σ H) :
 ∃W:Nat->Nat->St->Hp->Prop,(∃m,W 0 m σ H)/\∀i m σ H,W i m σ H ->
  ((Itl K a).stop i H/\D.nx σ H)\/((Itl K a).go i H/\∃N:St->Hp->Prop,(∀σ' H',N σ' H'->∃m',m' < m/\W (i+1) m' σ' H')/\∀x H',(Itl K a).yld i H x H'->g x σ H' fun σ2 H2=>tb { D with nx:=N,ct:=N,bk:=D.nx } σ2 H2):=by
 refine ⟨fun i m σ H=>m=xs.length - i/\i<=xs.length/\Pv i σ H,⟨xs.length,by simp,Nat.zero_le _,h0⟩,?_⟩
 rintro i m σ H ⟨rfl,hi,p⟩
 have q:=hl i σ H hi p
 by_cases hlt:i < xs.length
 ·refine .inr ⟨⟨xs,xs[i],q,by simp [hlt]⟩,Pv (i+1),fun σ' H' p'=>⟨xs.length - (i+1),by omega,rfl,hlt,p'⟩,fun x H' y=>?_⟩
  obtain ⟨e,y⟩:=y
  subst e
  exact hs i x σ _ (y xs q) p
 ·have e:i=xs.length:=by omega
  subst e
  exact .inl ⟨⟨xs,q,Nat.le_refl _⟩,hd σ H p⟩
theorem for_range {lo:Int} {n:Nat} {g:TG} {tb:TS} {D:Ends} {σ:St} {H:Hp} (Pv:Nat->St->Hp->Prop) (h0:Pv 0 σ H)
 (hs:∀i σ H,i < n->Pv i σ H->g (.int (lo+i)) σ H fun σ2 H2=>tb { D with nx:=Pv (i+1),ct:=Pv (i+1),bk:=D.nx } σ2 H2) (hd:∀σ H,Pv n σ H->D.nx σ H) :
 ∃W:Nat->Nat->St->Hp->Prop,(∃m,W 0 m σ H)/\∀i m σ H,W i m σ H ->
  ((Itr lo n).stop i H/\D.nx σ H)\/((Itr lo n).go i H/\∃N:St->Hp->Prop,(∀σ' H',N σ' H'->∃m',m' < m/\W (i+1) m' σ' H')/\∀x H',(Itr lo n).yld i H x H'->g x σ H' fun σ2 H2=>tb { D with nx:=N,ct:=N,bk:=D.nx } σ2 H2):=by
 refine ⟨fun i m σ H=>m=n - i/\i<=n/\Pv i σ H,⟨n,by simp,Nat.zero_le _,h0⟩,?_⟩
 rintro i m σ H ⟨rfl,hi,p⟩
 by_cases hlt:i < n
 ·refine .inr ⟨hlt,Pv (i+1),fun σ' H' p'=>⟨n - (i+1),by omega,rfl,hlt,p'⟩,fun x H' y=>?_⟩
  obtain ⟨e,y⟩:=y
  subst e y
  exact hs i σ _ hlt p
 ·have e:i=n:=by omega
  subst e
  exact .inl ⟨Nat.le_refl _,hd σ H p⟩
end L2
namespace L2
open PySem PySem.Spec PyProof.Rows
abbrev R2:=V->V->Hp->VK->Prop
noncomputable def OpR (X:Cx) (f:Value->Value->Sem Value) (r:R2):Prop :=
 ∀(pins:List (Addr × Obj)) (s:Shared) (σ:St) (H:Hp) (x y:V) (v u:Value) (Q:VK),Inv X pins σ H s->RelV x v->RelV y u->r x y H Q ->
  wpAny (model X.prog X.w) X.A (f v u) (EP X pins σ Q) X.xe s
noncomputable def UnR (X:Cx) (f:Value->Sem Value) (r:V->Hp->VK->Prop):Prop :=
 ∀(pins:List (Addr × Obj)) (s:Shared) (σ:St) (H:Hp) (x:V) (v:Value) (Q:VK),Inv X pins σ H s->RelV x v->r x H Q ->
  wpAny (model X.prog X.w) X.A (f v) (EP X pins σ Q) X.xe s
noncomputable def CallR (X:Cx) (f:Value) (r:List V->Hp->VK->Prop):Prop :=
 ∀(pins:List (Addr × Obj)) (s:Shared) (σ:St) (H:Hp) (xs:List V) (us:List Value) (Q:VK),Inv X pins σ H s->Vals xs us->r xs H Q ->
  wpAny (model X.prog X.w) X.A (call f us) (EP X pins σ Q) X.xe s
noncomputable def tOp (r:R2) (ta tb:TE):TE:=fun σ H Q=>ta σ H fun x H1=>tb σ H1 fun y H2=>r x y H2 Q
noncomputable def tUn (r:V->Hp->VK->Prop) (ta:TE):TE:=fun σ H Q=>ta σ H fun x H1=>r x H1 Q
noncomputable def rI (C:Int->Int->Prop) (g:Int->Int->V):R2:=fun x y H Q=>∃i j,x=.int i/\y=.int j/\C i j/\Q (g i j) H
noncomputable def rI0 (g:Int->Int->V):R2:=fun x y H Q=>∃i j,x=.int i/\y=.int j/\Q (g i j) H
noncomputable def rU (g:Int->V):V->Hp->VK->Prop:=fun x H Q=>∃i,x=.int i/\Q (g i) H
section
variable {X:Cx} {a b c:Expr} {ta tb tc:TE} {pos:Pos}
theorem binT (ha:PE X a ta) (hb:PE X b tb) {pins:List (Addr × Obj)} {s:Shared} {σ:St} {H:Hp} {R:V->V->Hp->Prop} (I:Inv X pins σ H s)
 (h:ta σ H fun x H1=>tb σ H1 fun y H2=>R x y H2) {Q:Value->Shared->Prop} {f:Value->Value->Sem Value}
 (hf:∀v u s2 x y H2,Inv X pins σ H2 s2->RelV x v->RelV y u->R x y H2->wpAny (model X.prog X.w) X.A (f v u) Q X.xe s2) :
 wpAny (model X.prog X.w) X.A (eval a X.env) (fun v s₁=>wpAny (model X.prog X.w) X.A (eval b X.env) (fun u s₂=>wpAny (model X.prog X.w) X.A (f v u) Q X.xe s₂) X.xe s₁) X.xe s:=by
 refine thn (ha pins s σ H _ I h) fun v s1 ⟨x,H1,I1,r1,q1⟩=>?_
 refine thn (hb pins s1 σ H1 _ I1 q1) fun u s2 ⟨y,H2,I2,r2,q2⟩=>?_
 exact hf v u s2 x y H2 I2 r1 r2 q2
theorem pe_op {op:Operator} {r:R2} (ho:OpR X (binaryOp op) r) (ha:PE X a ta) (hb:PE X b tb):PE X (.BinOp a op b pos) (tOp r ta tb):=by
 intro pins s σ H Q I h
 exact wpAny_BinOp (binT ha hb I h fun v u s2 x y H2 I2 rx ry q=>ho pins s2 σ H2 x y v u Q I2 rx ry q)
theorem pe_un {op:UnaryOp} {r:V->Hp->VK->Prop} (ho:UnR X (unaryOp op) r) (ha:PE X a ta):PE X (.UnaryOp op a pos) (tUn r ta):=by
 intro pins s σ H Q I h
 exact UnaryOp_ (thn (ha pins s σ H _ I h) fun v s1 ⟨x,H1,I1,r1,q1⟩=>ho pins s1 σ H1 x v Q I1 r1 q1)
theorem opI {f:Value->Value->Sem Value} {C:Int->Int->Prop} {g:Int->Int->Int}
 (rule:∀(i j:Int) (t u:Tok) (s:Shared) (Q:Value->Shared->Prop) (E:Value->Shared->Prop),C i j->Q (.int (g i j) s.toks) { s with toks:=s.toks+1 }->wpAny (model X.prog X.w) X.A (f (.int i t) (.int j u)) Q E s) :
 OpR X f (rI C fun i j=>.int (g i j)):=by
 intro pins s σ H x y v u Q I rx ry h
 obtain ⟨i,j,rfl,rfl,hc,q⟩:=h
 obtain ⟨t,rfl⟩:=rx
 obtain ⟨t',rfl⟩:=ry
 exact rule i j t t' s _ _ hc ⟨.int (g i j),H,I.tok _,⟨_,rfl⟩,q⟩
theorem opI0 {f:Value->Value->Sem Value} {g:Int->Int->Int}
 (rule:∀(i j:Int) (t u:Tok) (s:Shared) (Q:Value->Shared->Prop) (E:Value->Shared->Prop),Q (.int (g i j) s.toks) { s with toks:=s.toks+1 }->wpAny (model X.prog X.w) X.A (f (.int i t) (.int j u)) Q E s) :
 OpR X f (rI0 fun i j=>.int (g i j)):=by
 intro pins s σ H x y v u Q I rx ry h
 obtain ⟨i,j,rfl,rfl,q⟩:=h
 obtain ⟨t,rfl⟩:=rx
 obtain ⟨t',rfl⟩:=ry
 exact rule i j t t' s _ _ ⟨.int (g i j),H,I.tok _,⟨_,rfl⟩,q⟩
theorem opB0 {f:Value->Value->Sem Value} {g:Int->Int->Bool}
 (rule:∀(i j:Int) (t u:Tok) (s:Shared) (Q:Value->Shared->Prop) (E:Value->Shared->Prop),Q (.bool (g i j)) s->wpAny (model X.prog X.w) X.A (f (.int i t) (.int j u)) Q E s) :
 OpR X f (rI0 fun i j=>.bl (g i j)):=by
 intro pins s σ H x y v u Q I rx ry h
 obtain ⟨i,j,rfl,rfl,q⟩:=h
 obtain ⟨t,rfl⟩:=rx
 obtain ⟨t',rfl⟩:=ry
 exact rule i j t t' s _ _ ⟨.bl (g i j),H,I,rfl,q⟩
noncomputable def CPow (i j:Int):Prop:=0<=j/\j<=1000000/\i.natAbs < 2 ^ 64
theorem two_pow_nn (k:Nat):(0:Int)<=2 ^ k:=by
 rw [two_pow_cast]
 exact Int.natCast_nonneg _
theorem op_add:OpR X (binaryOp .Add) (rI0 fun i j=>.int (i+j)):=opI0 fun _ _ _ _ _ _ _ q=>add_int q
theorem op_sub:OpR X (binaryOp .Sub) (rI0 fun i j=>.int (i - j)):=opI0 fun _ _ _ _ _ _ _ q=>sub_int q
theorem op_modN:OpR X (binaryOp .Mod) (rI (fun _ j=>j≠0) fun i j=>.int (i.fmod j)):=opI fun _ _ _ _ _ _ _ hc q=>mod_int' hc q
theorem op_pow:OpR X (binaryOp .Pow) (rI CPow fun i j=>.int (i ^ j.toNat)):=opI fun _ _ _ _ _ _ _ hc q=>pow_int_small hc.1 hc.2.1 hc.2.2 q
theorem op_shl:OpR X (binaryOp .LShift) (rI CPow fun i j=>.int (i*2 ^ j.toNat)):=opI fun _ _ _ _ _ _ _ hc q=>lshift_int_small hc.1 hc.2.1 hc.2.2 q
theorem op_shr:OpR X (binaryOp .RShift) (rI (fun _ j=>0<=j) fun i j=>.int (i / 2 ^ j.toNat)):=opI fun i j _ _ _ _ _ hc q =>
 rshift_int hc (by rw [Int.fdiv_eq_ediv_of_nonneg i (two_pow_nn _)];exact q)
theorem op_and:OpR X (binaryOp .BitAnd) (rI0 fun i j=>.int (Builtin.bitAnd i j)):=opI0 fun _ _ _ _ _ _ _ q=>and_int q
theorem op_or:OpR X (binaryOp .BitOr) (rI0 fun i j=>.int (Builtin.bitOr i j)):=opI0 fun _ _ _ _ _ _ _ q=>or_int q
theorem unI {f:Value->Sem Value} {g:Int->Int}
 (rule:∀(i:Int) (t:Tok) (s:Shared) (Q:Value->Shared->Prop) (E:Value->Shared->Prop),Q (.int (g i) s.toks) { s with toks:=s.toks+1 }->wpAny (model X.prog X.w) X.A (f (.int i t)) Q E s) :
 UnR X f (rU fun i=>.int (g i)):=by
 intro pins s σ H x v Q I rx h
 obtain ⟨i,rfl,q⟩:=h
 obtain ⟨t,rfl⟩:=rx
 exact rule i t s _ _ ⟨.int (g i),H,I.tok _,⟨_,rfl⟩,q⟩
theorem un_neg:UnR X (unaryOp .USub) (rU fun i=>.int (-i)):=unI fun _ _ _ _ _ q=>neg_int q
end
noncomputable def scal:V->V->Bool
 | .non,.non=>true | .non,.int _=>true | .int _,.non=>true | .non,.bl _=>true | .bl _,.non=>true | .non,.str _=>true | .str _,.non=>true
 | .int _,.int _=>true | .bl _,.bl _=>true | .str _,.str _=>true | .byt _,.byt _=>true
 | .int _,.str _=>true | .str _,.int _=>true | .bl _,.str _=>true | .str _,.bl _=>true
 | _,_=>false
noncomputable def rEq:R2:=fun x y H Q=>scal x y=true/\Q (.bl (decide (x=y))) H
noncomputable def rNe:R2:=fun x y H Q=>scal x y=true/\Q (.bl (!decide (x=y))) H
theorem dec_int {i j:Int}:decide (V.int i=V.int j)=(i == j):=by
 rw [Bool.eq_iff_iff]
 simp
theorem dec_bl {i j:Bool}:decide (V.bl i=V.bl j)=(i == j):=by
 rw [Bool.eq_iff_iff]
 simp
theorem dec_str {i j:Str}:decide (V.str i=V.str j)=(i == j):=by
 rw [Bool.eq_iff_iff]
 simp
theorem dec_byt {i j:Array UInt8}:decide (V.byt i=V.byt j)=(i.toList == j.toList):=by
 rw [Bool.eq_iff_iff]
 cases i
 cases j
 simp
section
variable {X:Cx} {a b c:Expr} {ta tb tc:TE} {pos:Pos}
theorem fin_bl {pins:List (Addr × Obj)} {σ:St} {H:Hp} {s:Shared} {Q:VK} {k k':Bool} (I:Inv X pins σ H s) (q:Q (.bl k) H) (e:k=k'):EP X pins σ Q (.bool k') s:=by
 subst e
 exact ⟨.bl k,H,I,rfl,q⟩
theorem op_eq:OpR X (compareOp .Eq) rEq:=by
 intro pins s σ H x y v u Q I rx ry h
 obtain ⟨hs,q⟩:=h
 cases x with
 | non =>
   cases rx
   cases y with
   | non=>cases ry;exact PySem.EqNone.eq_none_none (fin_bl I q (by simp))
   | bl j=>cases ry;exact PySem.EqNone.eq_none_bool (fin_bl I q (by simp))
   | int j=>obtain ⟨t',rfl⟩:=ry;exact PySem.EqNone.eq_none_int (fin_bl I q (by simp))
   | str j=>obtain ⟨t',rfl⟩:=ry;exact PySem.EqNone.eq_none_str (fin_bl I q (by simp))
   | _=>exact absurd (show false=true from hs) Bool.false_ne_true
 | bl i =>
   cases rx
   cases y with
   | non=>cases ry;exact PySem.EqNone.eq_bool_none (fin_bl I q (by simp))
   | bl j=>cases ry;exact eq_bool (fin_bl I q dec_bl)
   | str j=>obtain ⟨t',rfl⟩:=ry;exact PySem.EqMixed.eq_bool_str (fin_bl I q (by simp))
   | _=>exact absurd (show false=true from hs) Bool.false_ne_true
 | int i =>
   obtain ⟨t,rfl⟩:=rx
   cases y with
   | non=>cases ry;exact PySem.EqNone.eq_int_none (fin_bl I q (by simp))
   | int j=>obtain ⟨t',rfl⟩:=ry;exact eq_int (fin_bl I q dec_int)
   | str j=>obtain ⟨t',rfl⟩:=ry;exact PySem.EqMixed.eq_int_str (fin_bl I q (by simp))
   | _=>exact absurd (show false=true from hs) Bool.false_ne_true
 | str i =>
   obtain ⟨t,rfl⟩:=rx
   cases y with
   | non=>cases ry;exact PySem.EqNone.eq_str_none (fin_bl I q (by simp))
   | bl j=>cases ry;exact PySem.EqMixed.eq_str_bool (fin_bl I q (by simp))
   | int j=>obtain ⟨t',rfl⟩:=ry;exact PySem.EqMixed.eq_str_int (fin_bl I q (by simp))
   | str j=>obtain ⟨t',rfl⟩:=ry;exact eq_str (fin_bl I q dec_str)
   | _=>exact absurd (show false=true from hs) Bool.false_ne_true
 | byt i =>
   obtain ⟨t,rfl⟩:=rx
   cases y with
   | byt j=>obtain ⟨t',rfl⟩:=ry;exact PySem.W.eq_bytes (fin_bl I q dec_byt)
   | _=>exact absurd (show false=true from hs) Bool.false_ne_true
 | _=>cases y <;> exact absurd (show false=true from hs) Bool.false_ne_true
theorem op_ne:OpR X (compareOp .NotEq) rNe:=by
 intro pins s σ H x y v u Q I rx ry h
 obtain ⟨hs,q⟩:=h
 cases x with
 | non =>
   cases rx
   cases y with
   | non=>cases ry;exact PySem.EqNone.ne_none_none (fin_bl I q (by simp))
   | bl j=>cases ry;exact PySem.EqNone.ne_none_bool (fin_bl I q (by simp))
   | int j=>obtain ⟨t',rfl⟩:=ry;exact PySem.EqNone.ne_none_int (fin_bl I q (by simp))
   | str j=>obtain ⟨t',rfl⟩:=ry;exact PySem.EqNone.ne_none_str (fin_bl I q (by simp))
   | _=>exact absurd (show false=true from hs) Bool.false_ne_true
 | bl i =>
   cases rx
   cases y with
   | non=>cases ry;exact PySem.EqNone.ne_bool_none (fin_bl I q (by simp))
   | bl j=>cases ry;exact ne_bool (fin_bl I q (congrArg not dec_bl))
   | str j=>obtain ⟨t',rfl⟩:=ry;exact PySem.EqMixed.ne_bool_str (fin_bl I q (by simp))
   | _=>exact absurd (show false=true from hs) Bool.false_ne_true
 | int i =>
   obtain ⟨t,rfl⟩:=rx
   cases y with
   | non=>cases ry;exact PySem.EqNone.ne_int_none (fin_bl I q (by simp))
   | int j=>obtain ⟨t',rfl⟩:=ry;exact ne_int (fin_bl I q (congrArg not dec_int))
   | str j=>obtain ⟨t',rfl⟩:=ry;exact PySem.EqMixed.ne_int_str (fin_bl I q (by simp))
   | _=>exact absurd (show false=true from hs) Bool.false_ne_true
 | str i =>
   obtain ⟨t,rfl⟩:=rx
   cases y with
   | non=>cases ry;exact PySem.EqNone.ne_str_none (fin_bl I q (by simp))
   | bl j=>cases ry;exact PySem.EqMixed.ne_str_bool (fin_bl I q (by simp))
   | int j=>obtain ⟨t',rfl⟩:=ry;exact PySem.EqMixed.ne_str_int (fin_bl I q (by simp))
   | str j=>obtain ⟨t',rfl⟩:=ry;exact ne_str (fin_bl I q (congrArg not dec_str))
   | _=>exact absurd (show false=true from hs) Bool.false_ne_true
 | byt i =>
   obtain ⟨t,rfl⟩:=rx
   cases y with
   | byt j=>obtain ⟨t',rfl⟩:=ry;exact PySem.W.ne_bytes (fin_bl I q (congrArg not dec_byt))
   | _=>exact absurd (show false=true from hs) Bool.false_ne_true
 | _=>cases y <;> exact absurd (show false=true from hs) Bool.false_ne_true
theorem op_lt:OpR X (compareOp .Lt) (rI0 fun i j=>.bl (decide (i < j))):=opB0 fun _ _ _ _ _ _ _ q=>lt_int q
theorem op_le:OpR X (compareOp .LtE) (rI0 fun i j=>.bl (decide (i<=j))):=opB0 fun _ _ _ _ _ _ _ q=>le_int q
theorem op_gt:OpR X (compareOp .Gt) (rI0 fun i j=>.bl (decide (j < i))):=opB0 fun _ _ _ _ _ _ _ q=>gt_int q
theorem op_ge:OpR X (compareOp .GtE) (rI0 fun i j=>.bl (decide (j<=i))):=opB0 fun _ _ _ _ _ _ _ q=>ge_int q
theorem nomark (b:Expr) {op:CmpOp} (h:op≠.In:=by decide) (h2:op≠.NotIn:=by decide):behindInMarks op b=false:=by
 have e1:(op == CmpOp.In)=false:=by cases op <;> first | rfl | exact absurd rfl h
 have e2:(op == CmpOp.NotIn)=false:=by cases op <;> first | rfl | exact absurd rfl h2
 cases b <;> simp [behindInMarks,e1,e2]
theorem pe_cmpR {op:CmpOp} {r:R2} (ho:OpR X (compareOp op) r) (ha:PE X a ta) (hb:PE X b tb) (hm:behindInMarks op b=false):PE X (.Compare a [op] [b] pos) (tOp r ta tb):=by
 intro pins s σ H Q I h
 exact wpAny_Compare1 (binT ha hb I h fun v u s2 x y H2 I2 rx ry q=>ho pins s2 σ H2 x y v u Q I2 rx ry q) hm
noncomputable def tTest (t:TE):TT:=fun σ H Q=>t σ H fun x H'=>∃k,x=.bl k/\Q k H'
theorem pt_cmpR {op:CmpOp} {r:R2} (ho:OpR X (compareOp op) r) (ha:PE X a ta) (hb:PE X b tb) (hm:behindInMarks op b=false):PT X (.Compare a [op] [b] pos) (tTest (tOp r ta tb)):=by
 intro pins s σ H Q I h
 refine wpAny_isTrue_Compare1 (thn (ha pins s σ H _ I h) fun v s1 ⟨x,H1,I1,r1,q1⟩=>thn (hb pins s1 σ H1 _ I1 q1) fun u s2 ⟨y,H2,I2,r2,q2⟩ =>
  thn (ho pins s2 σ H2 x y v u _ I2 r1 r2 q2) fun c s3 ⟨z,H3,I3,r3,k,e,q3⟩=>?_) hm
 subst e
 cases r3
 exact wpAny_truthy_bool ⟨H3,I3,q3⟩
noncomputable def tChain (r r':R2) (ta tb tc:TE):TE:=fun σ H Q=>ta σ H fun x H1=>tb σ H1 fun y H2=>r x y H2 fun z H3=>∃k,z=.bl k /\
 (if k=true then tc σ H3 fun w' H4=>r' y w' H4 Q else Q (.bl false) H3)
theorem pe_chain {op op':CmpOp} {r r':R2} (ho:OpR X (compareOp op) r) (ho':OpR X (compareOp op') r') (ha:PE X a ta) (hb:PE X b tb) (hc:PE X c tc)
 (hm:lastMarks [op,op'] [b,c]=false:=by with_unfolding_all rfl):PE X (.Compare a [op,op'] [b,c] pos) (tChain r r' ta tb tc):=by
 intro pins s σ H Q I h
 refine Compare_chain (thn (ha pins s σ H _ I h) fun v s1 ⟨x,H1,I1,r1,q1⟩=>chain_link (thn (hb pins s1 σ H1 _ I1 q1) fun u s2 ⟨y,H2,I2,r2,q2⟩ =>
  thn (ho pins s2 σ H2 x y v u _ I2 r1 r2 q2) fun d s3 ⟨z,H3,I3,r3,k,e,q3⟩=>?_)) hm
 subst e
 cases r3
 refine wpAny_truthy_bool ?_
 cases k with
 | false=>exact ite_ff ⟨.bl false,H3,I3,rfl,q3⟩
 | true=>exact ite_tt (chain_last (thn (hc pins s3 σ H3 _ I3 q3) fun w' s4 ⟨z',H4,I4,r4,q4⟩=>ho' pins s4 σ H4 y z' u w' Q I4 r2 r4 q4))
theorem line63:(sizeLine:Nat) < 2 ^ 63:=by rw [sizeLine_eq];decide
theorem vals1 {x:V} {us:List Value} (r:Vals [x] us):∃u,us=[u]/\RelV x u:=by
 cases r with
 | cons r1 r2=>cases r2;exact ⟨_,rfl,r1⟩
theorem vals2 {x y:V} {us:List Value} (r:Vals [x,y] us):∃u w',us=[u,w']/\RelV x u/\RelV y w':=by
 cases r with
 | cons r1 r2 =>
   cases r2 with
   | cons r3 r4=>cases r4;exact ⟨_,_,rfl,r1,r3⟩
theorem call_max2 (hc:X.calm=true):CallR X (.builtin "max") (fun xs H Q=>∃i j,xs=[.int i,.int j]/\Q (.int (if j > i then j else i)) H):=by
 intro pins s σ H xs us Q I r h
 obtain ⟨i,j,rfl,q⟩:=h
 obtain ⟨u,w',rfl,⟨t,rfl⟩,⟨t',rfl⟩⟩:=vals2 r
 refine max_two_ints (I.ok.hd hc) fun h' tk k=>⟨_,H,I.kept k,?_,q⟩
 by_cases hj:j > i
 ·rw [if_pos hj,if_pos hj];exact ⟨_,rfl⟩
 ·rw [if_neg hj,if_neg hj];exact ⟨_,rfl⟩
theorem call_min2 (hc:X.calm=true):CallR X (.builtin "min") (fun xs H Q=>∃i j,xs=[.int i,.int j]/\Q (.int (if j < i then j else i)) H):=by
 intro pins s σ H xs us Q I r h
 obtain ⟨i,j,rfl,q⟩:=h
 obtain ⟨u,w',rfl,⟨t,rfl⟩,⟨t',rfl⟩⟩:=vals2 r
 refine min_two_ints (I.ok.hd hc) fun h' tk k=>⟨_,H,I.kept k,?_,q⟩
 by_cases hj:j < i
 ·rw [if_pos hj,if_pos hj];exact ⟨_,rfl⟩
 ·rw [if_neg hj,if_neg hj];exact ⟨_,rfl⟩
end
end L2
namespace L2
open PySem PySem.Spec PyProof.Rows
structure ObjM (h:Heap) (x dx C:Addr) (mA:Str->Option Value):Prop where
 obj:h.get? x=some (PySem.W.instObj C dx)
 ns:h.Ns1 dx mA
 ne:dx≠x
theorem lookIn_ns {h:Heap} {dx:Addr} {mA:Str->Option Value} (n:h.Ns1 dx mA):∃od,h.get? dx=some od/\∀name,PySem.W.lookIn name od=some (mA name):=by
 obtain ⟨o,es,ep,ho,hd,hk,_,hm⟩:=n
 refine ⟨o,ho,fun name=>?_⟩
 have e:=hm name
 unfold nsFind findBy at e
 rw [<- Array.find?_toList] at e
 unfold PySem.W.lookIn
 rw [hd]
 dsimp only
 split
 ·rename_i y q
  rw [q] at e
  exact congrArg some e
 ·rename_i q
  rw [q] at e
  have a:es.toList.any (·.refKey)=false:=by
   rw [List.any_eq_false]
   intro y hy
   obtain ⟨z,t,hkey⟩:=hk y (Array.mem_toList_iff.mp hy)
   simp [DictEntry.refKey,hkey]
  have a':¬ es.toList.any (·.refKey)=true:=by rw [a];exact Bool.false_ne_true
  rw [if_neg a']
  exact congrArg some e
theorem ObjM.look {h:Heap} {x dx C:Addr} {mA:Str->Option Value} (I:ObjM h x dx C mA):∃od,PySem.W.InstAt h x (PySem.W.instObj C dx) C (some od)/\∀name,PySem.W.lookIn name od=some (mA name) :=
 let ⟨od,ho,hl⟩:=lookIn_ns I.ns
 ⟨od,⟨I.obj,rfl,rfl,ho⟩,hl⟩
section
variable {prog:Program} {w:World} {A:Around} {E:Value->Shared->Prop} {s:Shared} {K:PySem.W.Frag} {x dx C f:Addr} {mA:Str->Option Value} {name:Str} {v:Value}
theorem get_map {expr:Bool} {Q:Value->Shared->Prop} (X:K.In s.heap) (I:ObjM s.heap x dx C mA) (hg:PySem.W.plainGet K C name=true) (hh:PySem.W.hasDictIn K C=true)
 (ha:PySem.W.findIn K (.ref C) name=some none) (hv:mA name=some v) (hv':PySem.W.handedIn v=true) (h:Q v { s with toks:=s.toks+1 }) :
 wpAny (model prog w) A (getAttr (.ref x) name expr) Q E s:=by
 obtain ⟨od,J,hl⟩:=I.look
 exact PySem.W.get_value X J (PySem.W.plainGet_of hg).1 (PySem.W.findObj_own hh ha rfl (by rw [hl,hv])) hv' h
theorem get_meth {pl:Sem Bool} {Q:Value × List Value->Shared->Prop} (X:K.In s.heap) (I:ObjM s.heap x dx C mA) (hg:PySem.W.plainGet K C name=true)
 (hf:PySem.W.findIn K (.ref C) name=some (some (.ref f))) (ht:PySem.W.isFn K (.ref f)=true) (hv:mA name=none) (h:Q (.ref f,[.ref x]) s) :
 wpAny (model prog w) A (getMethod (.ref x) name pl) Q E s:=by
 obtain ⟨od,J,hl⟩:=I.look
 exact PySem.W.method_fn X J (PySem.W.plainGet_of hg).1 (PySem.W.plainGet_of hg).2 hf (beq_iff_eq.mp ht) (by show (PySem.W.lookIn name od).map (·.isSome)=some false;rw [hl,hv];rfl) h
theorem set_map {ns:List Str} {Q:Unit->Shared->Prop} (X:K.In s.heap) (I:ObjM s.heap x dx C mA)
 (hs:PySem.W.findIn K (.ref C) "__setattr__"=some (some (.builtin "object.__setattr__"))) (hp:PySem.W.plainOver K C=true) (ht:PySem.W.takerIn K C name=some none) (hh:PySem.W.hasDictIn K C=true)
 (hw:PySem.Within mA ns) (hsz:ns.length<=sizeLine)
 (h:∀h',ObjM h' x dx C (fun y=>if y=name then some v else mA y)->Heap.SameBut dx s.heap h'->Q () { s with heap:=h',toks:=s.toks+2 }) :
 wpAny (model prog w) A (setAttr (.ref x) name v) Q E s:=by
 obtain ⟨od,J,hl⟩:=I.look
 refine PySem.W.set_plain X J hs (PySem.W.osa_open (s:={ s with toks:=s.toks+1 }) (r:=none) X J hp ht fun b=>?_)
 obtain ⟨cd,hc,hd'⟩:=PySem.W.any_some hh
 have hx:s.heap.get? x=some ⟨.ref C,some dx,.plain,#[]⟩:=I.obj
 refine wpAny_bind (wpAny_pure (wpAny_bind (wpAny_bind (wpAny_loadPart hx (wpAny_bind (PySem.W.Looks.here (s:={ s with toks:=s.toks+1 }) (PySem.W.looks_clsIn X hc) ?_))))))
 rw [hd']
 refine wpAny_pure (a:=some dx) (wpAny_bind (wpAny_pure (wpAny_bind ?_)))
 refine wpAny_nsSet1 (s:={ s with toks:=s.toks+1 }) I.ns fun h' hn2 hs2=>?_
 obtain ⟨oD,esD,epD,hoD,hdD,hcD⟩:=hn2.count (PySem.Within.cons name v hw)
 refine wpAny_bind (wpAny_lookBehind hoD (by rw [hdD];exact pastItsLine_dict (Nat.le_trans hcD (by rw [List.length_cons];omega))) ?_)
 exact wpAny_pure (h _ ⟨(hs2.2 _ (Ne.symm I.ne)).trans I.obj,hn2,I.ne⟩ hs2)
theorem make_map {R:Result->Shared->Prop} {vs:List Value} {kw:List (Str × Value)} (X:K.In s.heap) (hm:PySem.W.makesIn K C=true)
 (hi:PySem.W.findIn K (.ref C) "__init__"=some (some (.ref f))) (hf:PySem.W.typeIn K (.ref f)=some (.type "function"))
 (h:codeAny (model prog w) (A.under (.builtin "type.__call__" ⟨.ref C :: vs,kw⟩)) (.call (.ref f) ⟨.ref (s.heap.objs.size+1) :: vs,kw⟩) (PySem.W.InitBack (s.heap.objs.size+1) R)
  { s with heap:=(s.heap.push PySem.W.emptyDict).push (PySem.W.instObj C s.heap.objs.size) }) :
 codeAny (model prog w) A (.call (.ref C) ⟨vs,kw⟩) R s:=by
 obtain ⟨hh,g,d,t,os⟩:=s
 exact PySem.W.make_core (PySem.W.makes_of X hm) (PySem.W.looks_findIn X hi) (fun self=>PySem.W.bind_fn X self hf) (.inl rfl) h
end
noncomputable def putF (f:Str) (v:V):List (Str × V)->List (Str × V)
 | []=>[(f,v)]
 | (g,x) :: r=>if g=f then (g,v) :: r else (g,x) :: putF f v r
theorem lookup_putF (f g:Str) (v:V):∀fs:List (Str × V),(putF f v fs).lookup g=if g=f then some v else fs.lookup g
 | []=>by
   show List.lookup g [(f,v)]=_
   by_cases h:g=f
   ·have hb:(g == f)=true:=beq_iff_eq.mpr h
    simp only [List.lookup,hb,if_pos h]
   ·have hb:(g == f)=false:=beq_eq_false_iff_ne.mpr h
    simp only [List.lookup,hb,if_neg h]
 | (k,x) :: r=>by
   have ih:=lookup_putF f g v r
   rw [show putF f v ((k,x) :: r)=(if k=f then (k,v) :: r else (k,x) :: putF f v r) from rfl]
   by_cases hk:k=f
   ·rw [if_pos hk]
    by_cases h:g=k
    ·have hb:(g == k)=true:=beq_iff_eq.mpr h
     simp only [List.lookup,hb,if_pos (h.trans hk)]
    ·have hb:(g == k)=false:=beq_eq_false_iff_ne.mpr h
     simp only [List.lookup,hb,if_neg (fun e:g=f=>h (e.trans hk.symm))]
   ·rw [if_neg hk]
    by_cases h:g=k
    ·have hb:(g == k)=true:=beq_iff_eq.mpr h
     simp only [List.lookup,hb,if_neg (fun e:g=f=>hk (h.symm.trans e))]
    ·have hb:(g == k)=false:=beq_eq_false_iff_ne.mpr h
     simp only [List.lookup,hb]
     exact ih
theorem keys_putF (f:Str) (v:V):∀fs:List (Str × V),f∈(putF f v fs).map (·.1)/\∀g,g∈fs.map (·.1)->g∈(putF f v fs).map (·.1)
 | []=>⟨by simp [putF],fun g h=>by simp at h⟩
 | (k,x) :: r=>by
   obtain ⟨i1,i2⟩:=keys_putF f v r
   rw [show putF f v ((k,x) :: r)=(if k=f then (k,v) :: r else (k,x) :: putF f v r) from rfl]
   by_cases hk:k=f
   ·rw [if_pos hk]
    subst hk
    exact ⟨by simp,fun g h=>by simpa using h⟩
   ·rw [if_neg hk]
    refine ⟨?_,fun g h=>?_⟩
    ·rw [List.map_cons]
     exact List.mem_cons_of_mem _ i1
    ·rw [List.map_cons] at h ⊢
     rcases List.mem_cons.mp h with e | e
     ·exact List.mem_cons.mpr (.inl e)
     ·exact List.mem_cons_of_mem _ (i2 g e)
theorem length_putF (f:Str) (v:V):∀fs:List (Str × V),(putF f v fs).length<=fs.length+1
 | []=>by simp [putF]
 | (k,x) :: r=>by
   have ih:=length_putF f v r
   rw [show putF f v ((k,x) :: r)=(if k=f then (k,v) :: r else (k,x) :: putF f v r) from rfl]
   by_cases hk:k=f
   ·rw [if_pos hk,List.length_cons,List.length_cons];omega
   ·rw [if_neg hk,List.length_cons,List.length_cons];omega
theorem RelO.some_of {v:V} {o:Option Value} (r:RelO (some v) o):∃u,o=some u/\RelV v u:=by
 cases o with
 | none=>exact (show False from r).elim
 | some u=>exact ⟨u,rfl,r⟩
theorem RelO.none_of {o:Option Value} (r:RelO none o):o=none:=by
 cases o with
 | none=>rfl
 | some u=>exact (show False from r).elim
theorem handed_of {v:V} {u:Value} (r:RelV v u):PySem.W.handedIn u=true:=by
 cases v with
 | non=>cases (show u=Value.none from r);rfl
 | bl b=>cases (show u=Value.bool b from r);rfl
 | int i=>obtain ⟨t,e⟩:=(show ∃t,u=Value.int i t from r);cases e;rfl
 | str x=>obtain ⟨t,e⟩:=(show ∃t,u=Value.str x t from r);cases e;rfl
 | byt b=>obtain ⟨t,e⟩:=(show ∃t,u=Value.bytes b t from r);cases e;rfl
 | flt b=>obtain ⟨t,e⟩:=(show ∃t,u=Value.float b t from r);cases e;rfl
 | ref a=>cases (show u=Value.ref a from r);rfl
 | ty n=>cases (show u=Value.type n from r);rfl
section
variable {P:Program} {w:World} {H H':Hp} {h h':Heap} {a C dx:Addr} {fs fs':List (Str × V)}
theorem ins_get (hok:HOk P w H h) (e:H a=some (.ins C dx fs)):∃mA,ObjM h a dx C mA/\(∀f,RelO (fs.lookup f) (mA f))/\PySem.Within mA (fs.map (·.1))/\fs.length<=1000/\H dx=some (.own a):=by
 obtain ⟨d,z,ne,ob,mA,n,r,q⟩:=(show ObjOk P w H h a (.ins C dx fs) from hok a _ e)
 exact ⟨mA,⟨ob,n,ne⟩,r,q,z,d⟩
end
structure Cls (K:PySem.W.Frag) (C:Addr):Prop where
 pg:PySem.W.plainGet K C Str.empty=true
 hd:PySem.W.hasDictIn K C=true
 po:PySem.W.plainOver K C=true
 sa:PySem.W.findIn K (.ref C) "__setattr__"=some (some (.builtin "object.__setattr__"))
theorem Cls.get {K:PySem.W.Frag} {C:Addr} (c:Cls K C) (f:Str):PySem.W.plainGet K C f=true:=c.pg
noncomputable def NoAttr (K:PySem.W.Frag) (C:Addr) (f:Str):Prop:=PySem.W.findIn K (.ref C) f=some none
theorem NoAttr.taker {K:PySem.W.Frag} {C:Addr} {f:Str} (n:NoAttr K C f):PySem.W.takerIn K C f=some none:=by
 unfold PySem.W.takerIn
 rw [show PySem.W.findIn K (.ref C) f=some none from n]
 rfl
structure Meth (K:PySem.W.Frag) (C:Addr) (m:Str) (f:Addr):Prop where
 at_:PySem.W.findIn K (.ref C) m=some (some (.ref f))
 fn:PySem.W.isFn K (.ref f)=true
 kp:PySem.W.keepIn K (.ref f)=true
section
variable {X:Cx} {pins:List (Addr × Obj)} {σ:St} {H:Hp} {s:Shared} {a C dx:Addr} {fs:List (Str × V)} {f:Str} {v:V} {A:Around} {E:Value->Shared->Prop}
theorem getattr_ok {b:Bool} {Q:Value->Shared->Prop} (I:Inv X pins σ H s) (e:H a=some (.ins C dx fs)) (c:Cls X.K C) (n:NoAttr X.K C f) (l:fs.lookup f=some v)
 (h:∀u s',Inv X pins σ H s'->RelV v u->Q u s'):wpAny (model X.prog X.w) A (getAttr (.ref a) f b) Q E s:=by
 obtain ⟨mA,O,r,_,_,_⟩:=ins_get I.hok e
 obtain ⟨u,hu,ru⟩:=RelO.some_of (v:=v) (o:=mA f) (by rw [<- l];exact r f)
 exact get_map I.kIn O (c.get f) c.hd n hu (handed_of ru) (h u _ (I.tok _) ru)
theorem getmeth_ok {m:Str} {g:Addr} {pl:Sem Bool} {Q:Value × List Value->Shared->Prop} (I:Inv X pins σ H s) (e:H a=some (.ins C dx fs)) (c:Cls X.K C) (k:Meth X.K C m g) (l:fs.lookup m=none)
 (h:Q (.ref g,[.ref a]) s):wpAny (model X.prog X.w) A (getMethod (.ref a) m pl) Q E s:=by
 obtain ⟨mA,O,r,_,_,_⟩:=ins_get I.hok e
 have hn:mA m=none:=RelO.none_of (by rw [<- l];exact r m)
 exact get_meth I.kIn O (c.get m) k.at_ k.fn hn h
theorem setattr_ok {y:V} {u:Value} {Q:Unit->Shared->Prop} (I:Inv X pins σ H s) (e:H a=some (.ins C dx fs)) (c:Cls X.K C) (n:NoAttr X.K C f) (hl:fs.length < 1000) (ry:RelV y u)
 (h:∀s',Inv X pins σ (upd H a (.ins C dx (putF f y fs))) s'->Q () s'):wpAny (model X.prog X.w) A (setAttr (.ref a) f u) Q E s:=by
 obtain ⟨mA,O,r,wi,_,ho⟩:=ins_get I.hok e
 have hz:(fs.map (·.1)).length<=sizeLine:=by rw [List.length_map,sizeLine_eq];omega
 refine set_map I.kIn O c.sa c.po n.taker c.hd wi hz fun h' O' sb=>h _ ?_
 have hd:∃o,h'.get? dx=some o:=let ⟨o,_,_,e',_⟩:=O'.ns;⟨o,e'⟩
 refine I.write (x:=a) (e:=dx) (by rw [e];exact True.intro) (.inr ho) (fun b q hb z=>(sb.2 b hb).trans z) hd ?_
 refine ⟨by rw [upd_ne O.ne];exact ho,?_,O.ne,O'.obj,_,O'.ns,fun g=>?_,fun g hg=>?_⟩
 ·have:=length_putF f y fs;omega
 ·show RelO ((putF f y fs).lookup g) (if g=f then some u else mA g)
  rw [lookup_putF]
  by_cases q:g=f
  ·rw [if_pos q,if_pos q];exact ry
  ·rw [if_neg q,if_neg q];exact r g
 ·by_cases q:g=f
  ·rw [q];exact (keys_putF f y fs).1
  ·refine (keys_putF f y fs).2 g (wi g fun z=>hg ?_)
   show (if g=f then some u else mA g)=none
   rw [if_neg q];exact z
theorem Inv.made (I:Inv X pins σ H s):Inv X pins σ (upd (upd H s.heap.objs.size (.own (s.heap.objs.size+1))) (s.heap.objs.size+1) (.ins C s.heap.objs.size []))
 { s with heap:=(s.heap.push PySem.W.emptyDict).push (PySem.W.instObj C s.heap.objs.size) }:=by
 have e1:(s.heap.push PySem.W.emptyDict).get? s.heap.objs.size=some PySem.W.emptyDict:=Heap.get?_push_size s.heap rfl
 have e2:((s.heap.push PySem.W.emptyDict).push (PySem.W.instObj C s.heap.objs.size)).get? (s.heap.objs.size+1)=some (PySem.W.instObj C s.heap.objs.size):=by
  have:=Heap.get?_push_size (s.heap.push PySem.W.emptyDict) (o:=PySem.W.instObj C s.heap.objs.size) rfl
  rwa [Heap.size_push] at this
 have e3:(s.heap.push PySem.W.emptyDict).Ns s.heap.objs.size (fun _=>none):=⟨PySem.W.emptyDict,#[],_,e1,rfl,(fun e he=>absurd he (by simp)),fun _=>rfl⟩
 have I1:=I.laid (a:=s.heap.objs.size) (o:=.own (s.heap.objs.size+1)) (h':=s.heap.push PySem.W.emptyDict) (t':=s.toks) (fun b u q=>Heap.get?_push_of_some _ q) (Nat.le_refl _) ⟨_,e1⟩
 refine I1.laid (a:=s.heap.objs.size+1) (o:=.ins C s.heap.objs.size []) (t':=s.toks) (fun b u q=>Heap.get?_push_of_some _ q) (Nat.le_of_eq (Heap.size_push _ _)) ?_
 have ne:s.heap.objs.size≠s.heap.objs.size+1:=Nat.ne_of_lt (Nat.lt_succ_self _)
 refine ⟨by rw [upd_ne ne,upd_same],Nat.zero_le _,ne,e2,fun _=>none,(Heap.Ns1.of_empty e3).at fun o q=>Heap.get?_push_of_some _ q,fun _=>True.intro,fun y hy=>absurd rfl hy⟩
theorem attr_of {prog:Program} {w:World} {env:Env} {e:Expr} {f:Str} {pos:Pos} {s:Shared} {Q:Value->Shared->Prop} (hb:attributeBase e f env (eval e env)=eval e env)
 (h:wpAny (model prog w) A (eval e env) (fun o s₁=>wpAny (model prog w) A (getAttr o f true) Q E s₁) E s):wpAny (model prog w) A (eval (.Attribute e f pos) env) Q E s :=
 Attribute_any_ h (by rw [arm_eval_Attribute,hb])
end
noncomputable def tFld (K:PySem.W.Frag) (ta:TE) (f:Str):TE:=fun σ H Q=>ta σ H fun x H1=>∃a C dx fs v,x=.ref a/\H1 a=some (.ins C dx fs)/\Cls K C/\NoAttr K C f/\fs.lookup f=some v/\Q v H1
noncomputable def sFld (K:PySem.W.Frag) (ta tv:TE) (f:Str):TS:=fun D σ H=>tv σ H fun y H1=>ta σ H1 fun x H2=>∃a C dx fs,x=.ref a/\H2 a=some (.ins C dx fs)/\Cls K C/\NoAttr K C f/\fs.length < 1000 /\
 D.nx σ (upd H2 a (.ins C dx (putF f y fs)))
section
variable {X:Cx} {o e value:Expr} {f:Str} {pos pos' tpos:Pos} {ta tv:TE}
theorem pe_fld (he:PE X e ta) (hb:attributeBase e f X.env (eval e X.env)=eval e X.env):PE X (.Attribute e f pos) (tFld X.K ta f):=by
 intro pins s σ H Q I h
 refine attr_of hb (thn (he pins s σ H _ I h) fun u s1 ⟨x,H1,I1,rx,a,C,dx,fs,v,ex,ea,c,n,l,q⟩=>?_)
 subst ex
 obtain rfl:u=Value.ref a:=rx
 exact getattr_ok I1 ea c n l fun u' s2 I2 ru=>⟨v,H1,I2,ru,q⟩
theorem ps_fld (ha:PE X o ta) (hv:PE X value tv) (hs:swapsWith value (some (.Attribute o f pos')) pos.line X.env=pure false):PS X (.Assign [.Attribute o f pos'] value pos) (sFld X.K ta tv f):=by
 intro pins s σ H D I h
 refine plainObj_wpAny_Assign_Attribute (thn (hv pins s σ H _ I h) fun u s1 ⟨y,H1,I1,ry,q⟩=>thn (ha pins s1 σ H1 _ I1 q) fun ov s2 ⟨x,H2,I2,rx,a,C,dx,fs,ex,ea,c,n,l,q2⟩=>?_) hs
 subst ex
 obtain rfl:ov=Value.ref a:=rx
 exact setattr_ok I2 ea c n l ry fun s3 I3=>⟨σ,_,I3,q2⟩
end
section
variable {X:Cx} {pins:List (Addr × Obj)} {σ:St} {H:Hp} {s:Shared} {A:Around} {E:Value->Shared->Prop} {Q:Value->Shared->Prop} {c:Value} {b:Bool}
inductive TyOf (K:PySem.W.Frag) (H:Hp):V->Value->Prop where
 | non:TyOf K H .non (.type "NoneType")
 | bl (x:Bool):TyOf K H (.bl x) (.type "bool")
 | int (i:Int):TyOf K H (.int i) (.type "int")
 | str (x:Str):TyOf K H (.str x) (.type "str")
 | flt (x:UInt64):TyOf K H (.flt x) (.type "float")
 | lst {a:Addr} {xs:List V} (e:H a=some (.lst xs)):TyOf K H (.ref a) (.type "list")
 | frz {a:Addr} {o:Obj} {xs:List V} (e:H a=some (.frz o (.lst xs))):TyOf K H (.ref a) (.type "list")
 | tup {a:Addr} {xs:List V} (e:H a=some (.tup xs)):TyOf K H (.ref a) (.type "tuple")
 | dK {a:Addr} {kvs:List (Key × V)} (e:H a=some (.dK kvs)):TyOf K H (.ref a) (.type "dict")
 | dT {a:Addr} {kvs:List (List Key × V)} (e:H a=some (.dT kvs)):TyOf K H (.ref a) (.type "dict")
 | ins {a C dx:Addr} {fs:List (Str × V)} (e:H a=some (.ins C dx fs)) (cl:Cls K C) (ha:PySem.W.findIn K (.ref C) "__class__"=some (some (.builtin "object.__class__")))
  (hn:PySem.W.specialIn K (.builtin "object.__class__") "__get__"=some (some (.builtin "getset_descriptor.__get__"))) (htk:PySem.W.takesIn K (.builtin "object.__class__")=some true)
  (hm:PySem.W.mroIn K C (.type "object")=some true):TyOf K H (.ref a) (.ref C)
theorem isinst_ok {x:V} {u t:Value} (I:Inv X pins σ H s) (rx:RelV x u) (ty:TyOf X.K H x t) (e:PySem.W.kitOne X.K t c=some b) (h:∀tk,Q (.bool b) { s with toks:=tk }) :
 wpAny (model X.prog X.w) A (call (.builtin "isinstance") [u,c]) Q E s:=by
 cases ty with
 | non=>cases (show u=Value.none from rx);exact PySem.W.kia_one PySem.W.kitx_none I.kIn True.intro e (fun z=>nomatch z) h
 | bl y=>cases (show u=Value.bool y from rx);exact PySem.W.kia_one PySem.W.kitx_bool I.kIn True.intro e (fun z=>nomatch z) h
 | int i=>obtain ⟨t,q⟩:=(show ∃t,u=Value.int i t from rx);cases q;exact PySem.W.kia_one PySem.W.kitx_int I.kIn True.intro e (fun z=>nomatch z) h
 | str y=>obtain ⟨t,q⟩:=(show ∃t,u=Value.str y t from rx);cases q;exact PySem.W.kia_one PySem.W.kitx_str I.kIn True.intro e (fun z=>nomatch z) h
 | flt y=>obtain ⟨t,q⟩:=(show ∃t,u=Value.float y t from rx);cases q;exact PySem.W.kia_one PySem.W.kitx_float I.kIn True.intro e (fun z=>nomatch z) h
 | @lst a xs ea =>
   cases (show u=Value.ref a from rx)
   obtain ⟨_,_,n,_,h1⟩:=(show ObjOk X.prog X.w H s.heap a (.lst xs) from I.hok a _ ea)
   exact PySem.W.kia_one PySem.W.kitx_list I.kIn ⟨_,h1,rfl⟩ e (fun z=>nomatch z) h
 | @frz a ob xs ea =>
   cases (show u=Value.ref a from rx)
   obtain ⟨_,_,_,n,_,h1⟩:=(show ObjOk X.prog X.w H s.heap a (.frz ob (.lst xs)) from I.hok a _ ea)
   exact PySem.W.kia_one PySem.W.kitx_list I.kIn ⟨_,h1,rfl⟩ e (fun z=>nomatch z) h
 | @tup a xs ea =>
   cases (show u=Value.ref a from rx)
   obtain ⟨_,_,_,p⟩:=(show ObjOk X.prog X.w H s.heap a (.tup xs) from I.hok a _ ea)
   obtain ⟨o,h1,h2,_⟩:=p
   exact PySem.W.kia_one PySem.W.kitx_tuple I.kIn ⟨o,h1,h2⟩ e (fun z=>nomatch z) h
 | @dK a kvs ea =>
   cases (show u=Value.ref a from rx)
   obtain ⟨_,_,vs,_,p⟩:=(show ObjOk X.prog X.w H s.heap a (.dK kvs) from I.hok a _ ea)
   obtain ⟨o,es,ep,h1,h2,_⟩:=p
   exact PySem.W.kia_one PySem.W.kitx_dict I.kIn ⟨o,h1,h2.1⟩ e (fun z=>nomatch z) h
 | @dT a kvs ea =>
   cases (show u=Value.ref a from rx)
   obtain ⟨_,_,xs,_,o,es,ep,h1,h2,_⟩:=(show ObjOk X.prog X.w H s.heap a (.dT kvs) from I.hok a _ ea)
   exact PySem.W.kia_one PySem.W.kitx_dict I.kIn ⟨o,h1,h2.1⟩ e (fun z=>nomatch z) h
 | @ins a C dx fs ea cl ha hn htk hm =>
   cases (show u=Value.ref a from rx)
   obtain ⟨mA,O,_⟩:=ins_get I.hok ea
   obtain ⟨od,J,_⟩:=O.look
   exact PySem.W.kia_one (PySem.W.kitx_own (cl.get _) cl.hd ha hn htk hm) I.kIn J e (fun z=>nomatch z) h
end
end L2
namespace L2
open PySem PySem.Spec PyProof.Rows
structure Room (k:Nat) (A:Around):Prop where
 hd:A.handled=none
 dp:A.depth+3*k+5 < recursionLimit
 un:A.units+16*k+200 < cLine
theorem Room.mono {j k:Nat} {A:Around} (r:Room k A) (h:j<=k):Room j A:=⟨r.hd,by have:=r.dp;omega,by have:=r.un;omega⟩
theorem Room.deeper {k:Nat} {A:Around} (r:Room (k+1) A) (env:Env):Room k (A.deeper env) :=
 ⟨r.hd,by have:=r.dp;show A.depth+1+3*k+5 < _;omega,by have:=r.un;show A.units+3+16*k+200 < _;omega⟩
theorem make_depth {A:Around} {C:Addr} {us:List Value} {kw:List (Str × Value)}:(A.under (.builtin "type.__call__" ⟨.ref C :: us,kw⟩)).depth=A.depth+1:=by
 first | rfl | simp [Around.under,Code.weight,Code.isCreation,Code.isGuard,Code.isCaller,Code.frames,Code.isFrame,guardIds]
theorem make_units {A:Around} {C:Addr} {us:List Value} {kw:List (Str × Value)}:(A.under (.builtin "type.__call__" ⟨.ref C :: us,kw⟩)).units=A.units+1:=by
 first | rfl | simp [Around.under,Code.cUnits,Code.frames,Code.isFrame]
theorem Room.make {k:Nat} {A:Around} (r:Room (k+1) A) (C:Addr) (us:List Value) (kw:List (Str × Value)):Room k (A.under (.builtin "type.__call__" ⟨.ref C :: us,kw⟩)) :=
 ⟨r.hd,by have:=r.dp;rw [make_depth];omega,by have:=r.un;rw [make_units];omega⟩
theorem Room.depth {k:Nat} {A:Around} (r:Room k A):A.depth < recursionLimit:=by have:=r.dp;omega
theorem Room.units {k:Nat} {A:Around} (r:Room k A):A.units+64 < cLine:=by have:=r.un;omega
theorem Room.units0 {k:Nat} {A:Around} (r:Room k A):A.units < cLine:=by have:=r.un;omega
noncomputable def tNil:TA:=fun _ H Q=>Q [] H
noncomputable def tCons (ta:TE) (tr:TA):TA:=fun σ H Q=>ta σ H fun x H1=>tr σ H1 fun xs H2=>Q (x :: xs) H2
section
variable {X:Cx} {e:Expr} {es:List Expr} {te:TE} {t:TA} {pos:Pos}
theorem pa_nil:PA X [] tNil:=fun _ _ _ _ H Q I h=>Calls.spliced_nil ⟨[],H,I,.nil,h⟩
theorem pa_cons (ha:PE X e te) (hr:PA X es t) (hs:starEach (e :: es) X.env=(false,eval e X.env) :: starEach es X.env:=by rfl):PA X (e :: es) (tCons te t):=by
 intro pos pins s σ H Q I h
 rw [hs]
 show wpAny _ _ (spliced ((false,eval e X.env) :: backTo pos (starEach es X.env))) _ _ s
 refine Calls.spliced_cons (thn (ha pins s σ H _ I h) fun u s1 ⟨x,H1,I1,r1,q1⟩=>?_)
 exact thn (hr pos pins s1 σ H1 _ I1 q1) fun us s2 ⟨xs,H2,I2,r2,q2⟩=>⟨x :: xs,H2,I2,.cons r1 r2,q2⟩
noncomputable def tTup (t:TA):TE:=fun σ H Q=>t σ H fun xs H1=>xs.length<=sizeLine/\∀p,H1 p=none->Q (.ref p) (upd H1 p (.tup xs))
noncomputable def tLst (t:TA):TE:=fun σ H Q=>t σ H fun xs H1=>xs.length<=sizeLine/\∀p,H1 p=none->Q (.ref p) (upd H1 p (.lst xs))
theorem pe_tup {x1} (h:PA X es t):PE X (.Tuple es x1 pos) (tTup t):=by
 intro pins s σ H Q I hq
 refine wpAny_Tuple_spliced (thn (h pos pins s σ H _ I hq) fun us s1 ⟨xs,H1,I1,r,z,q⟩=>⟨by rw [<- r.length];exact z,?_⟩)
 have hf:H1 s1.heap.objs.size=none:=I1.hok.fresh (Nat.le_refl _)
 refine ⟨.ref s1.heap.objs.size,upd H1 s1.heap.objs.size (.tup xs),I1.laid (t':=s1.toks) (fun b u e=>Heap.get?_push_of_some _ e) (Nat.le_refl _) ?_,rfl,q _ hf⟩
 exact ⟨z,us,r,⟨_,Heap.get?_push_size _ rfl,rfl,_,rfl⟩⟩
theorem pe_lst (h:PA X es t):PE X (.List es pos) (tLst t):=by
 intro pins s σ H Q I hq
 refine wpAny_List_spliced (thn (h pos pins s σ H _ I hq) fun us s1 ⟨xs,H1,I1,r,z,q⟩=>⟨by rw [<- r.length];exact z,?_⟩)
 have hf:H1 s1.heap.objs.size=none:=I1.hok.fresh (Nat.le_refl _)
 refine ⟨.ref s1.heap.objs.size,upd H1 s1.heap.objs.size (.lst xs),I1.laid (t':=s1.toks) (fun b u e=>Heap.get?_push_of_some _ e) (Nat.le_refl _) ?_,rfl,q _ hf⟩
 exact ⟨z,us,0,r,Heap.get?_push_size _ rfl⟩
end
abbrev Sp:=List V->Hp->VK->XK->Prop
abbrev CXT:=List Env->Hp->Shared->XK->Value->Shared->Prop
structure Env0 (P:Program) (w:World) (K:PySem.W.Frag) (mg:Str->Option Value) (base:Heap) (A:Around) (outer:List Env) (s:Shared) (H:Hp):Prop where
 frames:A.frames=some outer
 mod:Mod K mg base
 bs:∀b o,base.get? b=some o->s.heap.get? b=some o/\H b=none
 bsz:base.objs.size<=s.heap.objs.size
 funs:s.heap.FunFrames base outer
 frf:∀b∈frs outer,H b=none
 hok:HOk P w H s.heap
 bare:AllBare s.gens
noncomputable def CE (outer:List Env) (P:Program) (w:World) (H:Hp) (s:Shared) (Q:VK) (u:Value) (s':Shared):Prop :=
 ∃v H',s'.os=s.os/\AllBare s'.gens/\Un (frs outer) [] H H' s.heap s'.heap/\HOk P w H' s'.heap/\RelV v u/\Q v H'
noncomputable def CR (CX:CXT) (outer:List Env) (P:Program) (w:World) (H:Hp) (s:Shared) (Q:VK) (E:XK) (r:Result) (s':Shared):Prop :=
 match r with
 | .ok (.ret u)=>CE outer P w H s Q u s'
 | .ok _=>False
 | .error e=>CX outer H s E e s'
structure FnOk (P:Program) (w:World) (K:PySem.W.Frag) (mg:Str->Option Value) (base:Heap) (CX:CXT) (k:Nat) (f:Addr) (fd:FuncData) (ps:List Str) (sp:Sp):Prop where
 len:∀vs H Q E,sp vs H Q E->vs.length=ps.length
 run:∀(A:Around) (outer:List Env) (s:Shared) (H:Hp) (args:Args) (us:List Value) (vs:List V) (Q:VK) (E:XK),Room k A->Env0 P w K mg base A outer s H->BindsTo s fd args (ps.zip us)->Vals vs us->sp vs H Q E ->
  codeAny (model P w) A (.call (.ref f) args) (CR CX outer P w H s Q E) s
theorem Env0.make {P:Program} {w:World} {K:PySem.W.Frag} {mg:Str->Option Value} {base:Heap} {A:Around} {outer:List Env} {s:Shared} {H:Hp} (e:Env0 P w K mg base A outer s H) (C:Addr) (us:List Value) (kw:List (Str × Value)) :
 Env0 P w K mg base (A.under (.builtin "type.__call__" ⟨.ref C :: us,kw⟩)) outer s H:=⟨by first | exact e.frames | (simpa [Around.under,Code.envs,Code.isFrame,pushEnvs] using e.frames),e.mod,e.bs,e.bsz,e.funs,e.frf,e.hok,e.bare⟩
section
variable {X:Cx} {pins:List (Addr × Obj)} {σ:St} {H:Hp} {s s':Shared}
theorem Inv.env0 (I:Inv X pins σ H s):Env0 X.prog X.w X.K X.mg X.base X.A X.stack s H :=
 ⟨I.ok.frames,I.ok.mod,I.bs,Nat.le_trans I.ok.bsz I.sz,I.stack,I.stkFree,I.hok,I.bare⟩
theorem Inv.after {Q:VK} {u:Value} (I:Inv X pins σ H s) (h:CE X.stack X.prog X.w H s Q u s'):EP X pins σ Q u s':=by
 obtain ⟨v,H',os,bare,un,hok,r,q⟩:=h
 obtain ⟨hh,g,d,t,os'⟩:=s'
 obtain rfl:os'=s.os:=os
 exact ⟨v,H',I.call (h':=hh) (g':=g) (d':=d) (t':=t) (ch:=[]) un hok bare (fun b z=>absurd z (by simp)),r,q⟩
end
noncomputable def tCall (sp:Sp) (dvs:List V) (E:XK) (t:TA):TE:=fun σ H Q=>t σ H fun vs H1=>sp (vs++dvs) H1 Q E
noncomputable def tMeth (C:Addr) (m:Str) (sp:Sp) (dvs:List V) (E:XK) (ta:TE) (t:TA):TE:=fun σ H Q=>ta σ H fun x H1=>∃a dx fs,x=.ref a/\H1 a=some (.ins C dx fs)/\fs.lookup m=none /\
 t σ H1 fun vs H2=>sp (x :: (vs++dvs)) H2 Q E
noncomputable def tMake (C:Addr) (sp:Sp) (dvs:List V) (E:XK) (t:TA):TE:=fun σ H Q=>t σ H fun vs H1=>∀x dx,H1 x=none->H1 dx=none->dx≠x ->
 sp (.ref x :: (vs++dvs)) (upd (upd H1 dx (.own x)) x (.ins C dx [])) (fun v H2=>v=.non/\Q (.ref x) H2) E
noncomputable def Binds (K:PySem.W.Frag) (fd:FuncData) (ps:List Str) (ds:List Value):Prop :=
 ∀(s:Shared) (us:List Value),K.In s.heap->(us++ds).length=ps.length->BindsTo s fd ⟨us,[]⟩ (ps.zip (us++ds))
theorem Binds.all {K:PySem.W.Frag} {fd:FuncData} {ps:List Str} (h:∀us:List Value,us.length=ps.length->bindArgs fd ⟨us,[]⟩=pure (ps.zip us)):Binds K fd ps []:=fun s us _ hl=>by
 rw [List.append_nil] at hl ⊢
 exact .of_eq (h us hl)
noncomputable def Passes (CX:CXT) (X:Cx) (E:XK):Prop:=∀(pins:List (Addr × Obj)) (σ:St) (H:Hp) (s:Shared) (e:Value) (s':Shared),Inv X pins σ H s->CX X.stack H s E e s'->X.xe e s'
section
variable {X:Cx} {CX:CXT} {k:Nat} {f C:Addr} {fd:FuncData} {ps:List Str} {sp:Sp} {dvs:List V} {ds:List Value} {E:XK} {x m:Str} {p pos apos:Pos} {e o:Expr} {es:List Expr} {ta:TE} {t:TA}
theorem run_fn {pins:List (Addr × Obj)} {σ:St} {H:Hp} {s:Shared} {Q:VK} {us:List Value} {vs:List V} (F:FnOk X.prog X.w X.K X.mg X.base CX k f fd ps sp) (hr:Room k X.A) (hb:Binds X.K fd ps ds) (hd:Vals dvs ds) (hx:Passes CX X E)
 (I:Inv X pins σ H s) (r:Vals vs us) (h:sp (vs++dvs) H Q E):wpAny (model X.prog X.w) X.A (call (.ref f) us) (EP X pins σ Q) X.xe s:=by
 have r2:Vals (vs++dvs) (us++ds):=r.append hd
 have hl:(us++ds).length=ps.length:=by rw [<- r2.length];exact F.len _ _ _ _ h
 refine wpAny_call (codeAny_mono (F.run X.A X.stack s H ⟨us,[]⟩ (us++ds) (vs++dvs) Q E hr I.env0 (hb s us I.kIn hl) r2 h) fun r s' hq=>?_)
 cases r with
 | error e=>exact hx pins σ H s e s' I hq
 | ok fl =>
   cases fl with
   | ret u=>exact I.after hq
   | next=>exact False.elim hq
   | brk=>exact False.elim hq
   | cont=>exact False.elim hq
theorem pe_call (F:FnOk X.prog X.w X.K X.mg X.base CX k f fd ps sp) (hr:Room k X.A) (hg:Gl X x) (hm:X.mg x=some (.ref f)) (hk:PySem.W.keepIn X.K (.ref f)=true) (hb:Binds X.K fd ps ds) (hd:Vals dvs ds) (hx:Passes CX X E)
 (ha:PA X (e :: es) t) (hdb:(x == ("__debug__":Str))=false:=by decide) (he:starEach (e :: es) X.env=(false,eval e X.env) :: starEach es X.env:=by rfl) (hpl:(backTo pos (starEach es X.env)).any (·.1)=false:=by rfl) :
 PE X (.Call (.Name x p) (e :: es) [] pos) (tCall sp dvs E t):=by
 intro pins s σ H Q I h
 refine wpAny_Call_Name_kw (ld_glob I hg hm ?_ hdb)
 refine PySem.W.callWith_K (h₀:=X.base) I.ok.mod.kin hk (thn (ha pos pins s σ H _ I h) fun us s1 ⟨vs,H1,I1,r,q⟩=>⟨I1.kIn,?_⟩) he hpl
 exact run_fn F hr hb hd hx I1 r q
theorem pe_meth {pl:Sem Bool} (he:PE X o ta) (c:Cls X.K C) (hm:Meth X.K C m f) (F:FnOk X.prog X.w X.K X.mg X.base CX k f fd ps sp) (hr:Room k X.A) (hb:Binds X.K fd ps ds) (hd:Vals dvs ds) (hx:Passes CX X E) (ha:PA X (e :: es) t)
 (hst:starEach (e :: es) X.env=(false,eval e X.env) :: starEach es X.env:=by rfl) (hpl:(backTo pos (starEach es X.env)).any (·.1)=false:=by rfl)
 (ht:eval (.Call (.Attribute o m apos) (e :: es) [] pos) X.env=(do
  let ov <- eval o X.env
  standAt apos.atName
  let (f,first) <- holding [ov] (getMethod ov m pl)
  callWith pos f first (backTo pos (starEach (e :: es) X.env)) (backToKw pos (keywordEach [] X.env))):=by rfl) :
 PE X (.Call (.Attribute o m apos) (e :: es) [] pos) (tMeth C m sp dvs E ta t):=by
 intro pins s σ H Q I h
 refine PySem.W.methodCall_KW (pl:=pl) (thn (he pins s σ H _ I h) fun u s1 ⟨x,H1,I1,rx,a,dx,fs,ex,ea,l,q⟩=>?_) ht
 subst ex
 obtain rfl:u=Value.ref a:=rx
 refine getmeth_ok I1 ea c hm l ?_
 refine PySem.W.callWith_K (first:=[.ref a]) (h₀:=X.base) I.ok.mod.kin hm.kp (thn (ha pos pins s1 σ H1 _ I1 q) fun us s2 ⟨vs,H2,I2,r,q2⟩=>⟨I2.kIn,?_⟩) hst hpl
 exact run_fn (us:=.ref a :: us) (vs:=.ref a :: vs) F hr hb hd hx I2 (.cons rfl r) q2
theorem pe_meth0 {pl:Sem Bool} (he:PE X o ta) (c:Cls X.K C) (hm:Meth X.K C m f) (F:FnOk X.prog X.w X.K X.mg X.base CX k f fd ps sp) (hr:Room k X.A) (hb:Binds X.K fd ps ds) (hd:Vals dvs ds) (hx:Passes CX X E)
 (ht:eval (.Call (.Attribute o m apos) [] [] pos) X.env=(do
  let ov <- eval o X.env
  standAt apos.atName
  let (f,first) <- holding [ov] (getMethod ov m pl)
  callWith pos f first (backTo pos (starEach [] X.env)) (backToKw pos (keywordEach [] X.env))):=by rfl) :
 PE X (.Call (.Attribute o m apos) [] [] pos) (tMeth C m sp dvs E ta tNil):=by
 intro pins s σ H Q I h
 refine PySem.W.methodCall_KW (pl:=pl) (thn (he pins s σ H _ I h) fun u s1 ⟨x,H1,I1,rx,a,dx,fs,ex,ea,l,q⟩=>?_) ht
 subst ex
 obtain rfl:u=Value.ref a:=rx
 refine getmeth_ok I1 ea c hm l ?_
 exact PySem.W.callWith_K0 (first:=[.ref a]) I1.kIn hm.kp (run_fn (us:=[.ref a]) (vs:=[.ref a]) F hr hb hd hx I1 (.cons rfl .nil) q)
structure Mk (K:PySem.W.Frag) (C f:Addr):Prop where
 makes:PySem.W.makesIn K C=true
 init:PySem.W.findIn K (.ref C) "__init__"=some (some (.ref f))
 fn:PySem.W.isFn K (.ref f)=true
 kp:PySem.W.keepIn K (.ref C)=true
theorem run_make {pins:List (Addr × Obj)} {σ:St} {H:Hp} {s:Shared} {Q:VK} {us:List Value} {vs:List V} (M:Mk X.K C f) (F:FnOk X.prog X.w X.K X.mg X.base CX k f fd ps sp) (hr:Room (k+1) X.A) (hb:Binds X.K fd ps ds) (hd:Vals dvs ds)
 (hx:Passes CX X E) (I:Inv X pins σ H s) (r:Vals vs us)
 (h:∀x dx,H x=none->H dx=none->dx≠x->sp (.ref x :: (vs++dvs)) (upd (upd H dx (.own x)) x (.ins C dx [])) (fun v H2=>v=.non/\Q (.ref x) H2) E) :
 wpAny (model X.prog X.w) X.A (call (.ref C) us) (EP X pins σ Q) X.xe s:=by
 have hq:=h (s.heap.objs.size+1) s.heap.objs.size (I.hok.fresh (Nat.le_succ _)) (I.hok.fresh (Nat.le_refl _)) (Nat.ne_of_lt (Nat.lt_succ_self _))
 have I2:=Inv.made (C:=C) I
 have r2:Vals (V.ref (s.heap.objs.size+1) :: (vs++dvs)) (Value.ref (s.heap.objs.size+1) :: (us++ds)):=.cons rfl (r.append hd)
 have hl:(Value.ref (s.heap.objs.size+1) :: us++ds).length=ps.length:=by
  have e:=r2.length
  rw [F.len _ _ _ _ hq] at e
  exact e.symm
 refine wpAny_call (make_map (f:=f) I.kIn M.makes M.init (beq_iff_eq.mp M.fn) (codeAny_mono (F.run _ X.stack _ _ ⟨Value.ref (s.heap.objs.size+1) :: us,[]⟩ (Value.ref (s.heap.objs.size+1) :: (us++ds)) _ _ E (hr.make C us [])
  (I2.env0.make C us []) (hb _ (Value.ref (s.heap.objs.size+1) :: us) I2.kIn hl) r2 hq) fun r s' hq'=>?_))
 cases r with
 | error e=>exact hx pins σ _ _ e s' I2 hq'
 | ok fl =>
   cases fl with
   | ret u =>
     obtain ⟨v,H',I3,rv,ev,q3⟩:=I2.after hq'
     subst ev
     exact ⟨rv,⟨V.ref (s.heap.objs.size+1),H',I3,rfl,q3⟩⟩
   | next=>exact False.elim hq'
   | brk=>exact False.elim hq'
   | cont=>exact False.elim hq'
theorem pe_make (M:Mk X.K C f) (F:FnOk X.prog X.w X.K X.mg X.base CX k f fd ps sp) (hr:Room (k+1) X.A) (hg:Gl X x) (hm:X.mg x=some (.ref C)) (hb:Binds X.K fd ps ds) (hd:Vals dvs ds) (hx:Passes CX X E)
 (ha:PA X (e :: es) t) (hdb:(x == ("__debug__":Str))=false:=by decide) (he:starEach (e :: es) X.env=(false,eval e X.env) :: starEach es X.env:=by rfl) (hpl:(backTo pos (starEach es X.env)).any (·.1)=false:=by rfl) :
 PE X (.Call (.Name x p) (e :: es) [] pos) (tMake C sp dvs E t):=by
 intro pins s σ H Q I h
 refine wpAny_Call_Name_kw (ld_glob I hg hm ?_ hdb)
 refine PySem.W.callWith_K (h₀:=X.base) I.ok.mod.kin M.kp (thn (ha pos pins s σ H _ I h) fun us s1 ⟨vs,H1,I1,r,q⟩=>⟨I1.kIn,?_⟩) he hpl
 exact run_make M F hr hb hd hx I1 r q
end
section
variable {X:Cx} {CX:CXT} {k:Nat} {f C:Addr} {fd:FuncData} {ps ks:List Str} {sp:Sp} {E:XK} {x m:Str} {p pos apos kpos:Pos} {e o:Expr} {es:List Expr} {kws:List Keyword} {te ta:TE} {t tk:TA} {nm:Option Str}
variable {g:List Value->List Value->List Value} {gV:List V->List V->List V}
end
structure FnScope (N P:List Str) (sc:Scope):Prop where
 kind:sc.kind=.function
 co:sc.isCoroutine=false
 gen:sc.isGenerator=false
 nd:N.Nodup
 pre:N.take P.length=P
 par:∀x∈P,sc.names.lookup x=some .local\/sc.names.lookup x=some .cell
 nofree:∀y∈sc.names,y.2≠.free
theorem bindL_out {kindOf:Str->Option NameKind} {x:Str}:∀{binds:List (Str × Value)} {m:Str->Option Value},(∀v,(x,v) ∉ binds)->bindL kindOf binds m x=m x
 | [],_,_=>rfl
 | (n,v) :: r,m,h=>by
   unfold bindL
   rw [bindL_out fun w hw=>h w (List.mem_cons_of_mem _ hw)]
   split
   ·have:x≠n:=by rintro rfl;exact h v List.mem_cons_self
    simp [this]
   ·rfl
theorem bindC_out {kindOf:Str->Option NameKind} {x:Str}:∀{binds:List (Str × Value)} {m:Str->Option Value},(∀v,(x,v) ∉ binds)->bindC kindOf binds m x=m x
 | [],_,_=>rfl
 | (n,v) :: r,m,h=>by
   unfold bindC
   rw [bindC_out fun w hw=>h w (List.mem_cons_of_mem _ hw)]
   split
   ·rfl
   ·have:x≠n:=by rintro rfl;exact h v List.mem_cons_self
    simp [this]
theorem bindL_get {kindOf:Str->Option NameKind} {x:Str} {v:Value}:∀{P:List Str} {vs:List Value} {i:Nat} {m:Str->Option Value},P.Nodup->P[i]?=some x->vs[i]?=some v->kindOf x=some .local ->
 bindL kindOf (P.zip vs) m x=some v
 | [],_,_,_,_,h,_,_=>by simp at h
 | _ :: _,[],_,_,_,_,h,_=>by simp at h
 | p :: P,w :: vs,0,m,nd,h1,h2,hk=>by
   simp at h1 h2;subst h1;subst h2
   show bindL kindOf ((p,w) :: P.zip vs) m p=_
   unfold bindL
   rw [bindL_out fun v hv=>(List.nodup_cons.mp nd).1 (List.of_mem_zip hv).1,if_pos hk]
   simp
 | p :: P,w :: vs,i+1,m,nd,h1,h2,hk=>by
   show bindL kindOf ((p,w) :: P.zip vs) m x=_
   unfold bindL
   exact bindL_get (i:=i) (List.nodup_cons.mp nd).2 (by simpa using h1) (by simpa using h2) hk
theorem bindC_get {kindOf:Str->Option NameKind} {x:Str} {v:Value}:∀{P:List Str} {vs:List Value} {i:Nat} {m:Str->Option Value},P.Nodup->P[i]?=some x->vs[i]?=some v->kindOf x≠some .local ->
 bindC kindOf (P.zip vs) m x=some v
 | [],_,_,_,_,h,_,_=>by simp at h
 | _ :: _,[],_,_,_,_,h,_=>by simp at h
 | p :: P,w :: vs,0,m,nd,h1,h2,hk=>by
   simp at h1 h2;subst h1;subst h2
   show bindC kindOf ((p,w) :: P.zip vs) m p=_
   unfold bindC
   rw [bindC_out fun v hv=>(List.nodup_cons.mp nd).1 (List.of_mem_zip hv).1,if_neg hk]
   simp
 | p :: P,w :: vs,i+1,m,nd,h1,h2,hk=>by
   show bindC kindOf ((p,w) :: P.zip vs) m x=_
   unfold bindC
   exact bindC_get (i:=i) (List.nodup_cons.mp nd).2 (by simpa using h1) (by simpa using h2) hk
noncomputable def start (N:List Str) (vs:List V):St:=vs.map some++List.replicate (N.length - vs.length) none
noncomputable def cxOf (CX:CXT) (P:Program) (w:World) (K:PySem.W.Frag) (mg:Str->Option Value) (base:Heap) (N:List Str) (qual:Str) (scope:Scope) (f:Addr) (cd:Value) (A:Around) (outer:List Env) (s:Shared) (H:Hp) (E:XK):Cx where
 prog:=P
 w:=w
 K:=K
 mg:=mg
 base:=base
 A:=A.deeper (envOfC qual scope s.heap.objs.size f cd)
 N:=N
 s₀:=s
 H₀:=H
 env:=envOfC qual scope s.heap.objs.size f cd
 outer:=outer
 stack:=envOfC qual scope s.heap.objs.size f cd :: outer
 ex:=[]
 calm:=true
 fn:=fun _=>true
 pn:=[]
 xe:=fun e s'=>wpAny (model P w) (A.deeper (envOfC qual scope s.heap.objs.size f cd)) (leaving (envOfC qual scope s.heap.objs.size f cd) e) (fun _ s''=>CX outer H s E e s'') (fun e' s''=>CX outer H s E e' s'') s'
theorem cell_has {sc:Scope} {n:Nat} {x:Str} (h:sc.names.lookup x=some .cell):∃c,(cellsFrom n sc.names []).lookup x=some c:=by
 have q:=PySem.W.cellsFrom_some sc.names n [] (.inl h)
 exact Option.isSome_iff_exists.mp q
theorem inv_start {CX:CXT} {P:Program} {w:World} {K:PySem.W.Frag} {mg:Str->Option Value} {base:Heap} {N ps:List Str} {qual:Str} {scope:Scope} {f:Addr} {cd:Value} {A:Around} {outer:List Env} {s s1:Shared} {H:Hp} {E:XK} {us:List Value} {vs:List V}
 (S:FnScope N ps scope) (hd:A.handled=none) (e0:Env0 P w K mg base A outer s H) (hl:vs.length=ps.length) (r:Vals vs us)
 (x:InCallC s s.heap.objs.size (bindL (envOfC qual scope s.heap.objs.size f cd).kindOf (ps.zip us) fun _=>none) (cellsFrom (s.heap.objs.size+1) scope.names []) (bindC (envOfC qual scope s.heap.objs.size f cd).kindOf (ps.zip us) fun _=>none) s1) :
 Inv (cxOf CX P w K mg base N qual scope f cd A outer s H E) [] (start N vs) H s1:=by
 have hpl:ps.length<=N.length:=by have:=congrArg List.length S.pre;rw [List.length_take] at this;omega
 obtain ⟨h1,tk,rfl,hk⟩:=x.done
 have noA:∀b:Addr,b ∉ (cxOf CX P w K mg base N qual scope f cd A outer s H E).ex:=fun b z=>absurd (show b∈([]:List Addr) from z) (by simp)
 refine ⟨⟨e0.mod,S.kind,rfl,rfl,Nat.le_refl _,fun y z c h1 h2=>?_,fun y hy=>?_,fun y c _ h=>?_,fun _=>hd,Around.frames_deeper e0.frames,.inr ⟨rfl,rfl⟩,fun b z=>absurd z (noA b),e0.bs,e0.bsz,fun b _ _=>noA b,fun b z=>absurd z (noA b),e0.funs,e0.frf⟩,
  rfl,e0.bare,Un.kept hk,⟨_,x.toInCall.ns,fun i y v h1 h2 h3=>?_⟩,fun y c h=>⟨_,x.cell y c h⟩,e0.hok.fresh (Nat.le_refl _),fun y c h=>?_,fun p hp=>absurd (show p∈([]:List (Addr × Obj)) from hp) (by simp),e0.hok.kept hk,?_⟩
 ·exact name_of_addr x.apart (PySem.mem_of_lookup h1) (PySem.mem_of_lookup h2)
 ·have hy:scope.names.lookup y=some .cell\/scope.names.lookup y=some .free:=hy
  rcases hy with hy | hy
  ·exact cell_has hy
  ·exact absurd rfl (S.nofree _ (PySem.mem_of_lookup hy))
 ·exact Nat.le_of_lt (x.above y c (PySem.mem_of_lookup h))
 ·have hi:i < vs.length:=by
   unfold start at h2
   by_cases hi:i < vs.length
   ·exact hi
   ·rw [List.getElem?_append_right (by simpa using hi)] at h2
    rw [List.getElem?_replicate] at h2
    split at h2 <;> cases h2
  have ha:vs[i]?=some v:=by
   unfold start at h2
   rw [List.getElem?_append_left (by simpa using hi),List.getElem?_map] at h2
   cases e:vs[i]? with
   | none=>rw [e] at h2;cases h2
   | some a=>rw [e] at h2;cases h2;rfl
  obtain ⟨u,hu,rv⟩:=r.get ha
  have hp:ps[i]?=some y:=by
   rw [<- S.pre,List.getElem?_take_of_lt (by omega)];exact h1
  have ndP:ps.Nodup:=by rw [<- S.pre];exact S.nd.sublist (List.take_sublist _ _)
  refine ⟨u,rv,?_⟩
  rcases S.par y (List.mem_of_getElem? hp) with k | k
  ·exact .inl ⟨k,bindL_get ndP hp hu k⟩
  ·obtain ⟨c,e⟩:=cell_has (n:=s.heap.objs.size+1) k
   refine .inr ⟨.inl k,c,e,?_⟩
   have q:=x.cell y c e
   rw [bindC_get ndP hp hu (by show scope.names.lookup y≠_;rw [k];decide)] at q
   exact q
 ·exact e0.hok.fresh (Nat.le_of_lt (x.above y c (PySem.mem_of_lookup h)))
 ·unfold start
  show _=N.length
  rw [List.length_append,List.length_map,List.length_replicate]
  omega
theorem fn_of {CX:CXT} {P:Program} {w:World} {K:PySem.W.Frag} {mg:Str->Option Value} {base:Heap} {k:Nat} {f:Addr} {name qual:Str} {params:Arguments} {body:List Stmt} {scope:Scope} {dV kV doc pm cdv ct oc:Value} {an od:Option Addr}
 {osl:Array (Option Value)} {N ps:List Str} {sp:Sp} (lk:K.lookup f=some ⟨oc,od,.func (PySem.W.fnOf name qual params body scope dV kV doc pm an cdv ct),osl⟩) (hcd:PySem.W.codeIn K cdv qual=true) (S:FnScope N ps scope)
 (len:∀vs H Q E,sp vs H Q E->vs.length=ps.length)
 (hbody:∀(A:Around) (outer:List Env) (s:Shared) (H:Hp) (vs:List V) (Q:VK) (E:XK),Room k (A.deeper (envOfC qual scope s.heap.objs.size f cdv))->sp vs H Q E ->
  ∃t,PSs (cxOf CX P w K mg base N qual scope f cdv A outer s H E) body t/\t { nx:=fun _ H'=>Q .non H',rt:=Q } (start N vs) H) :
 FnOk P w K mg base CX (k+1) f (PySem.W.fnOf name qual params body scope dV kV doc pm an cdv ct) ps sp:=by
 refine ⟨len,fun A outer s H args us vs Q E hr e0 hb r hsp=>?_⟩
 have hl:=len _ _ _ _ hsp
 have KX:K.In s.heap:=e0.mod.kin.keeps fun b o e=>(e0.bs b o e).1
 have lim:s.heap.NoLimit:=e0.mod.nolimit.keeps fun b o e=>(e0.bs b o e).1
 have hkind:∀y∈ps.zip us,scope.names.lookup y.1=some .local\/(scope.names.lookup y.1=some .cell/\((cellsFrom (s.heap.objs.size+1) scope.names []).lookup y.1).isSome=true):=fun ⟨n,v⟩ hy=>by
  rcases S.par n (List.of_mem_zip hy).1 with q | q
  ·exact .inl q
  ·exact .inr ⟨q,PySem.W.cellsFrom_some _ _ _ (.inl q)⟩
 refine codeAny_call_function hr.depth (KX _ _ lk) rfl S.co S.gen rfl (PySem.W.codeRec_of KX hcd) (hb _ _ _ _ ?_)
 refine wpAny_newFunctionEnv_cells S.kind hkind fun env he s1 x=>?_
 subst he
 refine ⟨lim.keeps x.toInCall.keep,codeAny_func ?_⟩
 obtain ⟨t,ht,hq⟩:=hbody A outer s H vs Q E (hr.deeper _) hsp
 have I:Inv (cxOf CX P w K mg base N qual scope f cdv A outer s H E) [] (start N vs) H s1:=inv_start S hr.hd e0 hl r x
 refine wpAny_mono (ht [] s1 (start N vs) H _ I hq) (fun fl s' hs=>?_) fun e s' hs=>hs
 have fin:∀{σ':St} {H':Hp} {v:V} {u:Value},Inv (cxOf CX P w K mg base N qual scope f cdv A outer s H E) [] σ' H' s'->RelV v u->Q v H'->CE outer P w H s Q u s' :=
  fun {σ' H' v u} J rv q=>⟨v,H',J.os,J.bare,J.base,J.hok,rv,q⟩
 cases fl with
 | ret u =>
   obtain ⟨v,σ',H',J,rv,q⟩:=hs
   exact fin J rv q
 | next =>
   obtain ⟨σ',H',J,q⟩:=hs
   exact fin (v:=V.non) (u:=Value.none) J rfl q
 | brk =>
   obtain ⟨_,_,_,q⟩:=hs
   exact False.elim q
 | cont =>
   obtain ⟨_,_,_,q⟩:=hs
   exact False.elim q
end L2
namespace L2
open PySem PySem.Spec PyProof.Rows
section
variable {X:Cx} {x:Str} {p pos:Pos} {e:Expr} {es:List Expr} {t:TA} {id T:String} {r:List V->Hp->VK->Prop}
noncomputable def tCB (r:List V->Hp->VK->Prop) (t:TA):TE:=fun σ H Q=>t σ H fun vs H1=>r vs H1 Q
theorem pe_callB (hc:CallR X (.builtin id) r) (hg:Gl X x) (hm:X.mg x=none) (hv:bootBuiltins x=some (.builtin id)) (ha:PA X (e :: es) t) (hn:x≠"__name__":=by decide) (hdb:(x == ("__debug__":Str))=false:=by decide)
 (he:starEach (e :: es) X.env=(false,eval e X.env) :: starEach es X.env:=by rfl) (hpl:(backTo pos (starEach es X.env)).any (·.1)=false:=by rfl):PE X (.Call (.Name x p) (e :: es) [] pos) (tCB r t):=by
 intro pins s σ H Q I h
 refine wpAny_Call_Name_kw (ld_blt I hg hm hv ?_ hn hdb)
 exact PyProof.Rows.callWith_builtin1 (thn (ha pos pins s σ H _ I h) fun us s1 ⟨vs,H1,I1,r1,q1⟩=>hc pins s1 σ H1 vs us Q I1 r1 q1) he hpl
theorem pe_callTy (hc:CallR X (.type T) r) (hg:Gl X x) (hm:X.mg x=none) (hv:bootBuiltins x=some (.type T)) (ha:PA X (e :: es) t) (hn:x≠"__name__":=by decide) (hdb:(x == ("__debug__":Str))=false:=by decide)
 (he:starEach (e :: es) X.env=(false,eval e X.env) :: starEach es X.env:=by rfl) (hpl:(backTo pos (starEach es X.env)).any (·.1)=false:=by rfl):PE X (.Call (.Name x p) (e :: es) [] pos) (tCB r t):=by
 intro pins s σ H Q I h
 refine wpAny_Call_Name_kw (ld_blt I hg hm hv ?_ hn hdb)
 exact PyProof.Rows.callWith_type1 (thn (ha pos pins s σ H _ I h) fun us s1 ⟨vs,H1,I1,r1,q1⟩=>hc pins s1 σ H1 vs us Q I1 r1 q1) he hpl
end
end L2
namespace HT
open PySem PyProof.Rows
noncomputable def lexLt:List Int->List Int->Bool
 | [],[]=>false
 | [],_ :: _=>true
 | _ :: _,[]=>false
 | x :: xs,y :: ys=>if x=y then lexLt xs ys else decide (x < y)
theorem lexLt_cons (x y:Int) (xs ys:List Int):lexLt (x :: xs) (y :: ys)=if x=y then lexLt xs ys else decide (x < y):=rfl
theorem lexLt_nil_nil:lexLt [] []=false:=rfl
theorem lexLt_nil_cons (y:Int) (ys:List Int):lexLt [] (y :: ys)=true:=rfl
theorem lexLt_cons_nil (x:Int) (xs:List Int):lexLt (x :: xs) []=false:=rfl
theorem eqAt_int (A:Around) (s:Shared) (a:Int) (t:Tok) (c:Int) (u:Tok):∃e,SeqAt.EqAt A s (.int a t) (.int c u) e/\(e=true↔a=c) :=
 ⟨(a == c),SeqAt.EqAt.int_int a t c u,by simp⟩
theorem rcLt_int (A:Around) (s:Shared) (a:Int) (t:Tok) (c:Int) (u:Tok) (prog:Program) (w:World) (E:Value->Shared->Prop) (Q:Value->Shared->Prop) (h:Q (.bool (decide (a < c))) s) :
 wpAny (model prog w) A (richCompare .Lt (.int a t) (.int c u)) Q E s :=
 (PyProof.Rows.lt_int h:wpAny (model prog w) A (compareOp .Lt (.int a t) (.int c u)) Q E s)
section
open PySem.SeqAt
open PySem.AutoSeq1 (wpAny_loadPart')
open PySem.MeetsSeq PySem.MeetsSeq2 PySem.MeetsSeq3
theorem tuple_lt_ints (l b:Addr) (items items2:Array Value) (n n2:Nat) (dd dd2:Option Addr) (sl sl2:Array (Option Value)) (ns ms:List Int) (hi:IntsAre items.toList ns) (hj:IntsAre items2.toList ms) :
 Meets (Builtin.«tuple.__lt__» ⟨[.ref l,.ref b],[]⟩)
  (fun _ R s=>s.heap.get? l=some { cls:=.type "tuple",dict:=dd,data:=.seq items n,slots:=sl }/\s.heap.get? b=some { cls:=.type "tuple",dict:=dd2,data:=.seq items2 n2,slots:=sl2 } /\
   R (.ok (.ret (.bool (lexLt ns ms)))) s) :=
 .of_wp fun prog w A R s h=>by
  obtain ⟨hp,g,d,tk,os⟩:=s;obtain ⟨hl,hb,h⟩:=h
  have f2:=AutoSeq1.sub_tuple_tuple
  have z1:items.size=ns.length:=by rw [<- hi.length];simp
  have z2:items2.size=ms.length:=by rw [<- hj.length];simp
  wp_walk using wpAny_loadPart' hl,wpAny_loadPart' hb,wpAny_forIn_list _ (fun rest b s'=>b.1=none/\s'=⟨hp,g,d,tk,os⟩/\∃(vs ws:List Value) (ns' ms':List Int),rest=vs.zip ws /\
   IntsAre vs ns'/\IntsAre ws ms'/\ns'.length+items2.size=ms'.length+items.size/\R (.ok (.ret (.bool (lexLt ns' ms')))) ⟨hp,g,d,tk,os⟩) _
  case turn =>
   rintro ⟨y,x⟩ rest b s' ⟨hb',rfl,vs,ws,ns',ms',hz,hvi,hwi,hlen,hR⟩
   cases hvi with
   | nil=>rw [List.zip_nil_left] at hz;cases hz
   | cons a t hvi' =>
     cases hwi with
     | nil=>rw [List.zip_nil_right] at hz;cases hz
     | cons c u hwi' =>
       rw [List.zip_cons_cons] at hz
       injection hz with hyx hrest
       injection hyx with hy hx
       subst hy hx
       rw [lexLt_cons] at hR
       simp only [List.length_cons] at hlen
       obtain ⟨e,he,hiff⟩:=eqAt_int A.in1 ⟨hp,g,d,tk,os⟩ a t c u
       refine wpAny_bind (he prog w _ _ ?_)
       cases e with
       | true =>
         rw [if_pos (hiff.mp rfl)] at hR
         wp_walk
         exact ⟨rfl,rfl,_,_,_,_,hrest,hvi',hwi',by omega,hR⟩
       | false =>
         rw [if_neg (fun q=>absurd (hiff.mpr q) Bool.false_ne_true)] at hR
         have hri:=rcLt_int A.in1 ⟨hp,g,d,tk,os⟩ a t c u prog w
         wp_walk using hri
         exact ⟨_,rfl,by simpa using hR⟩
  case fin =>
   rintro ⟨b1,b2⟩ s' ⟨hb',rfl,vs,ws,ns',ms',hz,hvi,hwi,hlen,hR⟩
   simp only at hb'
   subst hb'
   have hv:lexLt ns' ms'=decide (items.size < items2.size):=by
    cases hvi with
    | nil =>
      cases hwi with
      | nil =>
        simp only [List.length_nil] at hlen
        rw [lexLt_nil_nil]
        exact (decide_eq_false (by omega)).symm
      | cons c u hw =>
        simp only [List.length_nil,List.length_cons] at hlen
        rw [lexLt_nil_cons]
        exact (decide_eq_true (by omega)).symm
    | cons a t hv =>
      cases hwi with
      | nil =>
        simp only [List.length_nil,List.length_cons] at hlen
        rw [lexLt_cons_nil]
        exact (decide_eq_false (by omega)).symm
      | cons c u hw =>
        rw [List.zip_cons_cons] at hz
        cases hz
   rw [hv] at hR
   wp_walk
   exact ⟨_,rfl,by simpa [Builtin.Tuple.tupleCompareSizes] using hR⟩
  case h =>
   exact ⟨rfl,rfl,items.toList,items2.toList,ns,ms,rfl,hi,hj,by omega,h⟩
end
section
variable {prog:Program} {w:World} {A:Around} {E:Value->Shared->Prop} {s:Shared}
theorem lt_tupInts {l b:Addr} {items items2:Array Value} {ns ms:List Int} {Q:Value->Shared->Prop} (hl:IsTup s.heap l items) (hb:IsTup s.heap b items2) (hi:IntsAre items.toList ns) (hj:IntsAre items2.toList ms)
 (hu:A.units < cLine) (h:Q (.bool (lexLt ns ms)) s):wpAny (model prog w) A (compareOp .Lt (.ref l) (.ref b)) Q E s:=by
 obtain ⟨⟨cls,dd,data,sl⟩,ho,hc,n,hd⟩:=id hl
 obtain ⟨⟨cls2,dd2,data2,sl2⟩,ho2,hc2,n2,hd2⟩:=id hb
 simp only at hc hd hc2 hd2
 subst hc hd hc2 hd2
 exact richCompare_meets_room (op:=.Lt) ⟨_,ho,rfl⟩ ⟨_,ho2,rfl⟩ PySem.F.slot_tuple_lt PySem.F.entry_tuple_lt (PySem.F.args_tuple_lt_2 _ _) (tuple_lt_ints l b items items2 n n2 dd dd2 sl sl2 ns ms hi hj)
  ⟨ho,ho2,show Value.bool (lexLt ns ms)≠Value.notImplemented/\Q (.bool (lexLt ns ms)) s from ⟨(fun x=>nomatch x),h⟩⟩ hu
noncomputable def sIx (n d:Nat):Option Int->Nat
 | none=>d
 | some v=>if v < 0 then (v+(n:Int)).toNat else min v.toNat n
theorem sIx_none (n d:Nat):sIx n d none=d:=rfl
theorem sIx_nat (n d k:Nat):sIx n d (some (k:Int))=min k n:=by
 show (if (k:Int) < 0 then ((k:Int)+(n:Int)).toNat else min (k:Int).toNat n)=min k n
 rw [if_neg (by omega),Int.toNat_natCast]
end
end HT
namespace L2
open PySem PySem.Spec PyProof.Rows
abbrev TO:=St->Hp->(Option Int->Hp->Prop)->Prop
noncomputable def PO (X:Cx) (e:Option Expr) (t:TO):Prop :=
 ∀(pins:List (Addr × Obj)) (s:Shared) (σ:St) (H:Hp) (Q:Option Int->Hp->Prop),Inv X pins σ H s->t σ H Q ->
  wpAny (model X.prog X.w) X.A (evalPart e X.env) (fun u s'=>∃o H',Inv X pins σ H' s'/\IsPart u o/\Q o H') X.xe s
noncomputable def tNoPart:TO:=fun _ H Q=>Q none H
noncomputable def tPart (t:TE):TO:=fun σ H Q=>t σ H fun x H1=>∃i,x=.int i/\Q (some i) H1
theorem intsAre_of {ns:List Int}:∀{us:List Value},Vals (ns.map V.int) us->IntsAre us ns:=by
 induction ns with
 | nil=>intro us r;rw [List.map_nil] at r;cases r;exact .nil
 | cons n ns ih =>
   intro us r
   rw [List.map_cons] at r
   cases r with
   | cons r1 r2 =>
     obtain ⟨t,e⟩:=r1
     subst e
     exact .cons n t (ih r2)
section
variable {X:Cx} {e:Expr} {te:TE} {lo hi:Option Expr} {tl th:TO} {pos p2:Pos}
theorem po_none:PO X none tNoPart:=by
 intro pins s σ H Q I h
 rw [evalPart_none]
 exact wpAny_pure ⟨none,H,I,.none,h⟩
theorem po_some (h:PE X e te):PO X (some e) (tPart te):=by
 intro pins s σ H Q I hw
 rw [evalPart_some]
 refine thn (h pins s σ H _ I hw) fun u s1 ⟨x,H1,I1,r1,q1⟩=>?_
 obtain ⟨i,rfl,q⟩:=q1
 obtain ⟨t,rfl⟩:=r1
 exact ⟨some i,H1,I1,.int i t,q⟩
noncomputable def SlR (X:Cx) (r:V->Option Int->Option Int->Hp->VK->Prop):Prop :=
 ∀(pins:List (Addr × Obj)) (s:Shared) (σ:St) (H:Hp) (x:V) (v vl vu:Value) (lo hi:Option Int) (sl:Addr) (Q:VK),Inv X pins σ H s->RelV x v->s.heap.IsSliceOf sl vl vu .none->IsPart vl lo->IsPart vu hi->r x lo hi H Q ->
  ∃T id,typeLookup (.type T) "__getitem__"=pure (some (.builtin id))/\s.TypeIs v T/\wpAny (model X.prog X.w) X.A (getItem v (.ref sl)) (EP X pins σ Q) X.xe s
noncomputable def tSl (r:V->Option Int->Option Int->Hp->VK->Prop) (te:TE) (tl th:TO):TE:=fun σ H Q=>te σ H fun x H1=>tl σ H1 fun l H2=>th σ H2 fun u H3=>r x l u H3 Q
theorem pe_slice {r:V->Option Int->Option Int->Hp->VK->Prop} (hr:SlR X r) (he:PE X e te) (hl:PO X lo tl) (hu:PO X hi th):PE X (.Subscript e (.Slice lo hi none p2) pos) (tSl r te tl th):=by
 intro pins s σ H Q I h
 refine Subscript_ (thn (he pins s σ H _ I h) fun v s1 ⟨x,H1,I1,r1,q1⟩=>?_)
 refine wpAny_Slice (thn (hl pins s1 σ H1 _ I1 q1) fun vl s2 ⟨l,H2,I2,pl,q2⟩=>thn (hu pins s2 σ H2 _ I2 q2) fun vu s3 ⟨u,H3,I3,pu,q3⟩=>?_)
 rw [evalPart_none]
 refine wpAny_pure ?_
 have I4:Inv X pins σ H3 { s3 with heap:=s3.heap.push { cls:=.type "slice",data:=.fields #[vl,vu,.none] } }:=I3.kept (t':=s3.toks) fun b ob q=>Heap.get?_push_of_some _ q
 obtain ⟨T,id,hT,ht,hg⟩:=hr pins { s3 with heap:=s3.heap.push { cls:=.type "slice",data:=.fields #[vl,vu,.none] } } σ H3 x v vl vu l u s3.heap.objs.size Q I4 r1 (Heap.IsSliceOf.new ..) pl pu q3
 show wpAny (model X.prog X.w) X.A (subscriptTail e (.Slice lo hi none p2) v (.ref s3.heap.objs.size)) (EP X pins σ Q) X.xe { s3 with heap:=s3.heap.push { cls:=.type "slice",data:=.fields #[vl,vu,.none] } }
 exact tail_any (ops:=[.ref s3.heap.objs.size,v]) ht hT hg (by with_unfolding_all rfl)
noncomputable def cutV (xs:List V) (lo hi:Option Int):List V:=(xs.drop (HT.sIx xs.length 0 lo)).take (HT.sIx xs.length xs.length hi - HT.sIx xs.length 0 lo)
theorem cutV_length (xs:List V) (lo hi:Option Int):(cutV xs lo hi).length<=xs.length:=by
 unfold cutV
 rw [List.length_take,List.length_drop]
 omega
end
end L2
namespace L2
open PySem PySem.Spec PyProof.Rows
noncomputable def ixN (n:Nat) (i:Int):Option Nat:=if 0<=i then (if i < n then some i.toNat else none) else if -(n:Int)<=i then some (i+n).toNat else none
noncomputable def atI {α:Type} (xs:List α) (i:Int):Option α:=(ixN xs.length i).bind fun j=>xs[j]?
theorem ixN_seq {n:Nat} {i:Int} {j:Nat} (h:ixN n i=some j):seqIndex? i n=some j/\j < n/\-(n:Int)<=i/\i < n:=by
 unfold ixN at h
 by_cases h0:0<=i
 ·rw [if_pos h0] at h
  by_cases h1:i < n
  ·rw [if_pos h1] at h
   have e:i.toNat=j:=Option.some.inj h
   exact ⟨by rw [seqIndex_of h0 h1,e],by omega,by omega,h1⟩
  ·rw [if_neg h1] at h;cases h
 ·rw [if_neg h0] at h
  by_cases h1:-(n:Int)<=i
  ·rw [if_pos h1] at h
   have e:(i+n).toNat=j:=Option.some.inj h
   exact ⟨by rw [seqIndex_neg (by omega) h1,e],by omega,h1,by omega⟩
  ·rw [if_neg h1] at h;cases h
theorem atI_get {α:Type} {xs:List α} {i:Int} {v:α} (h:atI xs i=some v):∃j,seqIndex? i xs.length=some j/\xs[j]?=some v/\j < xs.length/\-(xs.length:Int)<=i/\i < xs.length:=by
 unfold atI at h
 cases e:ixN xs.length i with
 | none=>rw [e] at h;cases h
 | some j =>
   rw [e] at h
   obtain ⟨h1,h2,h3,h4⟩:=ixN_seq e
   exact ⟨j,h1,h,h2,h3,h4⟩
theorem atI_nat {α:Type} {xs:List α} {j:Nat} {v:α} (h:xs[j]?=some v):atI xs (j:Int)=some v:=by
 have hj:j < xs.length:=(List.getElem?_eq_some_iff.mp h).1
 have e:ixN xs.length (j:Int)=some j:=by
  unfold ixN
  rw [if_pos (by omega),if_pos (by omega)];simp
 unfold atI;rw [e];exact h
noncomputable def PlainIx (b:Expr):Prop:=∀o i,subscripted b false o i=operate [o,i] (getItem o i)
noncomputable def IxR (X:Cx) (r:R2):Prop :=
 ∀(value slice:Expr) (pins:List (Addr × Obj)) (s:Shared) (σ:St) (H:Hp) (x y:V) (v u:Value) (Q:VK),Inv X pins σ H s->RelV x v->RelV y u->r x y H Q ->
  subscripted slice false v u=operate [v,u] (getItem v u)->wpAny (model X.prog X.w) X.A (subscriptTail value slice v u) (EP X pins σ Q) X.xe s
noncomputable def MtR (X:Cx) (id:String) (r:V->List V->Hp->VK->Prop):Prop :=
 ∀(pins:List (Addr × Obj)) (s:Shared) (σ:St) (H:Hp) (x:V) (xs:List V) (v:Value) (us:List Value) (Q:VK),Inv X pins σ H s->RelV x v->Vals xs us->r x xs H Q ->
  wpAny (model X.prog X.w) X.A (call (.builtin id) (v :: us)) (EP X pins σ Q) X.xe s
section
variable {X:Cx} {a b:Expr} {ta tb:TE} {pos:Pos}
theorem pe_ix {r:R2} (hr:IxR X r) (ha:PE X a ta) (hb:PE X b tb) (hs:PlainIx b):PE X (.Subscript a b pos) (tOp r ta tb):=by
 intro pins s σ H Q I h
 exact Subscript_ (binT ha hb I h fun v u s2 x y H2 I2 rx ry q=>hr a b pins s2 σ H2 x y v u Q I2 rx ry q (hs _ _))
noncomputable def rIxL (K:PySem.W.Frag):R2:=fun x y H Q=>∃p xs i v,x=.ref p/\y=.int i/\SqL K H p xs/\atI xs i=some v/\Q v H
noncomputable def rIxT (K:PySem.W.Frag):R2:=fun x y H Q=>∃p xs i v,x=.ref p/\y=.int i/\SqT K H p xs/\atI xs i=some v/\Q v H
theorem ix_list:IxR X (rIxL X.K):=by
 intro value slice pins s σ H x y v u Q I rx ry h hs
 obtain ⟨p,xs,i,z,rfl,rfl,hq,he,q⟩:=h
 cases rx
 obtain ⟨t,rfl⟩:=ry
 obtain ⟨its,r,pl,hz⟩:=I.list hq
 obtain ⟨j,h1,h2,h3,h4,h5⟩:=atI_get he
 obtain ⟨w,ew,rw'⟩:=r.get h2
 have hl:=r.length
 have hn:=line63
 have fin:EP X pins σ Q w s:=⟨z,H,I,rw',q⟩
 by_cases h0:0<=i
 ·have hj:i.toNat=j:=by
   rw [seqIndex_of h0 h5] at h1
   exact Option.some.inj h1
  exact item_listR pl.isList h0 (by omega) (by rw [hj];simpa using ew) fin hs
 ·have hj:(i+(its.toArray.size:Int)).toNat=j:=by
   rw [seqIndex_neg (by omega) h4] at h1
   rw [List.size_toArray,<- hl]
   exact Option.some.inj h1
  exact subscriptTail_builtinR (x:=w) pl.isList.typeIs slot_list_getitem.lookup
   (wpAny_getItem_list_neg (Q:=fun r s'=>r=w/\EP X pins σ Q r s') pl.isList (by omega) (by rw [List.size_toArray] <;> omega) (by omega) (by rw [hj];simpa using ew) ⟨rfl,fin⟩) hs
theorem ix_tup:IxR X (rIxT X.K):=by
 intro value slice pins s σ H x y v u Q I rx ry h hs
 obtain ⟨p,xs,i,z,rfl,rfl,hq,he,q⟩:=h
 cases rx
 obtain ⟨t,rfl⟩:=ry
 obtain ⟨its,r,pl,hz⟩:=I.tuple hq
 obtain ⟨j,h1,h2,h3,h4,h5⟩:=atI_get he
 obtain ⟨w,ew,rw'⟩:=r.get h2
 have hl:=r.length
 have hn:=line63
 have fin:EP X pins σ Q w s:=⟨z,H,I,rw',q⟩
 exact subscriptTail_builtinR (x:=w) pl.typeIs slot_tuple_getitem.lookup
  (getItem_tuple (j:=j) (Q:=fun r s'=>r=w/\EP X pins σ Q r s') pl (by omega) (by omega) (by rw [List.size_toArray,<- hl];exact h1) (by simpa using ew) ⟨rfl,fin⟩) hs
theorem mapSeq_set (its:List Value) (n j:Nat) (u:Value):Obj.mapSeq (·.setIfInBounds j u) { cls:=.type "list",data:=.seq its.toArray n }={ cls:=.type "list",data:=.seq (its.set j u).toArray n }:=by
 simp [Obj.mapSeq]
theorem Inv.lst {pins:List (Addr × Obj)} {σ:St} {H:Hp} {s:Shared} {p:Addr} {xs:List V} (I:Inv X pins σ H s) (h:H p=some (.lst xs)) :
 ∃(its:List Value) (n:Nat),Vals xs its/\s.heap.get? p=some { cls:=.type "list",data:=.seq its.toArray n }/\xs.length<=sizeLine:=by
 obtain ⟨z,its,n,r,e⟩:=I.hok p _ h
 exact ⟨its,n,r,e,z⟩
theorem Inv.lstUpd {pins:List (Addr × Obj)} {σ:St} {H:Hp} {s:Shared} {p:Addr} {xs ys:List V} {its its':List Value} {n n':Nat} {f:Obj->Obj} (I:Inv X pins σ H s) (h:H p=some (.lst xs))
 (ho:s.heap.get? p=some { cls:=.type "list",data:=.seq its.toArray n }) (hf:f { cls:=.type "list",data:=.seq its.toArray n }={ cls:=.type "list",data:=.seq its'.toArray n' }) (r:Vals ys its') (hz:ys.length<=sizeLine) (t:Nat) :
 Inv X pins σ (upd H p (.lst ys)) { s with heap:=s.heap.update p f,toks:=t }:=by
 have e:(s.heap.update p f).get? p=some { cls:=.type "list",data:=.seq its'.toArray n' }:=by
  rw [Heap.get?_update_self f ho (by rw [hf] <;> rfl),hf]
 refine I.write (x:=p) (e:=p) (by rw [h];trivial) (.inl rfl) (fun b u hb q=>(Heap.get?_update_other _ _ (Ne.symm hb)).trans q) ⟨_,e⟩ ?_
 exact ⟨hz,its',n',r,e⟩
noncomputable def rSetL:V->V->V->Hp->(Hp->Prop)->Prop:=fun o i v H Q=>∃p xs k j,o=.ref p/\i=.int k/\H p=some (.lst xs)/\ixN xs.length k=some j/\Q (upd H p (.lst (xs.set j v)))
theorem set_list:PSet X rSetL:=by
 intro pins s σ H o i v ov iv u Q I ro ri rv h
 obtain ⟨p,xs,k,j,rfl,rfl,hp,hj,q⟩:=h
 cases ro
 obtain ⟨t,rfl⟩:=ri
 obtain ⟨its,n,r,ho,hz⟩:=I.lst hp
 obtain ⟨h1,h2,h3,h4⟩:=ixN_seq hj
 have hl:=r.length
 have hn:=line63
 have I':Inv X pins σ (upd H p (.lst (xs.set j v))) { s with heap:=s.heap.update p (Obj.mapSeq (·.setIfInBounds j u)) } :=
  I.lstUpd hp ho (mapSeq_set its n j u) (r.set rv j) (by rw [List.length_set];exact hz) s.toks
 by_cases h0:0<=k
 ·have hk:k.toNat=j:=by
   rw [seqIndex_of h0 h4] at h1
   exact Option.some.inj h1
  exact PySem.W.ki_setAt ho h0 (by omega) (by rw [List.size_toArray,<- hl];exact h4) (by rw [hk];exact ⟨_,I',q⟩)
 ·have hk:(k+(its.toArray.size:Int)).toNat=j:=by
   rw [seqIndex_neg (by omega) h3] at h1
   rw [List.size_toArray,<- hl]
   exact Option.some.inj h1
  exact PySem.W.ki_setBack ho (by omega) (by rw [List.size_toArray,<- hl];exact h3) (by omega) (by rw [hk];exact ⟨_,I',q⟩)
theorem slice_bounds (lo hi:Option Int) (n:Nat):(sliceBounds lo hi none n).1=((HT.sIx n 0 lo:Nat):Int)/\(sliceBounds lo hi none n).2.1=((HT.sIx n n hi:Nat):Int)/\(sliceBounds lo hi none n).2.2=1:=by
 refine ⟨?_,?_,rfl⟩
 ·cases lo with
  | none=>simp [sliceBounds,HT.sIx]
  | some i =>
    simp only [sliceBounds,HT.sIx,Option.getD_none,show (1:Int) > 0 by decide,if_true]
    by_cases h:i < 0
    ·simp only [h,if_true] <;> omega
    ·simp only [h,if_false] <;> omega
 ·cases hi with
  | none=>simp [sliceBounds,HT.sIx]
  | some i =>
    simp only [sliceBounds,HT.sIx,Option.getD_none,show (1:Int) > 0 by decide,if_true]
    by_cases h:i < 0
    ·simp only [h,if_true] <;> omega
    ·simp only [h,if_false] <;> omega
theorem slicePick_cut (its:List Value) (lo hi:Option Int):slicePick its.toArray lo hi none=((its.drop (HT.sIx its.length 0 lo)).take (HT.sIx its.length its.length hi - HT.sIx its.length 0 lo)).toArray:=by
 obtain ⟨h1,h2,h3⟩:=slice_bounds lo hi its.toArray.size
 unfold slicePick
 rw [h1,h2,h3]
 simp only [sliceRange_one,pick_run,List.size_toArray] <;> rfl
noncomputable def rSlL (K:PySem.W.Frag):V->Option Int->Option Int->Hp->VK->Prop:=fun x lo hi H Q=>∃a xs,x=.ref a/\SqL K H a xs/\∀p,H p=none->Q (.ref p) (upd H p (.lst (cutV xs lo hi)))
theorem sl_list:SlR X (rSlL X.K):=by
 intro pins s σ H x v vl vu lo hi sl Q I rx hs pl pu h
 obtain ⟨a,xs,rfl,hx,q⟩:=h
 cases rx
 obtain ⟨its,r,ht,hz⟩:=I.list hx
 have hlen:=r.length
 refine ⟨"list",_,slot_list_getitem.lookup,ht.isList.typeIs,?_⟩
 refine wpAny_getItem_list_slice ht.isList hs pl pu .none (by simp) ?_ (by rw [List.size_toArray] <;> omega)
 rw [slicePick_cut,<- hlen]
 refine ⟨.ref s.heap.objs.size,_,I.laid (t':=s.toks) (o:=.lst (cutV xs lo hi)) (fun b ob q=>Heap.get?_push_of_some _ q) (Nat.le_refl _) ?_,rfl,q _ (I.hok.fresh (Nat.le_refl _))⟩
 exact ⟨Nat.le_trans (cutV_length xs lo hi) hz,_,0,(r.drop (HT.sIx xs.length 0 lo)).take (HT.sIx xs.length xs.length hi - HT.sIx xs.length 0 lo),Heap.get?_push_size _ rfl⟩
theorem call_len_seq:CallR X (.builtin "len") (fun xs H Q=>∃p ys,xs=[.ref p]/\(SqL X.K H p ys\/SqT X.K H p ys)/\Q (.int ys.length) H):=by
 intro pins s σ H xs us Q I r h
 obtain ⟨p,ys,rfl,hq,q⟩:=h
 obtain ⟨u,rfl,rx⟩:=vals1 r
 cases rx
 have hn:=line63
 rcases hq with hq | hq
 ·obtain ⟨its,r',pl,hz⟩:=I.list hq
  have hlen:=r'.length
  exact Calls.call_len_list pl.isList (by simp only [List.size_toArray] <;> omega) ⟨.int ys.length,H,I.tok _,⟨s.toks+1,by rw [List.size_toArray,hlen]⟩,q⟩
 ·obtain ⟨its,r',pl,hz⟩:=I.tuple hq
  have hlen:=r'.length
  exact len_tuple pl (by simp only [List.size_toArray] <;> omega) ⟨.int ys.length,H,I.tok _,⟨s.toks+1,by rw [List.size_toArray,hlen]⟩,q⟩
theorem call_list_of:CallR X (.type "list") (fun xs H Q=>∃p ys,xs=[.ref p]/\(SqL X.K H p ys\/SqT X.K H p ys)/\∀l,H l=none->Q (.ref l) (upd H l (.lst ys))):=by
 intro pins s σ H xs us Q I r h
 obtain ⟨p,ys,rfl,hq,q⟩:=h
 obtain ⟨u,rfl,rx⟩:=vals1 r
 cases rx
 have fin:∀(its:List Value),Vals ys its->ys.length<=sizeLine->∀(h':Heap) (c':Nat),(∀b o',s.heap.get? b=some o'->h'.get? b=some o') ->
  h'.get? s.heap.objs.size=some { cls:=.type "list",dict:=none,data:=.seq its.toArray c',slots:=#[] }->EP X pins σ Q (.ref s.heap.objs.size) { s with heap:=h' }:=fun its r' hz h' c' kp e =>
  ⟨.ref s.heap.objs.size,_,I.laid (t':=s.toks) kp (Nat.le_refl _) (show ObjOk X.prog X.w _ h' _ (.lst ys) from ⟨hz,its,c',r',e⟩),rfl,q _ (I.hok.fresh (Nat.le_refl _))⟩
 rcases hq with hq | hq
 ·obtain ⟨its,r',pl,hz⟩:=I.list hq
  have hlen:=r'.length
  obtain ⟨o,ho,hc,n,hd⟩:=pl.isList
  exact call_list_seq p (.inl rfl) ho hc hd (fun h' c' kp e=>fin its r' hz h' c' kp e) (by simp only [List.size_toArray] <;> omega)
 ·obtain ⟨its,r',pl,hz⟩:=I.tuple hq
  have hlen:=r'.length
  obtain ⟨o,ho,hc,n,hd⟩:=pl
  exact call_list_seq p (.inr rfl) ho hc hd (fun h' c' kp e=>fin its r' hz h' c' kp e) (by simp only [List.size_toArray] <;> omega)
theorem call_tuple_of:CallR X (.type "tuple") (fun xs H Q=>∃p ys,xs=[.ref p]/\((SqL X.K H p ys/\∀l,H l=none->Q (.ref l) (upd H l (.tup ys)))\/(SqT X.K H p ys/\Q (.ref p) H))):=by
 intro pins s σ H xs us Q I r h
 obtain ⟨p,ys,rfl,h⟩:=h
 obtain ⟨u,rfl,rx⟩:=vals1 r
 cases rx
 rcases h with ⟨hq,q⟩ | ⟨hq,q⟩
 ·obtain ⟨its,r',pl,hz⟩:=I.list hq
  have hlen:=r'.length
  refine call_tuple_list pl.isList (fun h' kp=>?_) (by simp only [List.size_toArray] <;> omega)
  have I1:Inv X pins σ H { s with heap:=h' }:=I.kept (t':=s.toks) kp
  have I2:Inv X pins σ (upd H h'.objs.size (.tup ys)) { s with heap:=h'.push { cls:=.type "tuple",data:=.seq its.toArray } } :=
   I1.laid (t':=s.toks) (fun b o e=>Heap.get?_push_of_some _ e) (Nat.le_refl _) (show ObjOk X.prog X.w _ _ _ (.tup ys) from ⟨hz,its,r',IsTup.new _ _⟩)
  exact ⟨.ref h'.objs.size,_,I2,rfl,q _ (I1.hok.fresh (Nat.le_refl _))⟩
 ·obtain ⟨its,r',pl,hz⟩:=I.tuple hq
  exact call_tuple_same pl ⟨.ref p,H,I,rfl,q⟩
noncomputable def tyV (K:PySem.W.Frag) (T:String) (x:V) (H:Hp):Prop:=match x with
 | .str _=>T="str"
 | .int _=>T="int"
 | .ref p=>(T="list"/\∃xs,SqL K H p xs)\/(T="tuple"/\∃o,K.lookup p=some o/\o.cls=.type "tuple"/\o.dict=none) \/
  (T="dict"/\((∃kvs,H p=some (.dK kvs))\/∃kvs,H p=some (.dT kvs)))\/(T="set"/\∃S n,H p=some (.set S n))
 | _=>False
theorem tyV_is {pins:List (Addr × Obj)} {σ:St} {H:Hp} {s:Shared} {T:String} {x:V} {v:Value} (I:Inv X pins σ H s) (r:RelV x v) (ty:tyV X.K T x H) :
 s.TypeIs v T/\∀a,v=.ref a->∃ob,s.heap.get? a=some ob/\ob.dict=none:=by
 cases x with
 | str z =>
   obtain ⟨t,rfl⟩:=r
   cases (show T="str" from ty)
   exact ⟨typeIs_str s z t,fun _ e=>nomatch e⟩
 | int i =>
   obtain ⟨t,rfl⟩:=r
   cases (show T="int" from ty)
   exact ⟨typeIs_int s i t,fun _ e=>nomatch e⟩
 | ref p =>
   cases r
   rcases ty with ⟨rfl,xs,hq⟩ | ⟨rfl,o,hk,hc,hd⟩ | ⟨rfl,hk⟩ | ⟨rfl,S,n,hk⟩
   ·obtain ⟨its,_,pl,_⟩:=I.list hq
    refine ⟨pl.isList.typeIs,fun a e=>?_⟩
    cases e
    obtain ⟨o,n,e,c,hd,_⟩:=pl
    exact ⟨o,e,hd⟩
   ·refine ⟨⟨o,I.kIn p o hk,hc⟩,fun a e=>?_⟩
    cases e
    exact ⟨o,I.kIn _ o hk,hd⟩
   ·have z:∃o,s.heap.get? p=some o/\o.ExactDict:=by
     rcases hk with ⟨kvs,hk⟩ | ⟨kvs,hk⟩
     ·obtain ⟨_,_,_,_,o,_,_,e,ex,_⟩:=I.hok p _ hk
      exact ⟨o,e,ex⟩
     ·obtain ⟨_,_,_,_,o,_,_,e,ex,_⟩:=I.hok p _ hk
      exact ⟨o,e,ex⟩
    obtain ⟨o,e,ex⟩:=z
    refine ⟨⟨o,e,ex.1⟩,fun a e2=>?_⟩
    cases e2
    exact ⟨o,e,ex.2.1⟩
   ·obtain ⟨o,_,_,_,e,ex,_⟩:=I.hok p _ hk
    refine ⟨⟨o,e,ex.1⟩,fun a e2=>?_⟩
    cases e2
    exact ⟨o,e,ex.2.1⟩
 | _=>exact False.elim ty
noncomputable def tBM0 (K:PySem.W.Frag) (T:String) (r:V->List V->Hp->VK->Prop) (to:TE):TE:=fun σ H Q=>to σ H fun x H1=>tyV K T x H1/\r x [] H1 Q
noncomputable def tBM (K:PySem.W.Frag) (T:String) (r:V->List V->Hp->VK->Prop) (to:TE) (t:TA):TE:=fun σ H Q=>to σ H fun x H1=>tyV K T x H1/\t σ H1 fun xs H2=>r x xs H2 Q
variable {o e:Expr} {es:List Expr} {to:TE} {t:TA} {name:Str} {apos cpos:Pos} {T id:String} {r:V->List V->Hp->VK->Prop}
theorem pe_bm0 (pa:PlainAttrs T) (slot:Slot T name id) (hty:typeOf (.builtin id)=pure (.type "method_descriptor")) (hm:MtR X id r) (ho:PE X o to)
 (hbase:attributeBase o name X.env (eval o X.env)=eval o X.env:=by rfl) (hline:(apos.endLine == cpos.line)=true:=by rfl):PE X (.Call (.Attribute o name apos) [] [] cpos) (tBM0 X.K T r to):=by
 intro pins s σ H Q I h
 refine wpAny_Call_method0_late hbase hline (thn (ho pins s σ H _ I h) fun v s1 ⟨x,H1,I1,r1,ty,q1⟩=>?_)
 obtain ⟨h1,h2⟩:=tyV_is I1 r1 ty
 exact ⟨T,id,pa,slot,hty,h1,h2,Calls.callWith_builtin rfl (PySem.evalArgs_none (hm pins s1 σ H1 x [] v [] Q I1 r1 .nil q1))⟩
theorem pe_bm (pa:PlainAttrs T) (slot:Slot T name id) (hty:typeOf (.builtin id)=pure (.type "method_descriptor")) (hm:MtR X id r) (ho:PE X o to) (ha:PA X (e :: es) t)
 (hbase:attributeBase o name X.env (eval o X.env)=eval o X.env:=by rfl)
 (hfew:((backTo cpos (starEach (e :: es) X.env)).all (fun x=>!x.1) && (backToKw cpos (keywordEach [] X.env)).all (fun x=>x.1.isSome)
  && decide ((e :: es).length+([]:List Keyword).length+(if ([]:List Keyword).isEmpty then 0 else 1) < 30))=true:=by rfl)
 (hline:(apos.endLine == cpos.line)=true:=by rfl) (hs:starEach (e :: es) X.env=(false,eval e X.env) :: starEach es X.env:=by rfl) (hplain:(backTo cpos (starEach es X.env)).any (·.1)=false:=by rfl) :
 PE X (.Call (.Attribute o name apos) (e :: es) [] cpos) (tBM X.K T r to t):=by
 intro pins s σ H Q I h
 refine wpAny_Call_method_late hbase hfew hline rfl (thn (ho pins s σ H _ I h) fun v s1 ⟨x,H1,I1,r1,ty,q1⟩=>?_)
 obtain ⟨h1,h2⟩:=tyV_is I1 r1 ty
 refine ⟨T,id,pa,slot,hty,h1,h2,?_⟩
 have hA:=ha cpos pins s1 σ H1 _ I1 q1
 rw [hs] at hA ⊢
 refine Calls.callWith_builtin (by show (false || (backTo cpos (starEach es X.env)).any (·.1))=false;rw [hplain] <;> rfl) (Calls.evalArgs_plain ?_)
 exact thn hA fun us s2 ⟨vs,H2,I2,r2,q2⟩=>hm pins s2 σ H2 x vs v us Q I2 r1 r2 q2
end
end L2
namespace L2
open PySem PySem.Spec PyProof.Rows
noncomputable def MtM (X:Cx) (id:String) (r:V->List V->Hp->VK->Prop):Prop :=
 ∀(pins:List (Addr × Obj)) (s:Shared) (σ:St) (H:Hp) (x:V) (xs:List V) (v:Value) (us:List Value) (Q:VK),Inv X pins σ H s->RelV x v->Vals xs us->r x xs H Q ->
  wpAny (model X.prog X.w) X.A (call (.builtin id) (v :: us)) (EP X pins σ Q) X.xe s
theorem Vals.one:∀{x:V} {us:List Value},Vals [x] us->∃u,us=[u]/\RelV x u
 | _,_,.cons r .nil=>⟨_,rfl,r⟩
theorem Vals.reverse {xs:List V} {us:List Value} (h:Vals xs us):Vals xs.reverse us.reverse:=by
 induction h with
 | nil=>exact .nil
 | cons r t ih=>rw [List.reverse_cons,List.reverse_cons];exact Vals.append ih (.cons r .nil)
theorem Vals.rep {xs:List V} {us:List Value} (h:Vals xs us):∀k:Nat,Vals (List.replicate k xs).flatten (List.replicate k us).flatten
 | 0=>.nil
 | k+1=>by
   rw [List.replicate_succ,List.replicate_succ,List.flatten_cons,List.flatten_cons]
   exact Vals.append h (Vals.rep h k)
theorem foldl_rep (its:List Value):∀(k:Nat) (acc:List Value),
 List.foldl (fun x1 x2=>x1++x2) acc.toArray (List.replicate k its.toArray)=(acc++(List.replicate k its).flatten).toArray
 | 0,acc=>by simp
 | k+1,acc=>by
   have e:acc.toArray++its.toArray=(acc++its).toArray:=by simp
   have e2:(acc++its)++(List.replicate k its).flatten=acc++(List.replicate (k+1) its).flatten:=by
    rw [List.replicate_succ,List.flatten_cons,List.append_assoc]
   rw [<- e2,<- foldl_rep its k (acc++its),<- e,List.replicate_succ,List.foldl_cons]
section
variable {X:Cx} {pins:List (Addr × Obj)} {σ:St} {H:Hp} {s:Shared} {l b:Addr} {xs ys zs:List V}
theorem Inv.lset {its its':List Value} {n:Nat} {f:Array Value->Array Value} {t':Nat} (I:Inv X pins σ H s) (hH:H l=some (.lst xs))
 (e:s.heap.get? l=some { cls:=.type "list",data:=.seq its.toArray n }) (hf:f its.toArray=its'.toArray) (hv:Vals ys its') (hz:ys.length<=sizeLine) :
 Inv X pins σ (upd H l (.lst ys)) { s with heap:=s.heap.update l (Obj.mapSeq f),toks:=t' }:=by
 have q:=PySem.IsL.update e f
 rw [hf] at q
 refine I.write (x:=l) (e:=l) (by rw [hH];exact trivial) (.inl rfl) (fun b' u hb hu=>(Heap.get?_update_other s.heap (Obj.mapSeq f) (Ne.symm hb)).trans hu) ⟨_,q⟩ ?_
 exact ⟨hz,its',_,hv,q⟩
theorem Inv.lnew {its:List Value} {t':Nat} (I:Inv X pins σ H s) (hv:Vals ys its) (hz:ys.length<=sizeLine) :
 Inv X pins σ (upd H s.heap.objs.size (.lst ys)) { s with heap:=s.heap.push { cls:=.type "list",data:=.seq its.toArray },toks:=t' } :=
 I.laid (fun _ _ q=>Heap.get?_push_of_some _ q) (Nat.le_refl _) ⟨hz,its,0,hv,Heap.get?_push_size _ rfl⟩
theorem Inv.fresh (I:Inv X pins σ H s):H s.heap.objs.size=none:=I.hok.fresh (Nat.le_refl _)
theorem Inv.lstM (I:Inv X pins σ H s) (hH:H l=some (.lst xs)):xs.length<=sizeLine/\∃(its:List Value) (n:Nat),Vals xs its/\xs.length=its.length/\s.heap.get? l=some { cls:=.type "list",data:=.seq its.toArray n }:=by
 obtain ⟨z,its,n,r,e⟩:=I.hok l _ hH
 exact ⟨z,its,n,r,r.length,e⟩
theorem notLongL {n:Nat} (h:n<=sizeLine):Builtin.List.listTooLong n=false:=by
 unfold Builtin.List.listTooLong
 exact decide_eq_false (by omega)
end
section
variable {X:Cx}
noncomputable def rAppend:V->List V->Hp->VK->Prop:=fun x vs H Q=>∃l xs y,x=.ref l/\vs=[y]/\H l=some (.lst xs)/\xs.length < sizeLine/\Q .non (upd H l (.lst (xs++[y])))
theorem mt_append:MtM X "list.append" rAppend:=by
 intro pins s σ H x vs v us Q I rx rv h
 obtain ⟨l,xs,y,rfl,rfl,hH,hz,q⟩:=h
 cases rx
 obtain ⟨u,rfl,ru⟩:=rv.one
 obtain ⟨z,its,n,r,hl,e⟩:=I.lstM hH
 refine call_meets F.slot_list_append ⟨_,e,rfl⟩ F.entry_list_append (F.args_list_append_2 _ _) (PySem.list_append l its.toArray n u (by rw [List.size_toArray];omega)) ⟨e,?_⟩
 refine ⟨.non,_,I.lset (its':=its++[u]) hH e (by simp) (r.append (.cons ru .nil)) ?_,rfl,q⟩
 rw [List.length_append,List.length_singleton]
 omega
noncomputable def rCat:R2:=fun x y H Q=>∃l b xs zs,x=.ref l/\y=.ref b/\H l=some (.lst xs)/\H b=some (.lst zs)/\xs.length+zs.length<=sizeLine/\∀p,H p=none->Q (.ref p) (upd H p (.lst (xs++zs)))
theorem op_cat:OpR X (binaryOp .Add) rCat:=by
 intro pins s σ H x y v u Q I rx ry h
 obtain ⟨l,b,xs,zs,rfl,rfl,hH,hB,hz,q⟩:=h
 cases rx
 cases ry
 obtain ⟨z,its,n,r,hl,e⟩:=I.lstM hH
 obtain ⟨z2,its2,n2,r2,hl2,e2⟩:=I.lstM hB
 refine PySem.P.add_list e e2 ?_ (by rw [List.size_toArray,List.size_toArray];omega)
 have ea:its.toArray++its2.toArray=(its++its2).toArray:=by simp
 rw [ea]
 exact ⟨.ref _,_,I.lnew (t':=s.toks) (r.append r2) (by rw [List.length_append];omega),rfl,q _ I.fresh⟩
noncomputable def rRep:R2:=fun x y H Q=>∃l k xs,x=.ref l/\y=.int k/\H l=some (.lst xs)/\-(2 ^ 63)<=k/\k < 2 ^ 63/\xs.length*k.toNat<=sizeLine /\
 ∀p,H p=none->Q (.ref p) (upd H p (.lst (List.replicate k.toNat xs).flatten))
theorem len_rep {α:Type} (xs:List α) (k:Nat):(List.replicate k xs).flatten.length=k*xs.length:=by
 induction k with
 | zero=>simp
 | succ k ih=>rw [List.replicate_succ,List.flatten_cons,List.length_append,ih,Nat.succ_mul,Nat.add_comm]
theorem op_rep:OpR X (binaryOp .Mult) rRep:=by
 intro pins s σ H x y v u Q I rx ry h
 obtain ⟨l,k,xs,rfl,rfl,hH,h1,h2,hz,q⟩:=h
 cases rx
 obtain ⟨t,rfl⟩:=ry
 obtain ⟨z,its,n,r,hl,e⟩:=I.lstM hH
 have hlen:its.toArray.size*k.toNat<=sizeLine:=by rw [List.size_toArray,<- hl];exact hz
 have hcap:¬ its.toArray.size*k.toNat > (2 ^ 63 - 1) / 8:=by
  have:(sizeLine:Nat)<=(2 ^ 63 - 1) / 8:=by decide
  omega
 have hfit:¬ (!Builtin.List.listFitsIndex k)=true:=by
  rw [fitsIndex_both h1 h2]
  exact Bool.false_ne_true
 have hlong:¬ Builtin.List.listTooLong (its.toArray.size*k.toNat)=true:=by
  rw [notLongL hlen]
  exact Bool.false_ne_true
 have hnew:List.foldl (fun x1 x2=>x1++x2) #[] (List.replicate (if its.toArray.isEmpty=true then 0 else k.toNat) its.toArray)=(List.replicate k.toNat its).flatten.toArray:=by
  have f0:∀m:Nat,List.foldl (fun x1 x2=>x1++x2) #[] (List.replicate m its.toArray)=(List.replicate m its).flatten.toArray:=fun m=>by
   have:=foldl_rep its m []
   rw [List.nil_append] at this
   exact this
  rw [f0]
  cases its with
  | nil=>simp
  | cons a r'=>rw [if_neg (by simp)]
 refine wpAny_binaryOp_repeat_ref (T:="list") (U:="int") (by decide) ⟨_,e,rfl⟩ (fun s'=>typeIs_int s' k t) noFill_list_mul F.fills_int_mul F.slot_int_rmul repeat_list F.slot_int_index.lookup
  (call_meets F.slot_int_rmul (typeIs_int s k t) F.entry_int_rmul (F.args_int_rmul_2 _ _) (int___rmul___int_list k t l its.toArray n)
   ⟨e,rfl,⟨_,e,rfl⟩,call_meets F.slot_list_mul ⟨_,e,rfl⟩ F.entry_list_mul (F.args_list_mul_2 _ _) (AutoListH.list___mul___list_int_3 l its.toArray n k t hfit hcap hlong) ⟨e,?_⟩⟩)
 rw [hnew]
 exact ⟨.ref _,_,I.lnew (t':=s.toks) (r.rep k.toNat) (by rw [len_rep,Nat.mul_comm];exact hz),rfl,q _ I.fresh⟩
end
section
variable {prog:Program} {w:World} {A:Around} {E:Value->Shared->Prop} {s:Shared}
set_option maxRecDepth 100000 in
end
section
variable {X:Cx}
end
end L2
namespace Att
open PySem PySem.W PySem.Calls PyProof.Rows
theorem ints_of_wellAll {P:Params} {h:Heap}:∀(ns:List Int) (vs:List Value),WellAll P h vs (ns.map WData.int)->IntsAre vs ns:=by
 intro ns
 induction ns with
 | nil =>
   intro vs w
   rw [List.map_nil] at w
   cases w
   exact .nil
 | cons n ns ih =>
   intro vs w
   rw [List.map_cons] at w
   cases w with
   | cons a b =>
     cases a
     exact .cons _ _ (ih _ b)
theorem script_of {l:OpenLaw} {n:Nat} (hn:l.most=some n) {P:Params} {h:Heap} {args:List WData} {vals:List Value}
 (hpre:l.row.toRowW.claim.pre args=true) (hwl:WellAll P h vals args) :
 ∃a vs ns,vals=[Value.ref a]/\args=[WData.list (ns.map WData.int)]/\h.get? a=some { cls:=.type "list",data:=.seq vs.toArray }/\IntsAre vs ns/\ns.length<=n:=by
 have hsh:WShape.hasAll [] args [.list .int]=true:=(pre_splitW hpre).1
 have hc:l.pre.holds [] { args:=args }=true:=(pre_splitW hpre).2
 obtain ⟨d,r,rfl,h1,h2⟩:=hasAllW_cons hsh
 obtain rfl:=hasAllW_nil h2
 obtain ⟨xs,rfl,h3⟩:=hasW_list h1
 obtain ⟨ns,rfl⟩:=items_int h3
 have hlen:ns.length<=n:=by
  unfold OpenLaw.pre at hc
  have h4:(WTm.not (.lt (.lit (.int (n:Int))) (.len (.arg 0)))).holds [] { args:=[.list (ns.map .int)] }=true:=by
   have h4:=(holds_andW hc).1
   rw [hn] at h4
   exact h4
  have h5:=condW_of h4 (w_not (w_lt w_lit (w_len_list (w_arg rfl))))
  rw [List.length_map] at h5
  refine Nat.le_of_not_lt fun q=>?_
  have q':(n:Int) < ((ns.length:Nat):Int):=by omega
  first
   | (rw [decide_eq_true q'] at h5;exact absurd h5 (by decide))
   | (simp at h5;omega)
 cases hwl with
 | cons w1 w2 =>
   cases w2
   cases w1 with
   | list ho hall=>exact ⟨_,_,ns,rfl,rfl,ho,ints_of_wellAll ns _ hall,hlen⟩
theorem post_true (l:OpenLaw) (args:List WData):l.row.toRowW.claim.post args (.bool true) args=true :=
 postW_of (r:=l.row.toRowW) (X:=(true == true))
  (show WShape.has [] (.bool true) .bool=true by first | rfl | decide | simp [WShape.has,WShape.arms,WShape.armsAll])
  (show (WTm.eq .res (.lit (.bool true))).value [] { args:=args,res:=some (.bool true),after:=args }=some (.bool (true == true)) from w_eq_bool (w_res rfl) w_lit) rfl
theorem attach_call {l:OpenLaw} {n:Nat} {q:Program} {loose:List Str} {XP:(Str->Option Value)->Heap->Prop} {YP:World->Heap->Prop} {d:DefRec}
 (hn:l.most=some n) (hdf:d.params.defaults=[])
 (call:∀(w:World) (s₀ s₁:Shared) (mg mb:Str->Option Value) (fa:Addr) (o:Obj) (pm cd doc:Value) (a:Addr) (vs:List Value) (ns:List Int),
  Ground q loose [] XP w s₀ mg mb s₁.heap->YP w s₁.heap ->
  s₁.heap.get? fa=some o->o.data=.func (docDef d.name d.params d.body d.scope pm cd doc)->s₁.heap.CodeRec cd d.name->mg d.name=some (.ref fa) ->
  s₁.heap.get? a=some { cls:=.type "list",data:=.seq vs.toArray }->IntsAre vs ns->ns.length<=n->s₁.gens=#[] ->
  codeAny (model l.prog w) callerA (.call (.ref fa) ⟨[.ref a],[]⟩) (fun r s'=>r=.ok (.ret (.bool true))/\OldK s₁.heap s'.heap/\s'.os=s₁.os/\AllBare s'.gens) s₁) :
 WalkO q loose XP YP l.row.toRowW d [] (fun f vs=>PySem.call f vs):=by
 intro w s₀ s₁ mg mb G Y fa o pm cd doc dV kV ho hd hcd hD hmg hg args vals as hpre hlay hrd hwl hlo
 obtain rfl:dV=.none:=Dflts.none hD hdf
 obtain rfl:kV=.none:=Dflts.noKw hD
 obtain ⟨a,vs,ns,rfl,rfl,hobj,hints,hlen⟩:=script_of hn hpre hwl
 refine enter_call (codeAny_mono (call w s₀ s₁ mg mb fa o pm cd doc a vs ns G Y ho (fd_plain hd) hcd hmg hobj hints hlen hg) fun r s' hq=>?_)
 obtain ⟨rfl,h2,h3,h4⟩:=hq
 exact ⟨.inl ⟨.bool true,.bool true,[],rfl,fun _=>rfl,.bool true,post_true l _,fun _=>⟨List.Pairwise.nil,fun _ hm=>(nomatch hm)⟩⟩,h2,h3,h4⟩
section
variable {prog:Program} {w:World} {A:Around} {E:Value->Shared->Prop} {s:Shared} {K:Frag}
end
end Att
namespace L2
open PySem PySem.Spec PyProof.Rows
theorem vals_ints:∀{vs:List Value} {ns:List Int},IntsAre vs ns->Vals (ns.map V.int) vs
 | _,_,.nil=>.nil
 | _,_,.cons n t h=>.cons ⟨t,rfl⟩ (vals_ints h)
noncomputable def Only (H:Hp):Prop:=∀b,H b=none\/∃o xs,H b=some (.frz o (.lst xs))
theorem law_call {P:Program} {w:World} {K:PySem.W.Frag} {mg mb:Str->Option Value} {CX:CXT} {k:Nat} {fa a:Addr} {fd:FuncData} {x:Str} {sp:Sp} {s₁:Shared} {vs:List Value} {ns:List Int}
 (KX:K.In s₁.heap) (hns:s₁.heap.Ns mainGlobals mg) (hb:s₁.heap.Ns builtinsNs mb) (hbb:∀x:Str,x≠"__name__"->mb x=bootBuiltins x) (hlim:s₁.heap.NoLimit) (hg:s₁.gens=#[])
 (ha:s₁.heap.get? a=some { cls:=.type "list",data:=.seq vs.toArray }) (hi:IntsAre vs ns) (hl:ns.length<=sizeLine) (hr:Room k callerA)
 (F:∀base:Heap,K.In base->base.Ns mainGlobals mg->FnOk P w K mg base CX k fa fd [x] sp) (hbind:∀(s:Shared) (u:Value),BindsTo s fd ⟨[u],[]⟩ [(x,u)])
 (hsp:∀H:Hp,Only H->SqL K H a (ns.map V.int)->sp [.ref a] H (fun v _=>v=.bl true) fun _ _ _=>False)
 (hCX:∀H e s',CX [] H s₁ (fun _ _ _=>False) e s'->False) :
 codeAny (model P w) callerA (.call (.ref fa) ⟨[.ref a],[]⟩) (fun r s'=>r=.ok (.ret (.bool true))/\OldK s₁.heap s'.heap/\s'.os=s₁.os/\AllBare s'.gens) s₁:=by
 have rv:=vals_ints hi
 have lenV:=hi.length
 have core:∀H:Hp,Only H->SqL K H a (ns.map V.int)->HOk P w H s₁.heap->(∀b,H b≠none->b=a)->(H a≠none->K.lookup a=none) ->
  codeAny (model P w) callerA (.call (.ref fa) ⟨[.ref a],[]⟩) (fun r s'=>r=.ok (.ret (.bool true))/\OldK s₁.heap s'.heap/\s'.os=s₁.os/\AllBare s'.gens) s₁:=by
  intro H hO hS hok hA hK
  have base_of:∀{b:Addr} {o:Obj},s₁.heap.get? b=some o->H b=none->(hidT s₁.heap H).get? b=some o:=fun e n=>hidT_get e n
  have noA:∀{b:Addr} {o:Obj} {es:Array DictEntry} {ep:Nat},s₁.heap.get? b=some o->o.data=.dict es ep->H b=none:=fun {b o es ep} e d=>by
   cases q:H b with
   | none=>rfl
   | some u =>
     have e':b=a:=hA b (by rw [q];simp)
     subst e'
     rw [ha] at e;cases e
     have d':Data.seq vs.toArray _=Data.dict es ep:=d
     cases d'
  have nsK:∀{b:Addr} {m:Str->Option Value},s₁.heap.Ns b m->(hidT s₁.heap H).Ns b m:=fun {b m} ⟨o,es,ep,e,d,r⟩=>⟨o,es,ep,base_of e (noA e d),d,r⟩
  have hKb:K.In (hidT s₁.heap H):=fun b o e=>base_of (KX b o e) (by
   cases q:H b with
   | none=>rfl
   | some u =>
     have e':b=a:=hA b (by rw [q];simp)
     subst e'
     rw [hK (by rw [q];simp)] at e;cases e)
  have hM:Mod K mg (hidT s₁.heap H):=⟨hKb,nsK hns,⟨mb,nsK hb,hbb⟩,let ⟨mc,h1,h2⟩:=hlim;⟨mc,nsK h1,h2⟩⟩
  have e0:Env0 P w K mg (hidT s₁.heap H) callerA [] s₁ H:=⟨rfl,hM,fun b o e=>of_hidT e,Nat.le_of_eq (hidT_size _ _),trivial,fun b hb=>absurd (show b∈([]:List Addr) from hb) (by simp),hok,.of_eq hg⟩
  refine codeAny_mono ((F _ hKb (nsK hns)).run callerA [] s₁ H ⟨[.ref a],[]⟩ [.ref a] [.ref a] _ _ hr e0 (hbind s₁ (.ref a)) (.cons rfl .nil) (hsp H hO hS)) fun r s' h=>?_
  cases r with
  | error e=>exact (hCX H e s' h).elim
  | ok fl =>
    cases fl with
    | next=>exact False.elim h
    | brk=>exact False.elim h
    | cont=>exact False.elim h
    | ret u =>
      obtain ⟨v,H',os,bare,un,hok',r',q⟩:=h
      have q':v=.bl true:=q
      subst q'
      obtain rfl:u=Value.bool true:=r'
      refine ⟨rfl,OldK.of_keep fun b o e=>?_,os,bare⟩
      cases q:H b with
      | none=>exact un.keep b o e q (by intro z;exact absurd (show b∈([]:List Addr) from z) (by simp)) (by simp)
      | some u =>
        rcases hO b with z | ⟨ob,xs,z⟩
        ·rw [q] at z;cases z
        ·have z2:=un.frzs b ob _ z
         obtain ⟨e1,_⟩:=hok b _ z
         obtain ⟨e2,_⟩:=hok' b _ z2
         rw [e] at e1;cases e1
         exact e2
 cases hk:K.lookup a with
 | some o =>
   have e:=KX a o hk
   rw [ha] at e
   cases e
   refine core (fun _=>none) (fun _=>.inl rfl) (.inr ⟨_,vs.toArray,_,hk,rfl,rfl,rfl,by rw [List.size_toArray,lenV];exact hl,by simpa using rv⟩) (fun b u z=>by have z':(none:Option HO)=some u:=z;cases z') (fun b z=>absurd rfl z) fun z=>absurd rfl z
 | none =>
   refine core (fun b=>if b=a then some (.frz { cls:=.type "list",data:=.seq vs.toArray } (.lst (ns.map V.int))) else none) (fun b=>?_) (.inl (.inr ⟨{ cls:=.type "list",data:=.seq vs.toArray },if_pos rfl⟩)) (fun b u z=>?_) (fun b z=>?_) fun _=>hk
   ·by_cases hb:b=a
    ·exact .inr ⟨_,_,if_pos hb⟩
    ·exact .inl (if_neg hb)
   ·by_cases hb:b=a
    ·have z':=(if_pos hb).symm.trans z
     cases z'
     subst hb
     exact ⟨ha,by rw [List.length_map];exact hl,vs,_,rv,ha⟩
    ·have z':=(if_neg hb).symm.trans z
     cases z'
   ·by_cases hb:b=a
    ·exact hb
    ·exact absurd (if_neg hb) z
end L2
namespace L2
open PySem PySem.Spec PyProof.Rows
theorem walk_of {l:PySem.W.OpenLaw} {n k:Nat} {q:Program} {loose:List Str} {XP:(Str->Option Value)->Heap->Prop} {YP:World->Heap->Prop} {d:DefRec} {K:Params->PySem.W.Frag} {CX:World->CXT} {sp:World->Sp} {x:Str}
 (hn:l.most=some n) (hn2:n<=sizeLine) (hdf:d.params.defaults=[]) (hr:Room k callerA)
 (hY:∀(w:World) (h:Heap),YP w h->(K w.params).In h)
 (F:∀(w:World) (mg:Str->Option Value) (fa:Addr) (h:Heap),(K w.params).In h->h.Ns mainGlobals mg->mg d.name=some (.ref fa) ->
  ∃fd:FuncData,(∀(s:Shared) (u:Value),BindsTo s fd ⟨[u],[]⟩ [(x,u)]) /\
   ∀base:Heap,(K w.params).In base->base.Ns mainGlobals mg->FnOk l.prog w (K w.params) mg base (CX w) k fa fd [x] (sp w))
 (hsp:∀(w:World) (H:Hp) (a:Addr) (ns:List Int),ns.length<=n->Only H->SqL (K w.params) H a (ns.map V.int)->sp w [.ref a] H (fun v _=>v=.bl true) fun _ _ _=>False)
 (hCX:∀(w:World) (H:Hp) (s:Shared) (e:Value) (s':Shared),CX w [] H s (fun _ _ _=>False) e s'->False) :
 PySem.W.WalkO q loose XP YP l.row.toRowW d [] (fun f vs=>PySem.call f vs):=by
 refine Att.attach_call hn hdf fun w s₀ s₁ mg mb fa o pm cd doc a vs ns G Y ho hd hcd hmg hobj hints hlen hg=>?_
 have KX:=hY w _ Y
 obtain ⟨fd,hb,hF⟩:=F w mg fa _ KX G.T.g hmg
 exact law_call KX G.T.g G.T.b G.T.builtins G.T.nolimit hg hobj hints (Nat.le_trans hlen hn2) hr hF hb (fun H hO hS=>hsp w H a ns hlen hO hS) fun H e s'=>hCX w H s₁ e s'
end L2
namespace L2
open PySem PySem.Spec PyProof.Rows
def inClass (s:Stmt) (j:Nat):Stmt:=match s with
 | .ClassDef _ _ _ body _ _ _ _ _ _ _=>body.getD j (.Pass ⟨0,0,0,0⟩)
 | _=>.Pass ⟨0,0,0,0⟩
noncomputable def defArgs (s:Stmt):Arguments:=match s with
 | .FunctionDef _ a _ _ _ _ _ _ _ _=>a
 | _=>{ posonlyargs:=[],args:=[],vararg:=none,kwonlyargs:=[],kw_defaults:=[],kwarg:=none,defaults:=[] }
noncomputable def defBody (s:Stmt):List Stmt:=match s with
 | .FunctionDef _ _ b _ _ _ _ _ _ _=>b
 | _=>[]
noncomputable def defScope (s:Stmt):Scope:=match s with
 | .FunctionDef _ _ _ _ _ _ sc _ _ _=>sc
 | _=>{ kind:=.function,names:=[],isGenerator:=false,isCoroutine:=false }
abbrev CX0:CXT:=fun _ _ _ _ _ _=>False
abbrev E0:XK:=fun _ _ _=>False
theorem pass0 {X:Cx}:Passes CX0 X E0:=fun _ _ _ _ _ _ _ h=>h.elim
structure Fun (K:PySem.W.Frag) (x qual:Str) (st:Stmt) (f:Addr) (fd:FuncData):Prop where
 ex:∃(oc:Value) (od:Option Addr) (kV doc pm:Value) (an:Option Addr) (cdv ct:Value) (osl:Array (Option Value)),
  fd=PySem.W.fnOf x qual (defArgs st) (defBody st) (defScope st) .none kV doc pm an cdv ct/\K.lookup f=some ⟨oc,od,.func fd,osl⟩/\PySem.W.codeIn K cdv qual=true
 kp:PySem.W.keepIn K (.ref f)=true
section
variable {P:Program} {w:World} {K:PySem.W.Frag} {mg:Str->Option Value} {base:Heap}
theorem Fun.ok {x qual:Str} {st:Stmt} {f:Addr} {fd:FuncData} {N ps:List Str} {k:Nat} {sp:Sp} (F:Fun K x qual st f fd) (S:FnScope N ps (defScope st)) (len:∀vs H Q E,sp vs H Q E->vs.length=ps.length)
 (hbody:∀(cdv:Value) (A:Around) (outer:List Env) (s:Shared) (H:Hp) (vs:List V) (Q:VK) (E:XK),Room k (A.deeper (envOfC qual (defScope st) s.heap.objs.size f cdv))->sp vs H Q E ->
  ∃t,PSs (cxOf CX0 P w K mg base N qual (defScope st) f cdv A outer s H E).nox (defBody st) t/\t { nx:=fun _ H'=>Q .non H',rt:=Q } (start N vs) H):FnOk P w K mg base CX0 (k+1) f fd ps sp:=by
 obtain ⟨oc,od,kV,doc,pm,an,cdv,ct,osl,rfl,lk,hcd⟩:=F.ex
 refine fn_of lk hcd S len fun A outer s H vs Q E hr hsp=>?_
 obtain ⟨t,h,q⟩:=hbody cdv A outer s H vs Q E hr hsp
 exact ⟨t,h.nox,q⟩
theorem Fun.binds {x qual:Str} {st:Stmt} {f:Addr} {fd:FuncData} {ps:List Str} (F:Fun K x qual st f fd)
 (h:∀(kV doc pm:Value) (an:Option Addr) (cdv ct:Value) (us:List Value),us.length=ps.length->bindArgs (PySem.W.fnOf x qual (defArgs st) (defBody st) (defScope st) .none kV doc pm an cdv ct) ⟨us,[]⟩=pure (ps.zip us)):Binds K fd ps []:=by
 obtain ⟨oc,od,kV,doc,pm,an,cdv,ct,osl,rfl,lk,hcd⟩:=F.ex
 exact .all (h kV doc pm an cdv ct)
theorem fun_mk {x qual:Str} {st:Stmt} {f:Addr} {oc:Value} {od an:Option Addr} {osl:Array (Option Value)} {kV doc pm cdv ct:Value} (l:K.lookup f=some ⟨oc,od,.func (PySem.W.fnOf x qual (defArgs st) (defBody st) (defScope st) .none kV doc pm an cdv ct),osl⟩)
 (c:PySem.W.codeIn K cdv qual=true) (k:PySem.W.keepIn K (.ref f)=true):Fun K x qual st f (PySem.W.fnOf x qual (defArgs st) (defBody st) (defScope st) .none kV doc pm an cdv ct):=⟨⟨oc,od,kV,doc,pm,an,cdv,ct,osl,rfl,l,c⟩,k⟩
end
theorem small1000 {n:Nat} (h:n<=1000):n < sizeLine:=Nat.lt_of_le_of_lt h (by decide)
section
variable {X:Cx}
theorem pv (i:Nat) {x:Str} {pos:Pos} (hN:X.N[i]?=some x:=by rfl) (hv:Vis X.env.scope x:=by first | exact Or.inl rfl | exact Or.inr (Or.inl rfl) | exact Or.inr (Or.inr rfl)) (hd:(x == ("__debug__":Str))=false:=by decide)
 (hcd:(x == ("__classdict__":Str))=false:=by decide):PE X (.Name x pos) (tVar i):=pe_var hN hv hd hcd
end
theorem iteF {A B:Prop} (h:B):if false=true then A else B:=by
 rw [if_neg Bool.false_ne_true]
 exact h
theorem iteT {A B:Prop} (h:A):if true=true then A else B:=by
 rw [if_pos rfl]
 exact h
theorem ite2 {c A B:Prop} [Decidable c] (h1:c->A) (h2:¬ c->B):if c then A else B:=by
 by_cases h:c
 ·rw [if_pos h]
  exact h1 h
 ·rw [if_neg h]
  exact h2 h
noncomputable def Same (H H':Hp):Prop:=∀b o,H b=some o->H' b=some o
theorem Same.trans {H H1 H2:Hp} (a:Same H H1) (b:Same H1 H2):Same H H2:=fun c o h=>b c o (a c o h)
theorem Same.seq {K:PySem.W.Frag} {H H':Hp} {a:Addr} {xs:List V} (e:Same H H') (h:SqL K H a xs):SqL K H' a xs:=by
 rcases h with (h | ⟨o,h⟩) | h
 ·exact .inl (.inl (e _ _ h))
 ·exact .inl (.inr ⟨o,e _ _ h⟩)
 ·exact .inr h
end L2
namespace L2
open PySem PySem.Spec PyProof.Rows
section
variable {κ:Type} [DecidableEq κ]
noncomputable def valV (kvs:List (κ × V)) (k:κ):Option V:=(kvs.find? fun kv=>decide (kv.1=k)).map (·.2)
noncomputable def putK (kvs:List (κ × V)) (k:κ) (v:V):List (κ × V) :=
 if (kvs.any fun kv=>decide (kv.1=k))=true then kvs.map (fun kv=>if kv.1=k then (kv.1,v) else kv) else kvs++[(k,v)]
theorem valV_pos {p:κ × V} {r:List (κ × V)} {k:κ} (e:p.1=k):valV (p :: r) k=some p.2:=by simp [valV,List.find?_cons,e]
theorem valV_neg {p:κ × V} {r:List (κ × V)} {k:κ} (e:¬ p.1=k):valV (p :: r) k=valV r k:=by simp [valV,List.find?_cons,e]
theorem valV_any (k:κ):∀kvs:List (κ × V),(kvs.any fun kv=>decide (kv.1=k))=(valV kvs k).isSome
 | []=>rfl
 | p :: r=>by
   rw [List.any_cons]
   by_cases e:p.1=k
   ·simp only [valV_pos e,decide_eq_true e,Bool.true_or,Option.isSome_some]
   ·rw [valV_neg e,decide_eq_false e,Bool.false_or];exact valV_any k r
theorem valV_map (k j:κ) (y:V):∀kvs:List (κ × V),valV (kvs.map fun kv=>if kv.1=k then (kv.1,y) else kv) j=(valV kvs j).map fun x=>if j=k then y else x
 | []=>rfl
 | p :: r=>by
   have ih:=valV_map k j y r
   rw [List.map_cons]
   by_cases h:p.1=k
   ·rw [if_pos h]
    by_cases e:p.1=j
    ·rw [valV_pos (p:=(p.1,y)) e,valV_pos e,Option.map_some,if_pos (e.symm.trans h)]
    ·rw [valV_neg (p:=(p.1,y)) e,valV_neg e,ih]
   ·rw [if_neg h]
    by_cases e:p.1=j
    ·rw [valV_pos (p:=p) e,valV_pos e,Option.map_some,if_neg (fun z=>h (e.trans z))]
    ·rw [valV_neg (p:=p) e,valV_neg e,ih]
theorem valV_snoc (k j:κ) (y:V):∀kvs:List (κ × V),valV kvs k=none->valV (kvs++[(k,y)]) j=if j=k then some y else valV kvs j
 | [],_=>by
   by_cases e:k=j
   ·rw [if_pos e.symm];exact valV_pos (p:=(k,y)) e
   ·rw [if_neg (fun z=>e z.symm)];exact valV_neg (p:=(k,y)) e
 | p :: r,hn=>by
   rw [List.cons_append]
   have hk:¬ p.1=k:=fun z=>by rw [valV_pos z] at hn;cases hn
   rw [valV_neg hk] at hn
   have ih:=valV_snoc k j y r hn
   by_cases e:p.1=j
   ·rw [valV_pos e,valV_pos e,if_neg (fun z=>hk (e.trans z))]
   ·rw [valV_neg e,valV_neg e,ih]
theorem valV_put (kvs:List (κ × V)) (k j:κ) (y:V):valV (putK kvs k y) j=if j=k then some y else valV kvs j:=by
 unfold putK
 by_cases a:(kvs.any fun kv=>decide (kv.1=k))=true
 ·rw [if_pos a,valV_map]
  rw [valV_any] at a
  by_cases e:j=k
  ·obtain ⟨x,hx⟩:=Option.isSome_iff_exists.mp a
   rw [if_pos e,e,hx,Option.map_some,if_pos rfl]
  ·rw [if_neg e]
   cases valV kvs j with
   | none=>rfl
   | some x=>rw [Option.map_some,if_neg e]
 ·rw [if_neg a]
  refine valV_snoc k j y kvs ?_
  rw [valV_any] at a
  cases q:valV kvs k with
  | none=>rfl
  | some x=>rw [q] at a;exact (a rfl).elim
theorem length_putK (kvs:List (κ × V)) (k:κ) (v:V):(putK kvs k v).length<=kvs.length+1:=by
 unfold putK
 split
 ·rw [List.length_map];omega
 ·rw [List.length_append,List.length_cons,List.length_nil];omega
theorem putK_new {kvs:List (κ × V)} {k:κ} (v:V) (h:valV kvs k=none):putK kvs k v=kvs++[(k,v)]:=by
 unfold putK
 rw [valV_any,h]
 exact if_neg (by decide)
theorem RelO.isSome_eq {o:Option V} {u:Option Value} (r:RelO o u):o.isSome=u.isSome:=by
 cases o with
 | none=>cases u with
   | none=>rfl
   | some _=>exact (show False from r).elim
 | some _=>cases u with
   | none=>exact (show False from r).elim
   | some _=>rfl
theorem RelO.getD {o:Option V} {u:Option Value} {d:V} {d':Value} (r:RelO o u) (rd:RelV d d'):RelV (o.getD d) (u.getD d'):=by
 cases o with
 | none=>cases u with
   | none=>exact rd
   | some _=>exact (show False from r).elim
 | some _=>cases u with
   | none=>exact (show False from r).elim
   | some _=>exact r
theorem KV.val {kvs:List (κ × V)} {vs:List (κ × Value)} (r:KV kvs vs) (k:κ):RelO (valV kvs k) (valueAt vs k):=by
 unfold KV at r
 induction r with
 | nil=>exact True.intro
 | @cons p q ps qs h t ih =>
   obtain ⟨h1,h2⟩:=h
   by_cases e:p.1=k
   ·have e':q.1=k:=h1.symm.trans e
    have b:valueAt (q :: qs) k=some q.2:=by simp [valueAt,List.find?_cons,e']
    rw [valV_pos e,b];exact h2
   ·have e':¬ q.1=k:=fun z=>e (h1.trans z)
    have b:valueAt (q :: qs) k=valueAt qs k:=by simp [valueAt,List.find?_cons,e']
    rw [valV_neg e,b];exact ih
theorem KV.any {kvs:List (κ × V)} {vs:List (κ × Value)} (r:KV kvs vs) (k:κ):(kvs.any fun kv=>decide (kv.1=k))=vs.any fun kv=>decide (kv.1=k):=by
 unfold KV at r
 induction r with
 | nil=>rfl
 | cons h t ih=>rw [List.any_cons,List.any_cons,ih,h.1]
theorem KV.repl {kvs:List (κ × V)} {vs:List (κ × Value)} (r:KV kvs vs) (k:κ) {y:V} {u:Value} (ry:RelV y u) :
 KV (kvs.map fun kv=>if kv.1=k then (kv.1,y) else kv) (vs.map fun kv=>if kv.1=k then (kv.1,u) else kv):=by
 unfold KV at r ⊢
 induction r with
 | nil=>exact .nil
 | @cons p q ps qs h t ih =>
   rw [List.map_cons,List.map_cons]
   refine .cons ?_ ih
   obtain ⟨h1,h2⟩:=h
   by_cases e:p.1=k
   ·rw [if_pos e,if_pos (h1.symm.trans e)];exact ⟨h1,ry⟩
   ·rw [if_neg e,if_neg (fun z=>e (h1.trans z))];exact ⟨h1,h2⟩
theorem KV.put {kvs:List (κ × V)} {vs:List (κ × Value)} (r:KV kvs vs) (k:κ) {y:V} {u:Value} (ry:RelV y u):KV (putK kvs k y) (stored vs k u):=by
 unfold putK stored
 rw [r.any k]
 by_cases e:(vs.any fun kv=>decide (kv.1=k))=true
 ·rw [if_pos e,if_pos e];exact r.repl k ry
 ·rw [if_neg e,if_neg e];exact Paired.snoc r ⟨rfl,ry⟩
theorem KV.length {kvs:List (κ × V)} {vs:List (κ × Value)} (r:KV kvs vs):kvs.length=vs.length:=Paired.length r
end
theorem kV_is {P:Program} {w:World} {k:Key} {u:Value} (r:RelV (kV k) u):(mixKind P w).is k u=true:=by
 cases k with
 | inl i=>obtain ⟨t,e⟩:=(show ∃t,u=Value.int i t from r);subst e;exact mixKind_int P w i t
 | inr x=>obtain ⟨t,e⟩:=(show ∃t,u=Value.str x t from r);subst e;exact mixKind_str P w x t
theorem items_are {P:Program} {w:World}:∀{ks:List Key} {us:List Value},Vals (ks.map kV) us->ItemsAre (mixKind P w) ks us
 | [],_,r=>by rw [List.map_nil] at r;cases r;exact .nil
 | k :: ks,_,r=>by
   rw [List.map_cons] at r
   cases r with
   | cons h t=>exact .cons (kV_is h) (items_are t)
abbrev KT (H:Hp):List (List Key × V)->List (List Key × Addr × Value)->Prop:=Paired fun p q=>p.1=q.1/\H q.2.1=some (.tup (p.1.map kV))/\RelV p.2 q.2.2
theorem KT.val {H:Hp} {kvs:List (List Key × V)} {xs:List (List Key × Addr × Value)} (r:KT H kvs xs) (k:List Key):RelO (valV kvs k) ((atKey xs k).map (·.2)):=by
 induction r with
 | nil=>exact True.intro
 | @cons p q ps qs h t ih =>
   obtain ⟨h1,_,h2⟩:=h
   by_cases e:p.1=k
   ·have e':q.1=k:=h1.symm.trans e
    have b:atKey (q :: qs) k=some q.2:=by simp [atKey,List.find?_cons,e']
    rw [valV_pos e,b];exact h2
   ·have e':¬ q.1=k:=fun z=>e (h1.trans z)
    have b:atKey (q :: qs) k=atKey qs k:=by simp [atKey,List.find?_cons,e']
    rw [valV_neg e,b];exact ih
theorem KT.repl {H:Hp} {kvs:List (List Key × V)} {xs:List (List Key × Addr × Value)} (r:KT H kvs xs) (k:List Key) {y:V} {u:Value} (ry:RelV y u) :
 KT H (kvs.map fun kv=>if kv.1=k then (kv.1,y) else kv) (xs.map (putAt k u)):=by
 induction r with
 | nil=>exact .nil
 | @cons p q ps qs h t ih =>
   rw [List.map_cons,List.map_cons]
   refine .cons ?_ ih
   obtain ⟨h1,h2,h3⟩:=h
   unfold putAt
   by_cases e:p.1=k
   ·rw [if_pos e,if_pos (h1.symm.trans e)];exact ⟨h1,h2,ry⟩
   ·rw [if_neg e,if_neg (fun z=>e (h1.trans z))];exact ⟨h1,h2,h3⟩
theorem KT.put {H:Hp} {kvs:List (List Key × V)} {xs:List (List Key × Addr × Value)} (r:KT H kvs xs) (k:List Key) {b:Addr} {y:V} {u:Value} (hb:H b=some (.tup (k.map kV))) (ry:RelV y u) :
 KT H (putK kvs k y) (storedH xs k b u):=by
 have e:(kvs.any fun kv=>decide (kv.1=k))=(atKey xs k).isSome:=by
  rw [valV_any,(r.val k).isSome_eq,Option.isSome_map]
 unfold putK storedH
 rw [e]
 by_cases q:(atKey xs k).isSome=true
 ·rw [if_pos q,if_pos q];exact r.repl k ry
 ·rw [if_neg q,if_neg q];exact Paired.snoc r ⟨rfl,hb,ry⟩
theorem KT.keeps {H H':Hp} {kvs:List (List Key × V)} {xs:List (List Key × Addr × Value)} (r:KT H kvs xs) (ht:∀b ys,H b=some (.tup ys)->H' b=some (.tup ys)):KT H' kvs xs :=
 Paired.mapP r fun _ _ z=>⟨z.1,ht _ _ z.2.1,z.2.2⟩
section
variable {P:Program} {w:World} {H:Hp} {h:Heap} {a:Addr}
theorem rd_of {u:HO} (ok:HOk P w H h) (e:Rd H a u):ObjOk P w H h a u:=e.ok ok
theorem dk_rd {kvs:List (Key × V)} (ok:HOk P w H h) (e:Rd H a (.dK kvs)):kvs.length<=sizeLine/\(a == sysModules)=false/\∃vs,KV kvs vs/\h.DictOf (mixKind P w) a vs :=
 show ObjOk P w H h a (.dK kvs) from rd_of ok e
theorem dk_of {kvs:List (Key × V)} (ok:HOk P w H h) (e:H a=some (.dK kvs)):kvs.length<=sizeLine/\(a == sysModules)=false/\∃vs,KV kvs vs/\h.DictOf (mixKind P w) a vs:=dk_rd ok (.inl e)
theorem key_of {ks:List Key} (ok:HOk P w H h) (e:H a=some (.tup (ks.map kV))):(tupleKind (mixKind P w)).is h ks a:=by
 obtain ⟨_,its,r,o,h1,h2,n,h3⟩:=(show ObjOk P w H h a (.tup (ks.map kV)) from ok a _ e)
 exact ⟨o,its.toArray,n,h1,h2,h3,by simpa using items_are r⟩
theorem dt_rd {kvs:List (List Key × V)} (ok:HOk P w H h) (e:Rd H a (.dT kvs)):kvs.length<=sizeLine/\(a == sysModules)=false /\
 ∃xs,KT H kvs xs/\h.DictOfH (tupleKind (mixKind P w)) a xs:=by
 obtain ⟨z,y,xs,r,o,es,ep,h1,h2,h3,h4,h5⟩:=(show ObjOk P w H h a (.dT kvs) from rd_of ok e)
 refine ⟨z,y,xs,r,o,es,ep,h1,h2,h3,h4,fun x hx=>?_,h5⟩
 have all:∀{l:List (List Key × V)} {m:List (List Key × Addr × Value)},KT H l m->∀x∈m,(tupleKind (mixKind P w)).is h x.1 x.2.1:=by
  intro l m q
  induction q with
  | nil=>intro x hx;exact nomatch hx
  | @cons p q ps qs hq t ih =>
    intro x hx
    rcases List.mem_cons.mp hx with e | hx
    ·subst e
     exact key_of ok (by rw [<- hq.1];exact hq.2.1)
    ·exact ih x hx
 exact all r x hx
theorem dt_of {kvs:List (List Key × V)} (ok:HOk P w H h) (e:H a=some (.dT kvs)):kvs.length<=sizeLine/\(a == sysModules)=false /\
 ∃xs,KT H kvs xs/\h.DictOfH (tupleKind (mixKind P w)) a xs:=dt_rd ok (.inl e)
end
noncomputable def DGet (H:Hp) (a:Addr) (y:V) (r:Option V):Prop :=
 (∃kvs k,Rd H a (.dK kvs)/\y=kV k/\r=valV kvs k)\/∃kvs k b,Rd H a (.dT kvs)/\y=.ref b/\H b=some (.tup (k.map kV))/\r=valV kvs k
noncomputable def DPut (H:Hp) (a:Addr) (y v:V) (H':Hp):Prop :=
 (∃kvs k,H a=some (.dK kvs)/\y=kV k/\kvs.length < sizeLine/\H'=upd H a (.dK (putK kvs k v))) \/
 ∃kvs k b,H a=some (.dT kvs)/\y=.ref b/\H b=some (.tup (k.map kV))/\kvs.length < sizeLine/\H'=upd H a (.dT (putK kvs k v))
theorem DGet.t {H:Hp} {a b:Addr} {kvs:List (List Key × V)} {k:List Key} (e:H a=some (.dT kvs)) (eb:H b=some (.tup (k.map kV))):DGet H a (.ref b) (valV kvs k):=.inr ⟨kvs,k,b,.inl e,rfl,eb,rfl⟩
theorem DPut.t {H:Hp} {a b:Addr} {kvs:List (List Key × V)} {k:List Key} {v:V} (e:H a=some (.dT kvs)) (eb:H b=some (.tup (k.map kV))) (hl:kvs.length < sizeLine) :
 DPut H a (.ref b) v (upd H a (.dT (putK kvs k v))):=.inr ⟨kvs,k,b,e,rfl,eb,hl,rfl⟩
section
variable {X:Cx} {pins:List (Addr × Obj)} {σ:St} {H:Hp} {s:Shared} {a:Addr} {y v:V} {u r:Value} {o:Option V} {A:Around} {E:Value->Shared->Prop}
theorem Inv.big (I:Inv X pins σ H s):sysModules < s.heap.objs.size:=by
 have h:mainGlobals < s.heap.objs.size:=(I.mod.glob.keeps I.bk).lt
 exact Nat.lt_trans (by decide) h
theorem d_getItem {Q:Value->Shared->Prop} (hu:A.units+1 < cLine) (I:Inv X pins σ H s) (g:DGet H a y (some v)) (ry:RelV y u) (h:∀w' s',Inv X pins σ H s'->RelV v w'->Q w' s') :
 wpAny (model X.prog X.w) A (getItem (.ref a) u) Q E s:=by
 rcases g with ⟨kvs,k,e,ey,l⟩ | ⟨kvs,k,b,e,ey,eb,l⟩
 ·subst ey
  obtain ⟨z,hd,vs,rel,dd⟩:=dk_rd I.hok e
  obtain ⟨w',hw,rw'⟩:=RelO.some_of (v:=v) (o:=valueAt vs k) (by rw [l];exact rel.val k)
  exact wpAny_getItem_of (kV_is ry) dd.mapOf hw (h w' _ (I.tok _) rw')
 ·subst ey
  cases (show u=Value.ref b from ry)
  obtain ⟨z,hd,xs,rel,dd⟩:=dt_rd I.hok e
  obtain ⟨w',hw,rw'⟩:=RelO.some_of (v:=v) (o:=(atKey xs k).map (·.2)) (by rw [l];exact rel.val k)
  obtain ⟨p,hp,hp2⟩:=Option.map_eq_some_iff.mp hw
  refine wpAny_getItem_heap (tupleKind_room_in1 hu) (key_of I.hok eb) dd hp ?_
  rw [hp2]
  exact h w' _ (I.tok _) rw'
theorem d_write {h':Heap} {t':Nat} {ob:HO} (I:Inv X pins σ H s) (mu:Mut (H a)) (hs:Heap.SameBut a s.heap h') (he:∃q,h'.get? a=some q) (new:ObjOk X.prog X.w (upd H a ob) h' a ob) :
 Inv X pins σ (upd H a ob) { s with heap:=h',toks:=t' } :=
 I.write (x:=a) (e:=a) mu (.inl rfl) (fun b q hb z=>(hs.2 b hb).trans z) he new
theorem dk_new {P:Program} {w:World} {H':Hp} {h':Heap} {kvs:List (Key × V)} {vs:List (Key × Value)} (z:kvs.length<=sizeLine) (hd:(a == sysModules)=false) (rel:KV kvs vs) (dd:h'.DictOf (mixKind P w) a vs) :
 ObjOk P w H' h' a (.dK kvs):=⟨z,hd,vs,rel,dd⟩
theorem d_setItem {H':Hp} {Q:Unit->Shared->Prop} (hu:A.units+1 < cLine) (I:Inv X pins σ H s) (g:DPut H a y v H') (ry:RelV y u) (rv:RelV v r) (h:∀s',Inv X pins σ H' s'->Q () s') :
 wpAny (model X.prog X.w) A (setItem (.ref a) u r) Q E s:=by
 rcases g with ⟨kvs,k,e,ey,l,eH⟩ | ⟨kvs,k,b,e,ey,eb,l,eH⟩
 ·subst ey eH
  obtain ⟨z,hd,vs,rel,dd⟩:=dk_of I.hok e
  have hz:vs.length<=sizeLine:=by rw [<- rel.length];exact z
  have hl:(putK kvs k v).length<=sizeLine:=by have:=length_putK kvs k v;omega
  refine wpAny_setItem_pairs (hsz:=hz) (kV_is ry) dd fun h' dd' hs=>h _ ?_
  have he:∃q,h'.get? a=some q:=let ⟨q,_,_,hq,_⟩:=dd';⟨q,hq⟩
  exact d_write I (by rw [e];exact True.intro) hs he (dk_new hl hd (rel.put k rv) dd')
 ·subst ey eH
  cases (show u=Value.ref b from ry)
  obtain ⟨z,hd,xs,rel,dd⟩:=dt_of I.hok e
  have hz:xs.length<=sizeLine:=by rw [<- Paired.length rel];exact z
  have hl:(putK kvs k v).length<=sizeLine:=by have:=length_putK kvs k v;omega
  refine wpAny_setItem_heap (hsz:=hz) (tupleKind_room_in1 hu) (key_of I.hok eb) dd fun h' dd' hs=>h _ ?_
  obtain ⟨q,es,ep,hq,h2,h3,h4,_,h5⟩:=dd'
  refine d_write I (by rw [e];exact True.intro) hs ⟨q,hq⟩ ⟨hl,hd,_,(rel.put k eb rv).keeps fun c ys ec=>?_,q,es,ep,hq,h2,h3,h4,h5⟩
  rw [upd_ne (ne_of ec e (fun z=>nomatch z))]
  exact ec
end
section
variable {X:Cx} {pins:List (Addr × Obj)} {σ:St} {H:Hp} {s:Shared} {a:Addr} {kvs:List (Key × V)} {k:Key} {u:Value} {A:Around} {E:Value->Shared->Prop}
end
noncomputable def NoSl (i:Expr):Prop:=∀ov iv,subscripted i false ov iv=operate [ov,iv] (getItem ov iv)
theorem subD_of {prog:Program} {w:World} {A:Around} {E:Value->Shared->Prop} {s:Shared} {env:Env} {value slice:Expr} {pos:Pos} {T id:String} {Q:Value->Shared->Prop}
 (hl:typeLookup (.type T) "__getitem__"=pure (some (.builtin id))) (hs:NoSl slice)
 (h:wpAny (model prog w) A (eval value env) (fun o s₁=>wpAny (model prog w) A (eval slice env) (fun i s₂=>s₂.TypeIs o T/\wpAny (model prog w) A (getItem o i) Q E s₂) E s₁) E s) :
 wpAny (model prog w) A (eval (.Subscript value slice pos) env) Q E s:=by
 refine Subscript_ (wpAny_mono h (fun o s₁ h₁=>wpAny_mono h₁ (fun i s₂ h₂=>?_) fun _ _ x=>x) fun _ _ x=>x)
 obtain ⟨hT,h₂⟩:=h₂
 unfold subscriptTail
 refine wpAny_bind ?_
 rw [getitemInPython_of_ne hT.not_modules]
 refine wpAny_bind (wpAny_specialOf hT hl ?_)
 have fin:wpAny (model prog w) A (subscripted slice false o i) (fun r s₃=>wpAny (model prog w) A (letTemporaryGo value o r >>= fun _=>pure r) Q E s₃) E s₂:=by
  rw [hs o i]
  exact wpAny_operating (wpAny_mono h₂ (fun r s₃ h₃=>wpAny_bind (wpAny_letTemporaryGo (wpAny_pure h₃))) fun _ _ x=>x)
 first
  | exact wpAny_pure (wpAny_bind fin)
  | exact wpAny_bind (wpAny_pure (wpAny_bind fin))
  | exact wpAny_bind fin
theorem dict_typeIs {X:Cx} {pins:List (Addr × Obj)} {σ:St} {H:Hp} {s:Shared} {a:Addr} {y:V} {o:Option V} (I:Inv X pins σ H s) (g:DGet H a y o):s.TypeIs (.ref a) "dict":=by
 rcases g with ⟨kvs,k,e,_,_⟩ | ⟨kvs,k,b,e,_,_,_⟩
 ·obtain ⟨_,_,vs,_,dd⟩:=dk_rd I.hok e
  exact dd.typeIs
 ·obtain ⟨_,_,xs,_,dd⟩:=dt_rd I.hok e
  exact dd.typeIs
noncomputable def tDGet (td ty:TE):TE:=fun σ H Q=>td σ H fun x H1=>ty σ H1 fun y H2=>∃a v,x=.ref a/\DGet H2 a y (some v)/\Q v H2
noncomputable def sDPut (td ty tv:TE):TS:=fun D σ H=>tv σ H fun v H1=>td σ H1 fun x H2=>ty σ H2 fun y H3=>∃a H4,x=.ref a/\DPut H3 a y v H4/\D.nx σ H4
section
variable {X:Cx} {o i e value:Expr} {pos pos' tpos:Pos} {td ty tv:TE}
theorem pe_dget (hu:X.A.units+1 < cLine) (ho:PE X o td) (hi:PE X i ty) (hs:NoSl i):PE X (.Subscript o i pos) (tDGet td ty):=by
 intro pins s σ H Q I h
 refine subD_of PySem.F.slot_dict_getitem.lookup hs (thn (ho pins s σ H _ I h) fun u s1 ⟨x,H1,I1,rx,q1⟩=>thn (hi pins s1 σ H1 _ I1 q1) fun iv s2 ⟨y,H2,I2,ry,a,v,ex,g,q2⟩=>?_)
 subst ex
 obtain rfl:u=Value.ref a:=rx
 exact ⟨dict_typeIs I2 g,d_getItem hu I2 g ry fun w' s3 I3 rw'=>⟨v,H2,I3,rw',q2⟩⟩
theorem ps_dput (hu:X.A.units+1 < cLine) (ho:PE X o td) (hi:PE X i ty) (hv:PE X value tv) (hs:swapsWith value (some (.Subscript o i pos')) pos.line X.env=pure false) :
 PS X (.Assign [.Subscript o i pos'] value pos) (sDPut td ty tv):=by
 intro pins s σ H D I h
 refine wpAny_Assign_Subscript (thn (hv pins s σ H _ I h) fun r s1 ⟨v,H1,I1,rv,q1⟩=>thn (ho pins s1 σ H1 _ I1 q1) fun u s2 ⟨x,H2,I2,rx,q2⟩=>thn (hi pins s2 σ H2 _ I2 q2) fun iv s3 ⟨y,H3,I3,ry,a,H4,ex,g,q3⟩=>?_) hs
 subst ex
 obtain rfl:u=Value.ref a:=rx
 exact d_setItem hu I3 g ry rv fun s4 I4=>⟨σ,H4,I4,q3⟩
end
theorem dk_empty {P:Program} {w:World} {H:Hp} (h:Heap) (hb:sysModules < h.objs.size):ObjOk P w H (h.push { cls:=.type "dict",data:=.dict #[] }) h.objs.size (.dK []) :=
 ⟨Nat.zero_le _,beq_eq_false_iff_ne.mpr (Ne.symm (Nat.ne_of_lt hb)),[],.nil,Heap.DictOf.new h⟩
theorem dt_empty {P:Program} {w:World} {H:Hp} (h:Heap) (hb:sysModules < h.objs.size):ObjOk P w H (h.push { cls:=.type "dict",data:=.dict #[] }) h.objs.size (.dT []) :=
 ⟨Nat.zero_le _,beq_eq_false_iff_ne.mpr (Ne.symm (Nat.ne_of_lt hb)),[],.nil,_,#[],0,Heap.get?_push_size _ rfl,⟨rfl,rfl,rfl⟩,rfl,rfl,List.nodup_nil⟩
noncomputable def tDNewK:TE:=fun _ H Q=>∀p,H p=none->Q (.ref p) (upd H p (.dK []))
noncomputable def tDNewT:TE:=fun _ H Q=>∀p,H p=none->Q (.ref p) (upd H p (.dT []))
section
variable {X:Cx} {pos:Pos}
theorem pe_dnewK:PE X (.Dict [] [] pos) tDNewK:=fun pins s σ H Q I h =>
 wpAny_Dict_empty ⟨.ref s.heap.objs.size,_,I.laid (a:=s.heap.objs.size) (o:=.dK []) (t':=s.toks) (fun _ _ q=>Heap.get?_push_of_some _ q) (Nat.le_refl _) (dk_empty s.heap I.big),rfl,h _ (I.hok.fresh (Nat.le_refl _))⟩
theorem pe_dnewT:PE X (.Dict [] [] pos) tDNewT:=fun pins s σ H Q I h =>
 wpAny_Dict_empty ⟨.ref s.heap.objs.size,_,I.laid (a:=s.heap.objs.size) (o:=.dT []) (t':=s.toks) (fun _ _ q=>Heap.get?_push_of_some _ q) (Nat.le_refl _) (dt_empty s.heap I.big),rfl,h _ (I.hok.fresh (Nat.le_refl _))⟩
end
structure M2 (X:Cx) (o:Expr) (m:Str) (apos:Pos) (e f:Expr) (cpos:Pos):Prop where
 base:attributeBase o m X.env (eval o X.env)=eval o X.env
 few:((backTo cpos (starEach [e,f] X.env)).all (fun x=>!x.1) && (backToKw cpos (keywordEach [] X.env)).all (fun x=>x.1.isSome)
  && decide (([e,f]:List Expr).length+([]:List Keyword).length+(if ([]:List Keyword).isEmpty then 0 else 1) < 30))=true
 line:(apos.endLine == cpos.line)=true
 trees:backTo cpos (starEach [e,f] X.env)=[(false,eval e X.env),(false,eval f X.env)]
noncomputable def IsD (H:Hp) (a:Addr):Prop:=(∃kvs,Rd H a (.dK kvs))\/∃kvs,Rd H a (.dT kvs)
theorem isD_at {X:Cx} {pins:List (Addr × Obj)} {σ:St} {H:Hp} {s:Shared} {a:Addr} (I:Inv X pins σ H s) (d:IsD H a) :
 s.TypeIs (.ref a) "dict"/\(∀b,Value.ref a=.ref b->∃ob,s.heap.get? b=some ob/\ob.dict=none)/\(a == sysModules)=false:=by
 rcases d with ⟨kvs,e⟩ | ⟨kvs,e⟩
 ·obtain ⟨_,hd,vs,_,dd⟩:=dk_rd I.hok e
  refine ⟨dd.typeIs,fun b q=>?_,hd⟩
  cases q
  obtain ⟨ob,_,_,h1,h2,_⟩:=dd
  exact ⟨ob,h1,h2.2.1⟩
 ·obtain ⟨_,hd,xs,_,dd⟩:=dt_rd I.hok e
  refine ⟨dd.typeIs,fun b q=>?_,hd⟩
  cases q
  obtain ⟨ob,_,_,h1,h2,_⟩:=dd
  exact ⟨ob,h1,h2.2.1⟩
section
variable {X:Cx} {pins:List (Addr × Obj)} {σ:St} {H:Hp} {s:Shared} {a:Addr} {y d:V} {u r:Value} {o:Option V} {A:Around} {E:Value->Shared->Prop}
theorem d_get2 {Q:Value->Shared->Prop} (hu:A.units+1 < cLine) (I:Inv X pins σ H s) (g:DGet H a y o) (ry:RelV y u) (rd:RelV d r) (h:∀w' s',Inv X pins σ H s'->RelV (o.getD d) w'->Q w' s') :
 wpAny (model X.prog X.w) A (call (.builtin "dict.get") [.ref a,u,r]) Q E s:=by
 rcases g with ⟨kvs,k,e,ey,l⟩ | ⟨kvs,k,b,e,ey,eb,l⟩
 ·subst ey
  obtain ⟨z,hd,vs,rel,dd⟩:=dk_rd I.hok e
  refine call_meetsIn PySem.F.slot_dict_get dd.typeIs PySem.F.entry_dict_get (PySem.F.args_dict_get_3 _ _ _) (meets_dict_get_default (mixKind X.prog X.w) a (kV_is ry) hd r) ⟨_,dd.mapOf,h _ _ (I.tok _) ?_⟩
  rw [l]
  exact (rel.val k).getD rd
 ·subst ey
  cases (show u=Value.ref b from ry)
  obtain ⟨z,hd,xs,rel,dd⟩:=dt_rd I.hok e
  refine call_meetsIn PySem.F.slot_dict_get dd.typeIs PySem.F.entry_dict_get (PySem.F.args_dict_get_3 _ _ _) (meetsH_dict_get_default (tupleKind (mixKind X.prog X.w)) a b hd r) ⟨tupleKind_room_in1 hu,k,xs,key_of I.hok eb,dd,h _ _ (I.tok _) ?_⟩
  rw [l]
  exact (rel.val k).getD rd
end
noncomputable def tDGet2 (td ty tx:TE):TE:=fun σ H Q=>td σ H fun x H1=>∃a,x=.ref a/\IsD H1 a/\ty σ H1 fun y H2=>tx σ H2 fun z H3=>∃o,DGet H3 a y o/\Q (o.getD z) H3
section
variable {X:Cx} {o e f:Expr} {apos cpos:Pos} {td ty tx:TE}
theorem pe_dget2 (hu:X.A.units+1 < cLine) (ho:PE X o td) (he:PE X e ty) (hf:PE X f tx) (m:M2 X o "get" apos e f cpos):PE X (.Call (.Attribute o "get" apos) [e,f] [] cpos) (tDGet2 td ty tx):=by
 intro pins s σ H Q I h
 refine wpAny_Call_method m.base m.few m.line PySem.F.plainAttrs_dict PySem.F.slot_dict_get PySem.F.type_dict_get (thn (ho pins s σ H _ I h) fun u s1 ⟨x,H1,I1,rx,a,ex,d,q1⟩=>?_)
 subst ex
 obtain rfl:u=Value.ref a:=rx
 obtain ⟨t1,t2,_⟩:=isD_at I1 d
 refine ⟨t1,t2,?_⟩
 rw [m.trees]
 refine Calls.callWith_builtin rfl (Calls.evalArgs_plain (Calls.spliced_cons (thn (he pins s1 σ H1 _ I1 q1) fun iv s2 ⟨y,H2,I2,ry,q2⟩ =>
  Calls.spliced_cons (thn (hf pins s2 σ H2 _ I2 q2) fun fv s3 ⟨z,H3,I3,rz,ov,g,q3⟩=>Calls.spliced_nil ?_))))
 exact d_get2 hu I3 g ry rz fun w' s4 I4 rw'=>⟨_,H3,I4,rw',q3⟩
end
section
variable {X:Cx} {pins:List (Addr × Obj)} {σ:St} {H:Hp} {s:Shared} {a:Addr} {kvs:List (Key × V)} {A:Around} {E:Value->Shared->Prop}
end
section
variable {X:Cx} {pins:List (Addr × Obj)} {σ:St} {H:Hp} {s:Shared} {a:Addr} {y:V} {u:Value} {A:Around} {E:Value->Shared->Prop}
end
end L2
namespace L2
open PySem PySem.Spec PyProof.Rows
section
variable {κ:Type} [DecidableEq κ]
theorem valV_not {kvs:List (κ × V)} {k:κ} (h:valV kvs k=none):¬ k∈kvs.map (·.1):=by
 intro m
 obtain ⟨p,hp,e⟩:=List.mem_map.mp m
 have q:(kvs.any fun kv=>decide (kv.1=k))=true:=List.any_eq_true.mpr ⟨p,hp,decide_eq_true e⟩
 rw [valV_any,h] at q
 exact absurd q (by simp)
theorem valV_in {kvs:List (κ × V)} {k:κ} {v:V} (h:valV kvs k=some v):k∈kvs.map (·.1):=by
 have q:(kvs.any fun kv=>decide (kv.1=k))=true:=by
  rw [valV_any,h]
  all_goals rfl
 obtain ⟨p,hp,e⟩:=List.any_eq_true.mp q
 exact List.mem_map.mpr ⟨p,hp,of_decide_eq_true e⟩
theorem nd_snoc:∀{l:List κ} {k:κ},l.Nodup->¬ k∈l->(l++[k]).Nodup
 | [],k,_,_=>by simp
 | a :: r,k,h,hk=>by
   obtain ⟨h1,h2⟩:=List.nodup_cons.mp h
   show (a :: (r++[k])).Nodup
   refine List.nodup_cons.mpr ⟨fun m=>?_,nd_snoc h2 fun m=>hk (List.mem_cons.mpr (Or.inr m))⟩
   rcases List.mem_append.mp m with q | q
   ·exact h1 q
   ·exact hk (List.mem_cons.mpr (Or.inl (List.mem_singleton.mp q).symm))
theorem nd_putK {kvs:List (κ × V)} {k:κ} (v:V) (hn:(kvs.map (·.1)).Nodup) (h:valV kvs k=none):((putK kvs k v).map (·.1)).Nodup:=by
 rw [putK_new v h,List.map_append]
 exact nd_snoc hn (valV_not h)
end
end L2
namespace L2
open PySem PySem.Spec PyProof.Rows
noncomputable def Sz (n:Nat) (x:Int):Prop:=x.natAbs < 2 ^ n
section
variable {m n:Nat} {x y:Int}
theorem Sz.bits (h:Sz n x):Builtin.Int.intBits x<=n:=intBits_le_iff.mpr h
theorem Sz.of_bits (h:Builtin.Int.intBits x<=n):Sz n x:=intBits_le_iff.mp h
theorem Sz.mono (h:Sz m x) (l:m<=n):Sz n x:=.of_bits (Nat.le_trans h.bits l)
theorem Sz.mul (h:Sz m x) (k:Sz n y):Sz (m+n) (x*y):=.of_bits (intBits_mul_le h.bits k.bits)
theorem Sz.add (h:Sz m x) (k:Sz n y):Sz (max m n+1) (x+y):=.of_bits (intBits_add_le h.bits k.bits)
theorem Sz.sub (h:Sz m x) (k:Sz n y):Sz (max m n+1) (x - y):=.of_bits (intBits_sub_le h.bits k.bits)
theorem Sz.neg (h:Sz m x):Sz m (-x):=.of_bits (intBits_neg_le h.bits)
theorem Sz.fdiv (h:Sz m x):Sz m (x.fdiv y):=.of_bits (intBits_fdiv_le h.bits)
theorem szd (n:Nat) {x:Int} (h:decide (x.natAbs < 2 ^ n)=true:=by decide +kernel):Sz n x:=(show x.natAbs < 2 ^ n from of_decide_eq_true h)
theorem sz_of (h:-(2 ^ n:Nat) < x) (k:x < (2 ^ n:Nat)):Sz n x:=by
 unfold Sz
 generalize 2 ^ n=p at h k ⊢
 omega
end
noncomputable def CMulB (i j:Int):Prop:=∃m n,Sz m i/\Sz n j/\m+n<=134217728
theorem mulB {i j:Int} {m n:Nat} (h:Sz m i) (k:Sz n j) (l:decide (m+n<=134217728)=true:=by decide +kernel):CMulB i j:=⟨m,n,h,k,of_decide_eq_true l⟩
noncomputable def CDivB (_ j:Int):Prop:=j≠0/\Sz 9000 j
section
variable {X:Cx}
theorem op_mulB:OpR X (binaryOp .Mult) (rI CMulB fun i j=>.int (i*j)):=opI fun _ _ _ _ _ _ _ hc q =>
 mul_int q (let ⟨_,_,a,b,c⟩:=hc;IntMulOk.of_le a.bits b.bits c)
theorem op_fdivB:OpR X (binaryOp .FloorDiv) (rI CDivB fun i j=>.int (i.fdiv j)):=opI fun _ j _ _ _ _ _ hc q =>
 floordiv_int hc.1 q (.inl (PyProof.noPylong_of_log2 ((Nat.log2_lt (by have:=hc.1;omega)).mpr hc.2)))
theorem all_eq_ints (ns ms:List Int):((List.range (min ns.length ms.length)).all (fun j=>ns.getD j 0 == ms.getD j 0) && ns.length == ms.length)=decide (ns=ms):=by
 rw [Bool.eq_iff_iff]
 simp only [Bool.and_eq_true,List.all_eq_true,List.mem_range,beq_iff_eq,decide_eq_true_eq]
 constructor
 ·rintro ⟨h,l⟩
  refine List.ext_getElem l fun i h1 h2=>?_
  have:=h i (by omega)
  simpa [List.getD_eq_getElem?_getD,h1,h2] using this
 ·rintro rfl
  exact ⟨fun _ _=>rfl,rfl⟩
theorem op_eqT (hu:X.A.units < cLine):OpR X (compareOp .Eq) (fun x y H Q=>∃(a b:Addr) (ns ms:List Int),x=.ref a/\y=.ref b/\SqT X.K H a (ns.map V.int)/\SqT X.K H b (ms.map V.int)/\Q (.bl (decide (ns=ms))) H):=by
 intro pins s σ H x y v u Q I rx ry h
 obtain ⟨a,b,ns,ms,rfl,rfl,ha,hb,q⟩:=h
 cases rx
 cases ry
 obtain ⟨its,rv,ht,_⟩:=I.tuple ha
 obtain ⟨its2,rv2,ht2,_⟩:=I.tuple hb
 have l1:ns.length=its.length:=by rw [<- rv.length,List.length_map]
 have l2:ms.length=its2.length:=by rw [<- rv2.length,List.length_map]
 refine SeqAt.eq_tupleAt (e:=fun j=>ns.getD j 0 == ms.getD j 0) (show s.heap.IsTuple a its.toArray from ht) (show s.heap.IsTuple b its2.toArray from ht2) hu (fun j h1 h2=>?_) ?_
 ·have h1':j < ns.length:=by rw [l1];simpa using h1
  have h2':j < ms.length:=by rw [l2];simpa using h2
  obtain ⟨u1,e1,r1⟩:=rv.get (i:=j) (x:=.int ns[j]) (by rw [List.getElem?_map,List.getElem?_eq_getElem h1'] <;> rfl)
  obtain ⟨u2,e2,r2⟩:=rv2.get (i:=j) (x:=.int ms[j]) (by rw [List.getElem?_map,List.getElem?_eq_getElem h2'] <;> rfl)
  obtain ⟨t1,rfl⟩:=r1
  obtain ⟨t2,rfl⟩:=r2
  have f1:its.toArray[j]=.int ns[j] t1:=by
   have:=(List.getElem?_eq_some_iff.mp e1).2
   simpa using this
  have f2:its2.toArray[j]=.int ms[j] t2:=by
   have:=(List.getElem?_eq_some_iff.mp e2).2
   simpa using this
  rw [f1,f2]
  have g1:ns.getD j 0=ns[j]:=by simp [List.getD_eq_getElem?_getD,h1']
  have g2:ms.getD j 0=ms[j]:=by simp [List.getD_eq_getElem?_getD,h2']
  show SeqAt.EqAt X.A.in1 s (.int ns[j] t1) (.int ms[j] t2) (ns.getD j 0 == ms.getD j 0)
  rw [g1,g2]
  exact SeqAt.EqAt.int_int _ _ _ _
 ·have e:((List.range (min its.toArray.size its2.toArray.size)).all (fun j=>ns.getD j 0 == ms.getD j 0) && its.toArray.size == its2.toArray.size)=decide (ns=ms):=by
   rw [List.size_toArray,List.size_toArray,<- l1,<- l2]
   exact all_eq_ints ns ms
  rw [e]
  exact ⟨.bl _,H,I,rfl,q⟩
theorem call_isi:CallR X (.builtin "isinstance") (fun xs H Q=>∃x t c b,xs=[x,.ty c]/\TyOf X.K H x t/\PySem.W.kitOne X.K t (.type c)=some b/\Q (.bl b) H):=by
 intro pins s σ H xs us Q I rv h
 obtain ⟨x,t,c,b,rfl,ty,e,q⟩:=h
 obtain ⟨u,u',rfl,r1,r2⟩:=vals2 rv
 cases (show u'=Value.type c from r2)
 exact isinst_ok I r1 ty e fun tk=>⟨.bl b,H,I.tok tk,rfl,q⟩
end
section
variable {K:PySem.W.Frag}
theorem kit_int_int:PySem.W.kitOne K (.type "int") (.type "int")=some true:=by
 show (if ((Value.type "int") == (Value.type "int"))=true then some true else (if PySem.W.kitMeta "int"=true then (PySem.fastBuiltinMro "int").map (·.contains (Value.type "int")) else none))=some true
 decide +kernel
theorem kit_int_bool:PySem.W.kitOne K (.type "int") (.type "bool")=some false:=by
 show (if ((Value.type "int") == (Value.type "bool"))=true then some true else (if PySem.W.kitMeta "bool"=true then (PySem.fastBuiltinMro "int").map (·.contains (Value.type "bool")) else none))=some false
 decide +kernel
theorem kit_bool_bool:PySem.W.kitOne K (.type "bool") (.type "bool")=some true:=by
 show (if ((Value.type "bool") == (Value.type "bool"))=true then some true else (if PySem.W.kitMeta "bool"=true then (PySem.fastBuiltinMro "bool").map (·.contains (Value.type "bool")) else none))=some true
 decide +kernel
theorem kit_tuple_tuple:PySem.W.kitOne K (.type "tuple") (.type "tuple")=some true:=by
 show (if ((Value.type "tuple") == (Value.type "tuple"))=true then some true else (if PySem.W.kitMeta "tuple"=true then (PySem.fastBuiltinMro "tuple").map (·.contains (Value.type "tuple")) else none))=some true
 decide +kernel
theorem kit_list_list:PySem.W.kitOne K (.type "list") (.type "list")=some true:=by
 show (if ((Value.type "list") == (Value.type "list"))=true then some true else (if PySem.W.kitMeta "list"=true then (PySem.fastBuiltinMro "list").map (·.contains (Value.type "list")) else none))=some true
 decide +kernel
end
noncomputable def tIfJ (c:TT) (t u:TS):TS:=fun D σ H=>∃M:St->Hp->Prop,(c σ H fun b H1=>if b=true then t { D with nx:=M } σ H1 else u { D with nx:=M } σ H1)/\∀σ' H',M σ' H'->D.nx σ' H'
theorem ps_ifJ {X:Cx} {c:Expr} {a b:List Stmt} {tc:TT} {t u:TS} {pos:Pos} (hc:PT X c tc) (ha:PSs X a t) (hb:PSs X b u):PS X (.If c a b pos) (tIfJ tc t u):=by
 intro pins s σ H D I h
 obtain ⟨M,h,hM⟩:=h
 have up:∀(f:Flow) (s':Shared),SP X pins { D with nx:=M } f s'->SP X pins D f s':=fun f s' q=>by
  cases f with
  | next =>
    obtain ⟨σ',H',I',q⟩:=q
    exact ⟨σ',H',I',hM σ' H' q⟩
  | ret v=>exact q
  | brk=>exact q
  | cont=>exact q
 refine wpAny_If (thn (hc pins s σ H _ I h) fun d s1 ⟨H1,I1,q1⟩=>?_)
 cases d with
 | true=>exact thn (ha pins s1 σ H1 _ I1 q1) up
 | false=>exact thn (hb pins s1 σ H1 _ I1 q1) up
theorem cpow40:CPow 10 40:=⟨by decide,by decide,by decide⟩
theorem small63 {n:Nat} (h:n<=1000):n<=sizeLine:=Nat.le_of_lt (small1000 h)
theorem item_at {ns:List Int} {k:Int} (h0:0<=k) (h:k < (ns.length:Int)):∃v:Int,atI (ns.map V.int) k=some (.int v):=by
 have hk:k.toNat < ns.length:=by omega
 have ek:k=((k.toNat:Nat):Int):=by omega
 have q:atI (ns.map V.int) ((k.toNat:Nat):Int)=some (.int ns[k.toNat]):=atI_nat (by rw [List.getElem?_map,List.getElem?_eq_getElem hk] <;> rfl)
 rw [<- ek] at q
 exact ⟨_,q⟩
end L2
namespace L2
open PySem PySem.Spec PyProof.Rows
noncomputable def Cx.inComp (X:Cx) (Nc:List Str) (sc:Scope) (cl:List (Str × Addr)) (s:Shared) (H:Hp) (ex:List Addr):Cx :=
 { X with N:=Nc,s₀:=s,H₀:=H,env:=compEnvC sc cl s.heap.objs.size X.env,outer:=X.stack,stack:=X.stack,ex:=ex,fn:=fun _=>false,pn:=[],xe:=fun _ _=>False }
theorem closure_go {env:Env} {f:Str × NameKind->List (Str × Addr)->Sem (ForInStep (List (Str × Addr)))}
 (hf:∀n k r,f (n,k) r=if (k == NameKind.free)=true then (cellOf env n >>= fun c=>pure (ForInStep.yield ((n,c) :: r))) else pure (ForInStep.yield r)) :
 ∀(l:List (Str × NameKind)) (cs:List (Str × Addr)),(∀x∈l,x.2=.free->∃c,env.cells.lookup x.1=some c) ->
  ∃cl,(forIn l cs f:Sem (List (Str × Addr)))=pure cl/\(∀p∈cl,p∈cs\/env.cells.lookup p.1=some p.2)/\(∀p∈cs,p∈cl)/\∀x∈l,x.2=.free->∃c,(x.1,c)∈cl:=by
 intro l
 induction l with
 | nil =>
   intro cs _
   exact ⟨cs,by rw [List.forIn_nil],fun p hp=>.inl hp,fun p hp=>hp,fun x hx=>absurd hx (by simp)⟩
 | cons y r ih =>
   intro cs h
   obtain ⟨n,k⟩:=y
   by_cases hk:k=.free
   ·subst hk
    obtain ⟨c,hc⟩:=h (n,.free) (by simp) rfl
    have e:cellOf env n=pure c:=by
     unfold cellOf
     rw [show env.cells.lookup n=some c from hc]
    obtain ⟨cl,h1,h2,h3,h4⟩:=ih ((n,c) :: cs) fun x hx=>h x (List.mem_cons_of_mem _ hx)
    refine ⟨cl,?_,fun p hp=>?_,fun p hp=>h3 p (List.mem_cons_of_mem _ hp),fun x hx hf'=>?_⟩
    ·rw [List.forIn_cons,hf,if_pos (by decide),e]
     simp only [pure_bind]
     exact h1
    ·rcases h2 p hp with z | z
     ·rcases List.mem_cons.mp z with z | z
      ·subst z;exact .inr hc
      ·exact .inl z
     ·exact .inr z
    ·rcases List.mem_cons.mp hx with z | z
     ·subst z;exact ⟨c,h3 _ (by simp)⟩
     ·exact h4 x z hf'
   ·have hb:(k == NameKind.free)=false:=by simpa using hk
    obtain ⟨cl,h1,h2,h3,h4⟩:=ih cs fun x hx=>h x (List.mem_cons_of_mem _ hx)
    refine ⟨cl,?_,h2,h3,fun x hx hf'=>?_⟩
    ·rw [List.forIn_cons,hf,hb,if_neg (by decide)]
     simp only [pure_bind]
     exact h1
    ·rcases List.mem_cons.mp hx with z | z
     ·subst z;exact absurd hf' hk
     ·exact h4 x z hf'
theorem lookup_has {α:Type}:∀{l:List (Str × α)} {n:Str} {c:α},(n,c)∈l->∃d,l.lookup n=some d
 | (k,v) :: r,n,c,h=>by
   rw [List.lookup_cons]
   cases hx:(n == k) with
   | true=>exact ⟨v,rfl⟩
   | false =>
     rcases List.mem_cons.mp h with z | z
     ·cases z
      simp at hx
     ·exact lookup_has z
theorem closure_ok {env:Env} {sc:Scope} (h:∀x∈sc.names,x.2=.free->∃c,env.cells.lookup x.1=some c) :
 ∃cl,closureFor sc env=pure cl/\(∀y c,cl.lookup y=some c->env.cells.lookup y=some c)/\∀x∈sc.names,x.2=.free->∃c,cl.lookup x.1=some c:=by
 obtain ⟨cl,h1,h2,_,h4⟩:=closure_go (env:=env) (f:=fun x r=>if (x.2 == NameKind.free)=true then (cellOf env x.1 >>= fun c=>pure (ForInStep.yield ((x.1,c) :: r))) else pure (ForInStep.yield r)) (fun _ _ _=>rfl) sc.names [] h
 refine ⟨cl,?_,fun y c e=>?_,fun x hx hf=>?_⟩
 ·unfold closureFor
  have:(forIn sc.names ([]:List (Str × Addr)) fun x r=>(match x with | (name,kind)=>if (kind == NameKind.free)=true then (do let __do_lift <- cellOf env name;pure (ForInStep.yield ((name,__do_lift) :: r))) else pure (ForInStep.yield r)):Sem (List (Str × Addr)))=pure cl:=h1
  first
   | (simp only [this,pure_bind];done)
   | (simp only [h1,pure_bind];done)
   | (rw [show (forIn sc.names ([]:List (Str × Addr)) _:Sem (List (Str × Addr)))=pure cl from h1];rfl)
 ·rcases h2 (y,c) (PySem.mem_of_lookup e) with z | z
  ·exact absurd z (by simp)
  ·exact z
 ·obtain ⟨c,hc⟩:=h4 x hx hf
  exact lookup_has hc
theorem lookup_relabel (env:Env):∀(names:List (Str × NameKind)) (y:Str),
 (names.map fun (n,k)=>if (k == NameKind.free && env.scope.kind == .function && env.kindOf n == some .cell) then (n,NameKind.cell) else (n,k)).lookup y
  = (names.lookup y).map fun k=>if (k == NameKind.free && env.scope.kind == .function && env.kindOf y == some .cell) then NameKind.cell else k
 | [],y=>rfl
 | (n,k) :: r,y=>by
   have ih:=lookup_relabel env r y
   rw [List.map_cons]
   dsimp only
   cases hx:(y == n) with
   | true =>
     have e:y=n:=by simpa using hx
     subst e
     by_cases c:(k == NameKind.free && env.scope.kind == .function && env.kindOf y == some .cell)=true
     ·rw [if_pos c];simp only [List.lookup_cons,hx,Option.map_some];rw [if_pos c]
     ·rw [if_neg c];simp only [List.lookup_cons,hx,Option.map_some];rw [if_neg c]
   | false =>
     by_cases c:(k == NameKind.free && env.scope.kind == .function && env.kindOf n == some .cell)=true
     ·rw [if_pos c];simp only [List.lookup_cons,hx];exact ih
     ·rw [if_neg c];simp only [List.lookup_cons,hx];exact ih
noncomputable def PIfs (X:Cx) (ifs:List Expr) (t:TT):Prop :=
 ∀(pins:List (Addr × Obj)) (s:Shared) (σ:St) (H:Hp) (Q:Bool->Hp->Prop),Inv X pins σ H s->t σ H Q ->
  wpAny (model X.prog X.w) X.A (forIn ifs true fun c r=>if r=true then do let ok <- isTrue c X.env (eval c X.env);pure (ForInStep.yield ok) else pure (ForInStep.yield r)) (TP X pins σ Q) X.xe s
noncomputable def tYes:TT:=fun _ H Q=>Q true H
theorem yes {σ:St} {H:Hp} {Q:Bool->Hp->Prop} (h:Q true H):tYes σ H Q:=h
theorem pif_nil {X:Cx}:PIfs X [] tYes:=by
 intro pins s σ H Q I h
 rw [List.forIn_nil]
 exact wpAny_pure ⟨H,I,h⟩
theorem pif_one {X:Cx} {c:Expr} {t:TT} (hc:PT X c t):PIfs X [c] t:=by
 intro pins s σ H Q I h
 rw [List.forIn_cons,if_pos rfl]
 refine wpAny_bind (wpAny_bind (thn (hc pins s σ H Q I h) fun b s1 q=>wpAny_pure ?_))
 dsimp only
 rw [List.forIn_nil]
 exact wpAny_pure q
theorem thnF {α:Type} {t:Sem α} {Q Q':α->Shared->Prop} {M:Model} {A:Around} {E:Value->Shared->Prop} {s:Shared} (h:wpAny M A t Q (fun _ _=>False) s) (hQ:∀a s,Q a s->Q' a s):wpAny M A t Q' E s:=wpAny_mono h hQ fun _ _ z=>z.elim
noncomputable def tComp (wi:TI) (tt:TT) (te:TE):TE:=fun σ H Q=>wi σ H fun J H1=>∀D,H1 D=none->∃W:Nat->Nat->List V->Hp->Prop,(∃m,W 0 m [] (upd H1 D (.lst [])))/\∀i m ys H2,W i m ys H2 ->
 H2 D=some (.lst ys)/\((J.stop i H2/\Q (.ref D) H2)\/(J.go i H2/\ys.length < sizeLine/\∀x H3,J.yld i H2 x H3->tt (σ++[some x]) H3 fun b H4=>if b=true then te (σ++[some x]) H4 fun y H5=>H5 D=some (.lst ys)/\∃m',m' < m/\W (i+1) m' (ys++[y]) (upd H5 D (.lst (ys++[y])))
  else ∃m',m' < m/\W (i+1) m' ys H4))
structure CompN (N Nc:List Str) (x:Str) (sc fsc:Scope):Prop where
 kind:sc.kind=.function
 cell:∀y∈sc.names,y.2≠.cell
 nm:∀y∈sc.names,y.2=.local->sc.names.lookup y.1=some .local
 own:sc.names.lookup x=some .local
 fr:∀y∈sc.names,y.2=.free->fsc.names.lookup y.1=some .cell\/fsc.names.lookup y.1=some .free
 len:Nc.length=N.length+1
 nd:Nc.Nodup
 last:Nc[N.length]?=some x
 slot:((List.range N.length).all fun i=>match Nc[i]? with
  | some y=>(match sc.names.lookup y with | some .free=>N[i]? == some y | some .local=>false | some .cell=>false | _=>true)
  | none=>true)=true
theorem CompN.at {N Nc:List Str} {x:Str} {sc fsc:Scope} (C:CompN N Nc x sc fsc) {i:Nat} {y:Str} (hi:i < N.length) (h:Nc[i]?=some y):sc.names.lookup y≠some .local/\sc.names.lookup y≠some .cell/\(sc.names.lookup y=some .free->N[i]?=some y):=by
 have q:=List.all_eq_true.mp C.slot i (List.mem_range.mpr hi)
 rw [h] at q
 dsimp only at q
 cases e:sc.names.lookup y with
 | none=>exact ⟨fun z=>(nomatch z),fun z=>(nomatch z),fun z=>(nomatch z)⟩
 | some k =>
   rw [e] at q
   cases k with
   | «local»=>exact absurd (show false=true from q) Bool.false_ne_true
   | cell=>exact absurd (show false=true from q) Bool.false_ne_true
   | free=>exact ⟨fun z=>(nomatch z),fun z=>(nomatch z),fun _=>by simpa using q⟩
   | _=>exact ⟨fun z=>(nomatch z),fun z=>(nomatch z),fun z=>(nomatch z)⟩
section
variable {X:Cx} {elt iter:Expr} {x:Str} {px pos:Pos} {ifs:List Expr} {sc fsc:Scope} {N Nc:List Str} {wi:TI} {tt:TT} {te:TE}
structure CLoc (X:Cx) (pins:List (Addr × Obj)) (H:Hp) (C:Addr):Prop where
 free:H C=none
 ne:C≠X.env.locals
 new:X.s₀.heap.objs.size<=C
 cells:∀x c,X.env.cells.lookup x=some c->c≠C
 pins:∀p∈X.pn++pins,p.1≠C
theorem Inv.sameBut {pins:List (Addr × Obj)} {σ:St} {H:Hp} {s:Shared} {C:Addr} {h':Heap} (I:Inv X pins σ H s) (c:CLoc X pins H C) (k:Heap.SameBut C s.heap h'):Inv X pins σ H { s with heap:=h' } :=
 I.turned (t':=s.toks) (it:=C) (fun b o hb e=>(k.2 b hb).trans e) c.free c.ne (.inr c.new) c.cells c.pins
theorem set_last {σ:St} {o v:Option V}:(σ++[o]).set σ.length v=σ++[v]:=by
 rw [List.set_append_right _ _ (Nat.le_refl _),Nat.sub_self]
 rfl
theorem comp_core (hE:X.env.scope=fsc) (hXN:X.N=N) (cn:CompN N Nc x sc fsc) (hc:X.calm=true)
 (ht:∀cl s H ex,PIfs (X.inComp Nc sc cl s H ex) ifs tt) (he:∀cl s H ex,PE (X.inComp Nc sc cl s H ex) elt te)
 {cl:List (Str × Addr)} (clS:∀y c,cl.lookup y=some c->X.env.cells.lookup y=some c) (clH:∀y∈sc.names,y.2=.free->∃c,cl.lookup y.1=some c)
 {pins:List (Addr × Obj)} {σ:St} {H2:Hp} {s2:Shared} {it:Addr} {fp:List Addr} {tn:Nat->Heap->Prop} {J:It} {Q:VK} {E:Value->Shared->Prop}
 (I2:Inv X pins σ H2 s2) (T:Turn X.prog X.w X.K (.Name x px) J fp it tn) (st2:tn 0 s2.heap) (f2:∀b∈fp,FpOk X pins H2 b)
 (h2:∀D,H2 D=none->∃W:Nat->Nat->List V->Hp->Prop,(∃m,W 0 m [] (upd H2 D (.lst [])))/\∀i m ys H2,W i m ys H2 ->
  H2 D=some (.lst ys)/\((J.stop i H2/\Q (.ref D) H2)\/(J.go i H2/\ys.length < sizeLine/\∀x H3,J.yld i H2 x H3->tt (σ++[some x]) H3 fun b H4=>if b=true then te (σ++[some x]) H4 fun y H5=>H5 D=some (.lst ys)/\∃m',m' < m/\W (i+1) m' (ys++[y]) (upd H5 D (.lst (ys++[y])))
   else ∃m',m' < m/\W (i+1) m' ys H4))) :
 wpAny (model X.prog X.w) X.A (newList []) (fun acc s₃=>wpAny (model X.prog X.w) X.A (newFunctionEnv sc X.env.globals cl [] X.env.qual none .none (some X.env)) (fun cenv s₄ =>
  codeAny (model X.prog X.w) X.A (.compStart (.ListComp elt [⟨.Name x px,iter,ifs,0⟩] sc pos) 0 (.ref it) acc { cenv with scope:=relabel sc X.env })
   (fun r s'=>r=.ok .next/\∃D H',acc=.ref D/\Inv X pins σ H' s'/\Q (.ref D) H'/\CLoc X pins H' cenv.locals/\∃m,s'.heap.Ns cenv.locals m) s₄) E s₃) E s2:=by
 refine wpAny_newObj_type (wpAny_newFunctionEnv cn.cell (by intro y hy;simp at hy) (fun h₁ hns₁ hsb₁=>?_) cn.kind)
 dsimp only at hns₁ hsb₁ ⊢
 have hD:H2 s2.heap.objs.size=none:=I2.hok.fresh (Nat.le_refl _)
 obtain ⟨W,⟨m0,w0⟩,turn⟩:=h2 s2.heap.objs.size hD
 have I3:Inv X pins σ (upd H2 s2.heap.objs.size (.lst [])) { s2 with heap:=s2.heap.push { cls:=.type "list",dict:=none,data:=.seq ([]:List Value).toArray } } :=
  I2.laid (t':=s2.toks) (fun b u e=>Heap.get?_push_of_some _ e) (Nat.le_refl _) ⟨Nat.zero_le _,[],0,.nil,Heap.get?_push_size _ rfl⟩
 generalize hs3:({ s2 with heap:=s2.heap.push { cls:=.type "list",dict:=none,data:=.seq ([]:List Value).toArray } }:Shared)=s3 at I3
 have eh:s3.heap=s2.heap.push { cls:=.type "list",dict:=none,data:=.seq ([]:List Value).toArray }:=by rw [<- hs3]
 have e2:({ s2 with heap:=h₁,toks:=s2.toks+([]:List (Str × Value)).length }:Shared)={ s3 with heap:=h₁,toks:=s3.toks }:=by rw [<- hs3];rfl
 generalize hH3:upd H2 s2.heap.objs.size (.lst [])=H3 at I3 w0
 rw [<- eh] at hns₁ hsb₁ ⊢
 rw [e2]
 have below2:∀b,b∈fp->b < s3.heap.objs.size:=fun b hb=>by
  obtain ⟨o,e,_⟩:=T.obj _ _ st2 b hb
  have:s2.heap.objs.size<=s3.heap.objs.size:=by rw [eh,Heap.size_push];exact Nat.le_succ _
  exact Nat.lt_of_lt_of_le (Heap.lt_size e) this
 have old:∀b o,s3.heap.get? b=some o->h₁.get? b=some o:=fun b o e=>(hsb₁.2 b (Nat.ne_of_lt (Heap.lt_size e))).trans (Heap.get?_push_of_some _ e)
 have old2:∀b o,s2.heap.get? b=some o->s3.heap.get? b=some o:=fun b o e=>by rw [eh];exact Heap.get?_push_of_some _ e
 have hsz3:s2.heap.objs.size < s3.heap.objs.size:=by rw [eh,Heap.size_push];exact Nat.lt_succ_self _
 have fpFree:∀b∈fp,H3 b=none:=fun b hb=>by
  rw [<- hH3,upd_ne (fun z=>?_)]
  ·exact (f2 b hb).1
  ·obtain ⟨o,e,_⟩:=T.obj _ _ st2 b hb
   have:=Heap.lt_size e
   rw [z] at this
   exact Nat.lt_irrefl _ this
 have rl:∀y,(relabel sc X.env).names.lookup y=(sc.names.lookup y).map fun k=>if (k == NameKind.free && X.env.scope.kind == .function && X.env.kindOf y == some .cell) then NameKind.cell else k:=fun y=>lookup_relabel X.env sc.names y
 have freeOf:∀y,sc.names.lookup y=some .free->∃c,cl.lookup y=some c:=fun y e=>clH (y,.free) (PySem.mem_of_lookup e) rfl
 have noCell:∀y,sc.names.lookup y≠some .cell:=fun y e=>cn.cell (y,.cell) (PySem.mem_of_lookup e) rfl
 have isFree:∀y,((relabel sc X.env).names.lookup y=some .cell\/(relabel sc X.env).names.lookup y=some .free)->sc.names.lookup y=some .free:=fun y h=>by
  rw [rl y] at h
  cases e:sc.names.lookup y with
  | none=>rw [e] at h;rcases h with z | z <;> exact absurd z (by simp)
  | some k =>
    rw [e] at h
    cases k with
    | free=>rfl
    | cell=>exact absurd e (noCell y)
    | «local»=>rcases h with z | z <;> exact absurd z (by simp)
    | _=>rcases h with z | z <;> exact absurd z (by simp)
 have ownLoc:(relabel sc X.env).names.lookup x=some .local:=by rw [rl x,cn.own];rfl
 have exOk:∀b∈fp,b≠s3.heap.objs.size/\(∀y c,X.env.cells.lookup y=some c->c≠b)/\b ∉ frs X.stack:=fun b hb=>by
  obtain ⟨g0,g1,g2,g3,g4,g5⟩:=f2 b hb
  refine ⟨Nat.ne_of_lt (below2 b hb),g4,fun z=>?_⟩
  rcases List.mem_cons.mp (I2.stkSub b z) with z | z
  ·exact g1 z
  ·exact g2 z
 have hCnew:X.s₀.heap.objs.size<=s3.heap.objs.size:=I3.sz
 have hCcell:∀y c,X.env.cells.lookup y=some c->c≠s3.heap.objs.size:=fun y c e z=>by
  obtain ⟨v,q⟩:=I3.cell y c e
  have:=q.lt
  rw [z] at this
  exact Nat.lt_irrefl _ this
 have hCpin:∀p∈X.pn++pins,p.1≠s3.heap.objs.size:=fun p hp z=>by
  have:=Heap.lt_size (I3.pin p hp).1
  rw [z] at this
  exact Nat.lt_irrefl _ this
 have okc:(X.inComp Nc sc cl s3 H3 fp).Ok:=by
  refine ⟨I3.ok.mod,cn.kind,I3.ok.glob,I3.ok.blt,Nat.le_refl _,fun y z c h1 h2=>I3.ok.inj y z c (clS y c h1) (clS z c h2),fun y hy=>freeOf y (isFree y hy),fun y c hf=>absurd (show false=true from hf) Bool.false_ne_true,I3.ok.hd,I3.ok.frames,.inl rfl,
   fun b hb=>⟨(exOk b hb).1,fun y c e=>(exOk b hb).2.1 y c (clS y c e)⟩,fun b o e=>I3.bs b o e,Nat.le_trans I3.ok.bsz I3.sz,fun b o e hb=>?_,fun b hb=>(exOk b hb).2.2,I3.stack,I3.stkFree⟩
  obtain ⟨g0,g1,g2,g3,g4,g5⟩:=f2 b hb
  rcases g3 with z | z
  ·exact I3.ok.noex b o e z
  ·exact absurd (Heap.lt_size (I3.ok.bs b o e).1) (Nat.not_lt.mpr z)
 have hlen:σ.length=N.length:=by rw [I3.len,hXN]
 have Ic:Inv (X.inComp Nc sc cl s3 H3 fp) [] (σ++[none]) H3 { s3 with heap:=h₁,toks:=s3.toks }:=by
  refine ⟨okc,rfl,I3.bare,Un.kept old,⟨_,hns₁,fun i y v h1 h2 h3=>?_⟩,fun y c e=>?_,I3.hok.fresh (Nat.le_refl _),fun y c e=>I3.freeC y c (clS y c e),fun p hp=>absurd (show p∈([]:List (Addr × Obj)) from hp) (by simp),I3.hok.kept old,?_⟩
  ·have hi:i < σ.length:=by
    by_cases hi:i < σ.length
    ·exact hi
    ·rw [List.getElem?_append_right (Nat.not_lt.mp hi)] at h2
     cases e:i - σ.length with
     | zero=>rw [e] at h2;cases h2
     | succ k=>rw [e] at h2;simp at h2
   rw [List.getElem?_append_left hi] at h2
   have hi':i < N.length:=by rw [<- hlen];exact hi
   obtain ⟨n1,n2,n3⟩:=cn.at hi' h1
   have hf:sc.names.lookup y=some .free:=by
    rcases h3 with z | z
    ·exfalso
     have z':(relabel sc X.env).names.lookup y=some .local:=z
     rw [rl y] at z'
     cases e:sc.names.lookup y with
     | none=>rw [e] at z';simp at z'
     | some k =>
       rw [e] at z'
       cases k with
       | «local»=>exact n1 e
       | cell=>exact n2 e
       | free =>
         simp only [Option.map_some,Option.some.injEq] at z'
         split at z' <;> cases z'
       | _=>simp at z'
    ·exact isFree y z
   have hN:X.N[i]?=some y:=by rw [hXN];exact n3 hf
   obtain ⟨m,hn,hl⟩:=I3.loc
   have hv:fsc.names.lookup y=some .cell\/fsc.names.lookup y=some .free:=cn.fr (y,.free) (PySem.mem_of_lookup hf) rfl
   have hv':X.env.scope.names.lookup y=some .cell\/X.env.scope.names.lookup y=some .free:=by rw [hE];exact hv
   obtain ⟨u,ru,lk⟩:=hl i y v hN h2 (.inr hv')
   refine ⟨u,ru,.inr ⟨?_,?_⟩⟩
   ·show (relabel sc X.env).names.lookup y=some .cell\/(relabel sc X.env).names.lookup y=some .free
    rw [rl y,hf]
    simp only [Option.map_some,Option.some.injEq]
    split
    ·exact .inl rfl
    ·exact .inr rfl
   ·rcases lk with ⟨kl,_⟩ | ⟨_,c,hc,hcell⟩
    ·exfalso
     have kl':X.env.scope.names.lookup y=some .local:=kl
     rw [kl'] at hv'
     rcases hv' with z | z <;> cases z
    ·obtain ⟨d,hd⟩:=freeOf y hf
     have ed:=clS y d hd
     rw [hc] at ed
     cases ed
     exact ⟨c,hd,hcell.keeps old⟩
  ·obtain ⟨v,q⟩:=I3.cell y c (clS y c e)
   exact ⟨v,q.keeps old⟩
  ·show (σ++[none]).length=Nc.length
   rw [List.length_append,hlen,cn.len]
   rfl
 have stc:tn 0 ({ s3 with heap:=h₁,toks:=s3.toks }:Shared).heap:=T.keep _ _ _ st2 fun b _ o e=>old b o (old2 b o e)
 have hDf:s2.heap.objs.size ∉ fp:=fun hm=>by
  obtain ⟨o,e,_⟩:=T.obj _ _ st2 _ hm
  exact Nat.lt_irrefl _ (Heap.lt_size e)
 have fpc:∀{pins':List (Addr × Obj)} {H':Hp},pins'=[]->(∀b∈fp,H' b=none)->∀b∈fp,FpOk (X.inComp Nc sc cl s3 H3 fp) pins' H' b:=fun {pins' H'} hp hn b hb=>by
  subst hp
  exact ⟨hn b hb,(exOk b hb).1,(exOk b hb).2.2,.inl hb,fun y c e=>(exOk b hb).2.1 y c (clS y c e),fun p hp=>absurd (show p∈([]:List (Addr × Obj)) from hp) (by simp)⟩
 have hg:PG (X.inComp Nc sc cl s3 H3 fp) (.Name x px) (gName σ.length):=pg_name (X:=X.inComp Nc sc cl s3 H3 fp) cn.nd (by show Nc[σ.length]?=some x;rw [hlen];exact cn.last) (.inl ownLoc) (.inr ownLoc)
 have loop:∀s₄:Shared,s₄={ s3 with heap:=h₁,toks:=s3.toks } ->
  codeAny (model X.prog X.w) X.A (.compLoop (.ListComp elt [⟨.Name x px,iter,ifs,0⟩] sc pos) 0 (.ref it) (.ref s2.heap.objs.size) (compEnvC sc cl s3.heap.objs.size X.env))
   (fun r s'=>r=.ok .next/\∃D H',(Value.ref s2.heap.objs.size)=.ref D/\Inv X pins σ H' s'/\Q (.ref D) H'/\CLoc X pins H' s3.heap.objs.size/\∃m,s'.heap.Ns s3.heap.objs.size m) s₄:=by
  rintro s₄ rfl
  refine codeAny_compLoop_tests (fun n s'=>∃(i:Nat) (o:Option V) (H':Hp) (ys:List V),Inv (X.inComp Nc sc cl s3 H3 fp) [] (σ++[o]) H' s'/\tn i s'.heap/\(∀b∈fp,H' b=none)/\W i n ys H') ?_ m0 ⟨0,none,H3,[],Ic,stc,fpFree,w0⟩
  rintro n s' ⟨i,o,H',ys,I',st',fr',w'⟩
  obtain ⟨hDl,tw⟩:=turn i n ys H' w'
  rcases tw with ⟨stop,q⟩ | ⟨go,hz,step⟩
  ·
   refine thn (T.done (X.inComp Nc sc cl s3 H3 fp) rfl rfl rfl hc i [] s' _ H' _ I' (fpc rfl fr') st' stop) fun r s5 ⟨hr,I5⟩=>?_
   subst hr
   have Ix:Inv X pins σ H' s5:=I3.call' (ch:=fp) I5.os I5.base I5.hok I5.bare fun b hb=>by
    obtain ⟨g0,g1,g2,g3,g4,g5⟩:=f2 b hb
    exact ⟨g3,g1,g4,g5⟩
   have hCf:H' s3.heap.objs.size=none:=I5.free
   obtain ⟨m,hn,_⟩:=I5.loc
   exact ⟨rfl,s2.heap.objs.size,H',rfl,Ix,q,⟨hCf,fun z=>Nat.lt_irrefl _ (by have:=I3.lt;rw [<- z] at this;exact this),hCnew,hCcell,hCpin⟩,m,hn⟩
  ·
   refine thn (T.item (X.inComp Nc sc cl s3 H3 fp) rfl rfl rfl hc i [] s' _ H' _ I' (fpc rfl fr') st' go) fun r s5 ⟨u,hr,h4⟩=>?_
   subst hr
   dsimp only
   have e0:letOwnedTupleGo (.Name x px) (.ref it) u=pure ():=rfl
   have e1:(letOwnedTupleGo (.Name x px) (.ref it) u >>= fun _=>assign (.Name x px) (compEnvC sc cl s3.heap.objs.size X.env) u)=assign (.Name x px) (compEnvC sc cl s3.heap.objs.size X.env) u:=by rw [e0,pure_bind]
   rw [<- e1]
   refine wpAny_bind (thn h4 fun _ s6 ⟨xv,H5,I5,r5,y5,st5,fr5⟩=>?_)
   have I5':=I5.pinned (fpc rfl fr5) (T.obj _ _ st5)
   have again:∀{H7:Hp} {s7:Shared} {m':Nat} {ys':List V},Inv (X.inComp Nc sc cl s3 H3 fp) ([]++pinsAt fp s6.heap) (σ++[some xv]) H7 s7->m' < n->W (i+1) m' ys' H7 ->
    ∃m,m < n/\∃(i:Nat) (o:Option V) (H':Hp) (ys:List V),Inv (X.inComp Nc sc cl s3 H3 fp) [] (σ++[o]) H' s7/\tn i s7.heap/\(∀b∈fp,H' b=none)/\W i m ys H':=fun {H7 s7 m' ys'} I7 hm w7=>by
    refine ⟨m',hm,i+1,some xv,H7,ys',I7.unpinned,T.keep _ _ _ st5 fun b hb o e=>(I7.pin (b,o) (List.mem_append_right _ (List.mem_append_right _ (mem_pinsAt hb e)))).1,fun b hb=>?_,w7⟩
    obtain ⟨o',e,d⟩:=T.obj _ _ st5 b hb
    exact (I7.pin (b,o') (List.mem_append_right _ (List.mem_append_right _ (mem_pinsAt hb e)))).2.1
   refine thnF (hg _ s6 _ H5 xv u (fun σ' H''=>σ'=σ++[some xv]/\H''=H5) I5' r5 ⟨set_last,rfl⟩) fun _ s7 ⟨σ7,H7,I7,e7,e7'⟩=>?_
   subst e7
   subst e7'
   refine thnF (ht cl s3 H3 fp _ s7 _ _ _ I7 (step xv _ y5)) fun b s8 ⟨H8,I8,q8⟩=>?_
   cases b with
   | false =>
     rw [if_neg Bool.false_ne_true] at q8 ⊢
     obtain ⟨m',hm,w8⟩:=q8
     exact again I8 hm w8
   | true =>
     rw [if_pos rfl] at q8 ⊢
     refine thnF (he cl s3 H3 fp _ s8 _ H8 _ I8 q8) fun y s9 ⟨yv,H9,I9,r9,hD9,m',hm,w9⟩=>?_
     refine thnF (mt_append _ s9 _ H9 (.ref s2.heap.objs.size) [yv] (.ref s2.heap.objs.size) [y] (fun v H=>v=.non/\H=upd H9 s2.heap.objs.size (.lst (ys++[yv]))) I9 rfl (.cons r9 .nil) ⟨_,ys,yv,rfl,rfl,hD9,hz,rfl,rfl⟩) fun _ s10 ⟨v10,H10,I10,r10,e10,e11⟩=>?_
     subst e11
     exact again I10 hm w9
 exact codeAny_compStart_list (loop _ rfl) (T.self _ 0 _ _ _ stc (loop _ rfl))
theorem comp_has (I:∀y,(X.env.kindOf y=some .cell\/X.env.kindOf y=some .free)->∃c,X.env.cells.lookup y=some c) (hE:X.env.scope=fsc) (cn:CompN N Nc x sc fsc):∀y∈sc.names,y.2=.free->∃c,X.env.cells.lookup y.1=some c:=fun y hy hf=>by
 refine I y.1 ?_
 show X.env.scope.names.lookup y.1=some .cell\/X.env.scope.names.lookup y.1=some .free
 rw [hE]
 exact cn.fr y hy hf
theorem pe_comp (hE:X.env.scope=fsc) (hXN:X.N=N) (cn:CompN N Nc x sc fsc) (hc:X.calm=true) (hi:PI X (.Name x px) iter wi)
 (ht:∀cl s H ex,PIfs (X.inComp Nc sc cl s H ex) ifs tt) (he:∀cl s H ex,PE (X.inComp Nc sc cl s H ex) elt te)
 (hs:∀v,foldedSetIterable iter X.env v=pure v:=by intro _;rfl):PE X (.ListComp elt [⟨.Name x px,iter,ifs,0⟩] sc pos) (tComp wi tt te):=by
 intro pins s σ H Q I h
 obtain ⟨cl,hcl,clS,clH⟩:=closure_ok (env:=X.env) (sc:=sc) (comp_has I.ok.has hE cn)
 rw [eval_ListComp]
 refine wpAny_comprehension_free (use:=none) rfl hs hcl cn.kind cn.nm (thn (hi pins s σ H _ I h) fun v s1 h1=>thn h1 fun itv s2 h2=>?_)
 obtain ⟨it,fp,tn,J,H2,rfl,I2,T,st2,f2,h2⟩:=h2
 refine thn (comp_core (pos:=pos) (iter:=iter) hE hXN cn hc ht he clS clH I2 T st2 f2 h2) fun acc s3 h3=>thn h3 fun cenv s4 h4=>codeAny_mono h4 fun r s' h5=>?_
 obtain ⟨rfl,D,H',rfl,I',q,cloc,m,hn⟩:=h5
 exact ⟨m,hn,fun h' k=>⟨.ref D,H',I'.sameBut cloc k,rfl,q⟩⟩
theorem ps_setC {j:Nat} {y:Str} {py spos:Pos} (hE:X.env.scope=fsc) (hXN:X.N=N) (cn:CompN N Nc x sc fsc) (hc:X.calm=true) (hnd:X.N.Nodup) (hj:X.N[j]?=some y) (hy:X.env.scope.names.lookup y=some .local) (hi:PI X (.Name x px) iter wi)
 (ht:∀cl s H ex,PIfs (X.inComp Nc sc cl s H ex) ifs tt) (he:∀cl s H ex,PE (X.inComp Nc sc cl s H ex) elt te)
 (hsw:swapsWith (.ListComp elt [⟨.Name x px,iter,ifs,0⟩] sc pos) (some (.Name y py)) spos.line X.env=pure true)
 (hs:∀v,foldedSetIterable iter X.env v=pure v:=by intro _;rfl):PS X (.Assign [.Name y py] (.ListComp elt [⟨.Name x px,iter,ifs,0⟩] sc pos) spos) (tAsg (tComp wi tt te) (gName j)):=by
 intro pins s σ H D I h
 obtain ⟨cl,hcl,clS,clH⟩:=closure_ok (env:=X.env) (sc:=sc) (comp_has I.ok.has hE cn)
 rw [exec_Assign_Name_used _ _ _ _ hsw]
 refine wpAny_bind (wpAny_standAt (wpAny_bind ?_))
 show wpAny _ X.A (do let _ <- comprehension (.ListComp elt [⟨.Name x px,iter,ifs,0⟩] sc pos) sc X.env _ (newList []) false (eval iter X.env) (some (assign (.Name y py) X.env))) _ _ s
 refine wpAny_bind (thn (wpAny_comprehension_free (Q:=fun _ s'=>SP X pins D .next s') rfl hs hcl cn.kind cn.nm (thn (hi pins s σ H _ I h) fun v s1 h1=>thn h1 fun itv s2 h2=>?_)) fun _ s' hq=>wpAny_pure (wpAny_pure hq))
 obtain ⟨it,fp,tn,J,H2,rfl,I2,T,st2,f2,h2⟩:=h2
 refine thn (comp_core (pos:=pos) (iter:=iter) (Q:=fun x H1=>gName j x σ H1 D.nx) hE hXN cn hc ht he clS clH I2 T st2 f2 h2) fun acc s3 h3=>thn h3 fun cenv s4 h4=>codeAny_mono h4 fun r s' h5=>?_
 obtain ⟨rfl,D',H',rfl,I',q,cloc,m,hn⟩:=h5
 refine wpAny_assign_Name (store_ok2 (v:=.ref D') I' hnd hj (.inl hy) rfl (fun s6 I6 sb=>?_) (.inr hy))
 obtain ⟨a,k,ha⟩:=sb
 refine ⟨m,hn.sameBut k (fun z=>?_),fun h' k'=>⟨_,H',I6.sameBut cloc k',q⟩⟩
 rcases ha with ha | ha
 ·exact cloc.ne (z.trans ha)
 ·exact cloc.cells _ _ ha z.symm
end
theorem comp_range {lo:Int} {n:Nat} {tt:TT} {te:TE} {σ:St} {H1:Hp} {Q:Addr->Hp->Prop} (hn:n<=sizeLine) (Pv:Addr->Nat->List V->Hp->Prop)
 (h0:∀D,H1 D=none->Pv D 0 [] (upd H1 D (.lst []))) (hD:∀D i ys H,Pv D i ys H->H D=some (.lst ys)/\ys.length<=i)
 (hs:∀D i ys H (K1:VK) (K2:Hp->Prop),H1 D=none->i < n->Pv D i ys H->(∀y H5,H5 D=some (.lst ys)->Pv D (i+1) (ys++[y]) (upd H5 D (.lst (ys++[y])))->K1 y H5)->(∀H4,Pv D (i+1) ys H4->K2 H4) ->
  tt (σ++[some (.int (lo+i))]) H fun b H4=>if b=true then te (σ++[some (.int (lo+i))]) H4 K1 else K2 H4)
 (hd:∀D ys H,H1 D=none->Pv D n ys H->Q D H) :
 ∀D,H1 D=none->∃W:Nat->Nat->List V->Hp->Prop,(∃m,W 0 m [] (upd H1 D (.lst [])))/\∀i m ys H2,W i m ys H2 ->
  H2 D=some (.lst ys)/\(((Itr lo n).stop i H2/\Q D H2)\/((Itr lo n).go i H2/\ys.length < sizeLine/\∀x H3,(Itr lo n).yld i H2 x H3->tt (σ++[some x]) H3 fun b H4=>if b=true then te (σ++[some x]) H4 fun y H5=>H5 D=some (.lst ys)/\∃m',m' < m/\W (i+1) m' (ys++[y]) (upd H5 D (.lst (ys++[y])))
   else ∃m',m' < m/\W (i+1) m' ys H4)):=by
 intro D hDn
 refine ⟨fun i m ys H=>m=n - i/\i<=n/\Pv D i ys H,⟨n,rfl,Nat.zero_le _,h0 D hDn⟩,?_⟩
 rintro i m ys H2 ⟨rfl,hi,p⟩
 obtain ⟨e,l⟩:=hD D i ys H2 p
 refine ⟨e,?_⟩
 by_cases hlt:i < n
 ·refine .inr ⟨hlt,Nat.lt_of_le_of_lt l (Nat.lt_of_lt_of_le hlt hn),fun x H3 y=>?_⟩
  obtain ⟨e1,e2⟩:=y
  subst e1 e2
  exact hs D i ys _ _ _ hDn hlt p (fun y H5 h5 p5=>⟨h5,n - (i+1),by omega,rfl,hlt,p5⟩) fun H4 p4=>⟨n - (i+1),by omega,rfl,hlt,p4⟩
 ·have ei:i=n:=by omega
  subst ei
  exact .inl ⟨Nat.le_refl _,hd D ys H2 hDn p⟩
theorem comp_list {K:PySem.W.Frag} {a:Addr} {xs:List V} {tt:TT} {te:TE} {σ:St} {H1:Hp} {Q:Addr->Hp->Prop} (hn:xs.length<=sizeLine) (Pv:Addr->Nat->List V->Hp->Prop)
 (h0:∀D,H1 D=none->Pv D 0 [] (upd H1 D (.lst []))) (hD:∀D i ys H,Pv D i ys H->H D=some (.lst ys)/\ys.length<=i) (hl:∀D i ys H,H1 D=none->Pv D i ys H->SqL K H a xs)
 (hs:∀D i x ys H (K1:VK) (K2:Hp->Prop),H1 D=none->xs[i]?=some x->Pv D i ys H->(∀y H5,H5 D=some (.lst ys)->Pv D (i+1) (ys++[y]) (upd H5 D (.lst (ys++[y])))->K1 y H5)->(∀H4,Pv D (i+1) ys H4->K2 H4) ->
  tt (σ++[some x]) H fun b H4=>if b=true then te (σ++[some x]) H4 K1 else K2 H4)
 (hd:∀D ys H,H1 D=none->Pv D xs.length ys H->Q D H) :
 ∀D,H1 D=none->∃W:Nat->Nat->List V->Hp->Prop,(∃m,W 0 m [] (upd H1 D (.lst [])))/\∀i m ys H2,W i m ys H2 ->
  H2 D=some (.lst ys)/\(((Itl K a).stop i H2/\Q D H2)\/((Itl K a).go i H2/\ys.length < sizeLine/\∀x H3,(Itl K a).yld i H2 x H3->tt (σ++[some x]) H3 fun b H4=>if b=true then te (σ++[some x]) H4 fun y H5=>H5 D=some (.lst ys)/\∃m',m' < m/\W (i+1) m' (ys++[y]) (upd H5 D (.lst (ys++[y])))
   else ∃m',m' < m/\W (i+1) m' ys H4)):=by
 intro D hDn
 refine ⟨fun i m ys H=>m=xs.length - i/\i<=xs.length/\Pv D i ys H,⟨xs.length,rfl,Nat.zero_le _,h0 D hDn⟩,?_⟩
 rintro i m ys H2 ⟨rfl,hi,p⟩
 obtain ⟨e,l⟩:=hD D i ys H2 p
 have q:=hl D i ys H2 hDn p
 refine ⟨e,?_⟩
 by_cases hlt:i < xs.length
 ·refine .inr ⟨⟨xs,xs[i],q,by simp [hlt]⟩,Nat.lt_of_le_of_lt l (Nat.lt_of_lt_of_le hlt hn),fun x H3 y=>?_⟩
  obtain ⟨e1,y⟩:=y
  subst e1
  exact hs D i x ys _ _ _ hDn (y xs q) p (fun y H5 h5 p5=>⟨h5,xs.length - (i+1),by omega,rfl,hlt,p5⟩) fun H4 p4=>⟨xs.length - (i+1),by omega,rfl,hlt,p4⟩
 ·have ei:i=xs.length:=by omega
  subst ei
  exact .inl ⟨⟨xs,q,Nat.le_refl _⟩,hd D ys H2 hDn p⟩
section
variable {X:Cx}
theorem ix_listK (K:PySem.W.Frag) (h:X.K=K:=by rfl):IxR X (rIxL K):=by subst h;exact ix_list
theorem ix_tupK (K:PySem.W.Frag) (h:X.K=K:=by rfl):IxR X (rIxT K):=by subst h;exact ix_tup
end
end L2
namespace L2
open PySem PySem.Spec PyProof.Rows
section
variable {X:Cx}
noncomputable def rNeL (K:PySem.W.Frag):R2:=fun x y H Q=>∃(a b:Addr) (ns ms:List Int),x=.ref a/\y=.ref b/\SqL K H a (ns.map V.int)/\SqL K H b (ms.map V.int)/\Q (.bl (!decide (ns=ms))) H
theorem op_neL (hu:X.A.units+64 < cLine):OpR X (compareOp .NotEq) (rNeL X.K):=by
 intro pins s σ H x y v u Q I rx ry h
 obtain ⟨a,b,ns,ms,rfl,rfl,ha,hb,q⟩:=h
 cases rx
 cases ry
 obtain ⟨its,rv,ht,_⟩:=I.list ha
 obtain ⟨its2,rv2,ht2,_⟩:=I.list hb
 exact PySem.W.ne_intsK ht.isList (intsAre_of rv) ht2.isList (intsAre_of rv2) hu ⟨.bl _,H,I,rfl,q⟩
theorem call_sum (hc:X.calm=true):CallR X (.builtin "sum") (fun xs H Q=>∃(p:Addr) (ns:List Int),xs=[.ref p]/\SqL X.K H p (ns.map V.int)/\Q (.int ns.sum) H):=by
 intro pins s σ H xs us Q I rv h
 obtain ⟨p,ns,rfl,hS,q⟩:=h
 obtain ⟨u,rfl,r⟩:=vals1 rv
 cases r
 obtain ⟨its,rv,pl,hz⟩:=I.list hS
 have hi:=intsAre_of rv
 obtain ⟨xs,e⟩:=hi.allInts.items
 have en:xs.toList.map (·.1)=ns:=by
  have:=nums_intItems xs
  rw [<- e,show its.toArray.toList=its from rfl,hi.numsOf] at this
  exact this.symm
 refine sum_intListG (I.ok.hd hc) (by rw [<- e];exact pl.isList) fun h' tk t' hk=>?_
 rw [preSum_eq,List.take_of_length_le (by simp),en]
 exact ⟨.int ns.sum,H,I.kept hk,⟨_,rfl⟩,q⟩
theorem mt_bits:MtR X "int.bit_length" (fun x xs H Q=>∃i:Int,x=.int i/\xs=[]/\Q (.int (Builtin.Int.intBits i:Nat)) H):=by
 intro pins s σ H x xs v us Q I rx rv h
 obtain ⟨i,rfl,rfl,q⟩:=h
 obtain ⟨t,rfl⟩:=rx
 cases rv
 exact call_int_bit_length ⟨.int _,H,I.tok _,⟨_,rfl⟩,q⟩
end
theorem cut_take {xs:List V} {j:Nat}:cutV xs none (some (j:Int))=xs.take j:=by
 unfold cutV
 rw [HT.sIx_none,HT.sIx_nat,List.drop_zero,Nat.sub_zero]
 by_cases h:j<=xs.length
 ·rw [Nat.min_eq_left h]
 ·rw [Nat.min_eq_right (by omega),List.take_of_length_le (Nat.le_refl _),List.take_of_length_le (by omega)]
end L2
namespace L2
open PySem PySem.Spec PyProof.Rows
noncomputable def Rec (h:Heap) (e:Addr) (cls:Value) (od T:Option Addr) (fl:Value):Prop :=
 ∃oe vs,h.get? e=some oe/\oe.cls=cls/\oe.dict=od/\oe.data=.fields vs/\vs[2]?=some .none /\
  match T with
  | none=>vs[1]?=some .none
  | some t=>vs[1]?=some (.ref t)/\t≠e/\∃oT ts,h.get? t=some oT/\oT.data=.fields ts/\ts[3]?=some fl
structure Keep (fs xs:List Addr) (h h':Heap):Prop where
 keep:∀b o,h.get? b=some o->b ∉ fs->b ∉ xs->h'.get? b=some o
 slot:∀b o,h.get? b=some o->b∈fs->b ∉ xs->∃sl,h'.get? b=some { o with slots:=sl }
 there:∀b o,h.get? b=some o->∃o',h'.get? b=some o'
theorem Keep.any {fs xs:List Addr} {h h':Heap} (k:Keep fs xs h h') {b:Addr} {o:Obj} (e:h.get? b=some o) (n:b ∉ xs):∃sl,h'.get? b=some { o with slots:=sl }:=by
 by_cases hb:b∈fs
 ·exact k.slot b o e hb n
 ·exact ⟨o.slots,k.keep b o e hb n⟩
theorem Keep.mono {fs fs' xs xs':List Addr} {h h':Heap} (k:Keep fs xs h h') (hf:∀b∈fs,b∈fs') (hx:∀b∈xs,b∈xs'):Keep fs' xs' h h' :=
 ⟨fun b o e n m=>k.keep b o e (fun z=>n (hf b z)) fun z=>m (hx b z),fun b o e _ m=>k.any e fun z=>m (hx b z),k.there⟩
theorem dict_mf (f:Array Value->Array Value) (o:Obj):(Obj.mapFields f o).dict=o.dict:=by
 obtain ⟨c,d,dt,sl⟩:=o
 cases dt <;> rfl
section
variable {M:Model} {A:Around} {E:Value->Shared->Prop} {s:Shared} {env:Env} {outer:List Env} {L e:Addr} {base:Heap}
theorem entry_ok {oe:Obj} {vs:Array Value} {head:Value} {nx:Bool} {Q:Unit->Shared->Prop} (fr:A.frames=some (env :: outer)) (hl:s.heap.FunFrames base (env :: outer)) (hf:env.frame=some L)
 (he:s.heap.get? e=some oe) (hd:oe.data=.fields vs) (sz:1 < vs.size)
 (k:∀h' oT ts,Keep (frs (env :: outer)) [e] s.heap h'->h'.get? e=some (oe.mapFields (·.setIfInBounds 1 (.ref s.heap.objs.size)))->h'.get? s.heap.objs.size=some oT->oT.data=.fields ts->ts[3]?=some (rawInt L)->Q () { s with heap:=h' }) :
 wpAny M A (do let a <- frameOf env;let pl <- entryPlaceOf L nx;let b <- EntryCells.newEntry head a .none (rawInt L) .none pl;setField (.ref e) 1 b) Q E s:=by
 have ne:e ∉ frs (env :: outer):=fun hm=>by
  obtain ⟨_,o,ho,hn⟩:=hl.mem hm
  rw [he] at ho
  cases ho
  exact hn vs hd
 refine wpAny_bind (wpAny_frameOf_fun fr hl hf fun h₁ q=>?_)
 obtain ⟨q1,q2,q3⟩:=q
 refine wpAny_bind (wpAny_entryPlaceOf fun pl hp=>?_)
 simp only [EntryCells.newEntry,newFields]
 refine wpAny_bind (wpAny_newObj_type ?_ (hp.sizeOk5 _ _ _ _ _))
 rw [q1]
 generalize hT:({ cls:=.type "traceback",dict:=none,data:=.fields ([head,Value.ref L,.none,rawInt L,.none]++(if pl.isEmpty then List.replicate 6 Value.none else pl)).toArray }:Obj)=oT
 have e1:h₁.get? e=some oe:=(q2 e ne).trans he
 have e2:(h₁.push oT).get? e=some oe:=Heap.get?_push_of_some _ e1
 have lt:s.heap.objs.size≠e:=Nat.ne_of_gt (Heap.lt_size he)
 have hT0:(h₁.push oT).get? s.heap.objs.size=some oT:=by
  have:=Heap.get?_push_size h₁ (o:=oT) (by rw [<- hT];rfl)
  rw [q1] at this
  exact this
 refine wpAny_setField e2 hd sz ?_
 have d3:=Obj.data_mapFields hd (·.setIfInBounds 1 (Value.ref s.heap.objs.size))
 have oth:∀b o,b≠e->h₁.get? b=some o->((h₁.push oT).update e (Obj.mapFields (·.setIfInBounds 1 (Value.ref s.heap.objs.size)))).get? b=some o:=fun b o hb z=>by
  rw [Heap.get?_update_other _ _ (Ne.symm hb)]
  exact Heap.get?_push_of_some _ z
 have es:=Heap.get?_update_self (Obj.mapFields (·.setIfInBounds 1 (Value.ref s.heap.objs.size))) e2 (Obj.isFreed_of_fields d3)
 refine k _ oT _ ⟨fun b o z hb hx=>?_,fun b o z hb hx=>?_,fun b o z=>?_⟩ es ?_ (by rw [<- hT]) ?_
 ·exact oth b o (fun y=>hx (by rw [y];exact List.mem_singleton.mpr rfl)) ((q2 b hb).trans z)
 ·obtain ⟨sl,z1⟩:=q3 b o z
  exact ⟨sl,oth b _ (fun y=>hx (by rw [y];exact List.mem_singleton.mpr rfl)) z1⟩
 ·by_cases hb:b=e
  ·rw [hb];exact ⟨_,es⟩
  ·obtain ⟨sl,z1⟩:=q3 b o z
   exact ⟨_,oth b _ hb z1⟩
 ·rw [Heap.get?_update_other _ _ (Ne.symm lt)];exact hT0
 ·rcases hp with rfl | ⟨_,_,_,_,_,_,_,rfl⟩ <;> simp
theorem note_rec {cls:Value} {od T:Option Addr} {fl:Value} {Q:Unit->Shared->Prop} (fr:A.frames=some (env :: outer)) (hl:s.heap.FunFrames base (env :: outer)) (hf:env.frame=some L) (R:Rec s.heap e cls od T fl)
 (k:∀h' t,Rec h' e cls od (some t) (rawInt L)->(T=some t\/t=s.heap.objs.size)->Keep (frs (env :: outer)) (e :: T.toList) s.heap h'->Q () { s with heap:=h' }):wpAny M A (noteFrame (.ref e) env) Q E s:=by
 obtain ⟨oe,vs,he,hc,ho,hd,h2,hT⟩:=R
 have lt:s.heap.objs.size≠e:=Nat.ne_of_gt (Heap.lt_size he)
 unfold noteFrame
 simp only [hf]
 cases T with
 | none =>
   have h1:vs[1]?=some Value.none:=hT
   have sz:=(Array.getElem?_eq_some_iff.mp h1).1
   refine wpAny_bind (wpAny_field he hd h1 ?_)
   rw [if_neg (by decide)]
   refine entry_ok fr hl hf he hd sz fun h' oT ts kp e' t1 t2 t3=>k h' _ ?_ (.inr rfl) kp
   exact ⟨_,_,e',by rw [Obj.cls_mapFields];exact hc,by rw [dict_mf];exact ho,Obj.data_mapFields hd _,by rw [Array.getElem?_setIfInBounds_ne (by decide)];exact h2,by simp [sz],lt,oT,ts,t1,t2,t3⟩
 | some t =>
   obtain ⟨h1,ne,oT,ts,ht,hdt,h3⟩:=hT
   have sz:=(Array.getElem?_eq_some_iff.mp h1).1
   have sz3:=(Array.getElem?_eq_some_iff.mp h3).1
   refine wpAny_bind (wpAny_field he hd h1 ?_)
   rw [if_pos (show (Value.ref t != Value.none)=true from by simp)]
   refine wpAny_bind (wpAny_field ht hdt h3 ?_)
   by_cases hh:fl=rawInt L
   ·subst hh
    rw [if_pos (show (rawInt L == rawInt L)=true from by simp)]
    exact wpAny_pure (k s.heap t ⟨oe,vs,he,hc,ho,hd,h2,h1,ne,oT,ts,ht,hdt,h3⟩ (.inl rfl) ⟨fun _ _ z _ _=>z,fun _ o z _ _=>⟨o.slots,z⟩,fun _ o z=>⟨o,z⟩⟩)
   ·rw [if_neg (show ¬ ((fl == rawInt L)=true) from by simpa using hh)]
    refine wpAny_bind (wpAny_setField ht hdt sz3 ?_)
    have oth:∀b,b≠t->(s.heap.update t (Obj.mapFields (·.setIfInBounds 3 Value.none))).get? b=s.heap.get? b:=fun b hb=>Heap.get?_update_other _ _ (Ne.symm hb)
    have nf:∀b o,s.heap.get? b=some o->(∀vs,o.data≠.fields vs)->b≠t:=fun b o hb hnf q=>by
     rw [q,ht] at hb
     cases hb
     exact hnf ts hdt
    have ts':=Heap.get?_update_self (Obj.mapFields (·.setIfInBounds 3 Value.none)) ht (Obj.isFreed_of_fields (Obj.data_mapFields hdt _))
    have zs:(s.heap.update t (Obj.mapFields (·.setIfInBounds 3 Value.none))).objs.size=s.heap.objs.size:=by first | exact Heap.size_update _ _ _ | simp [Heap.update]
    refine entry_ok (s:={ s with heap:=s.heap.update t (Obj.mapFields (·.setIfInBounds 3 Value.none)) }) fr (hl.of_keeps fun b o hb hnf=>⟨o,(oth b (nf b o hb hnf)).trans hb,rfl⟩) hf ((oth e (Ne.symm ne)).trans he) hd sz
     fun h' oT' ts'' kp e' t1 t2 t3=>k h' _ ?_ (.inr zs) ?_
    ·rw [show ({ s with heap:=s.heap.update t (Obj.mapFields (·.setIfInBounds 3 Value.none)) }:Shared).heap.objs.size=s.heap.objs.size from zs] at *
     exact ⟨_,_,e',by rw [Obj.cls_mapFields];exact hc,by rw [dict_mf];exact ho,Obj.data_mapFields hd _,by rw [Array.getElem?_setIfInBounds_ne (by decide)];exact h2,by simp [sz],lt,oT',ts'',t1,t2,t3⟩
    ·refine ⟨fun b o z hb hx=>?_,fun b o z hb hx=>?_,fun b o z=>?_⟩
     ·have hbe:b≠e:=fun y=>hx (by rw [y];simp)
      have hbt:b≠t:=fun y=>hx (by rw [y];simp)
      exact kp.keep b o ((oth b hbt).trans z) hb (by simpa using hbe)
     ·have hbe:b≠e:=fun y=>hx (by rw [y];simp)
      have hbt:b≠t:=fun y=>hx (by rw [y];simp)
      exact kp.slot b o ((oth b hbt).trans z) hb (by simpa using hbe)
     ·by_cases hbt:b=t
      ·rw [hbt];exact kp.there t _ ts'
      ·exact kp.there b o ((oth b hbt).trans z)
theorem flight_rec {cls:Value} {od:Option Addr} {t:Addr} {fl:Value} {f:Option Addr} {Q:Unit->Shared->Prop} (R:Rec s.heap e cls od (some t) fl)
 (k:∀h',Rec h' e cls od (some t) (f.elim .none fun a=>rawInt a)->Keep [] [t] s.heap h'->Q () { s with heap:=h' }):wpAny M A (setFlight (.ref e) f) Q E s:=by
 obtain ⟨oe,vs,he,hc,ho,hd,h2,h1,ne,oT,ts,ht,hdt,h3⟩:=R
 have sz3:=(Array.getElem?_eq_some_iff.mp h3).1
 unfold setFlight
 refine wpAny_bind (wpAny_field he hd h1 ?_)
 rw [if_pos (show (Value.ref t != Value.none)=true from by simp)]
 have oth:∀b,b≠t->(s.heap.update t (Obj.mapFields (·.setIfInBounds 3 (f.elim .none fun a=>rawInt a)))).get? b=s.heap.get? b:=fun b hb=>Heap.get?_update_other _ _ (Ne.symm hb)
 have ts':=Heap.get?_update_self (Obj.mapFields (·.setIfInBounds 3 (f.elim .none fun a=>rawInt a))) ht (Obj.isFreed_of_fields (Obj.data_mapFields hdt _))
 refine wpAny_setField ht hdt sz3 (k _ ?_ ⟨fun b o z _ hx=>(oth b fun y=>hx (by rw [y];simp)).trans z,fun b o z _ hx=>⟨o.slots,(oth b fun y=>hx (by rw [y];simp)).trans z⟩,fun b o z=>?_⟩)
 ·exact ⟨oe,vs,(oth e (Ne.symm ne)).trans he,hc,ho,hd,h2,h1,ne,_,_,ts',Obj.data_mapFields hdt _,by simp [sz3]⟩
 ·by_cases hbt:b=t
  ·rw [hbt];exact ⟨_,ts'⟩
  ·exact ⟨o,(oth b hbt).trans z⟩
end
end L2
namespace L2
open PySem PySem.Spec PyProof.Rows
structure Mine (X:Cx) (pins:List (Addr × Obj)) (H:Hp) (b:Addr):Prop where
 un:H b=none
 new:X.s₀.heap.get? b=none
 loc:b≠X.env.locals
 cel:∀x c,X.env.cells.lookup x=some c->c≠b
 pin:∀p∈X.pn++pins,p.1≠b
noncomputable def Fly (X:Cx) (pins:List (Addr × Obj)) (H:Hp) (e:Addr) (cls:Value) (od:Option Addr) (s:Shared):Prop :=
 ∃T fl,Rec s.heap e cls od T fl/\∀b∈e :: T.toList,Mine X pins H b
noncomputable def Held (X:Cx) (pins:List (Addr × Obj)) (H:Hp) (e:Addr) (cls:Value) (od:Option Addr) (fl:Value) (s:Shared):Prop :=
 ∃t,Rec s.heap e cls od (some t) fl/\∀b∈[e,t],Mine X pins H b
structure Body (X:Cx):Prop where
 stk:X.stack=X.env :: X.outer
 fr:X.env.frame=some X.env.locals
 ex:X.ex=[]
theorem HOk.there {P:Program} {w:World} {H:Hp} {h:Heap} {a:Addr} {o:HO} (k:HOk P w H h) (z:H a=some o):∃ob,h.get? a=some ob:=by
 have x:=k a o z
 cases o with
 | lst xs=>obtain ⟨_,_,_,_,e⟩:=x;exact ⟨_,e⟩
 | tup xs=>obtain ⟨_,_,_,ob,e,_⟩:=x;exact ⟨ob,e⟩
 | dK kvs=>obtain ⟨_,_,_,_,ob,_,_,e,_⟩:=x;exact ⟨ob,e⟩
 | dT kvs=>obtain ⟨_,_,_,_,ob,_,_,e,_⟩:=x;exact ⟨ob,e⟩
 | set S n=>obtain ⟨ob,_,_,_,e,_⟩:=x;exact ⟨ob,e⟩
 | ins C dx fs=>obtain ⟨_,_,_,e,_⟩:=x;exact ⟨_,e⟩
 | own y=>exact x
 | xd fs=>obtain ⟨_,⟨ob,_,_,e,_⟩,_⟩:=x;exact ⟨ob,e⟩
 | rng lo hi=>obtain ⟨_,_,_,e⟩:=x;exact ⟨_,e⟩
 | frz ob u=>obtain ⟨e,_⟩:=x;exact ⟨ob,e⟩
 | tbl ps=>exact ⟨_,(show h.get? a=some _ from x)⟩
 | met f y=>exact ⟨_,(show h.get? a=some _ from x)⟩
 | ext φ=>obtain ⟨_,e,_⟩:=x;exact e
section
variable {X:Cx} {pins:List (Addr × Obj)} {σ:St} {H:Hp} {s:Shared} {e:Addr} {cls:Value} {od:Option Addr}
theorem Inv.mine {b:Addr} (B:Body X) (I:Inv X pins σ H s) (hb:s.heap.get? b=none):Mine X pins H b where
 un:=by
  cases z:H b with
  | none=>rfl
  | some o =>
    obtain ⟨ob,y⟩:=I.hok.there z
    rw [hb] at y;cases y
 new:=by
  cases z:X.s₀.heap.get? b with
  | none=>rfl
  | some o =>
    obtain ⟨ob,y⟩:=I.base.there b o z (by rw [B.ex];simp)
    rw [hb] at y;cases y
 loc:=fun z=>by
  obtain ⟨m,⟨o,_,_,y,_⟩,_⟩:=I.loc
  rw [<- z,hb] at y;cases y
 cel:=fun x c y z=>by
  obtain ⟨v,o,ho,_⟩:=I.cell x c y
  rw [z,hb] at ho;cases ho
 pin:=fun p hp z=>by
  have y:=(I.pin p hp).1
  rw [z,hb] at y;cases y
theorem Inv.kept2 {xs:List Addr} {h':Heap} (I:Inv X pins σ H s) (k:Keep (frs X.stack) xs s.heap h') (hx:∀b∈xs,Mine X pins H b):Inv X pins σ H { s with heap:=h' }:=by
 have tr:∀c w,H c=some w->c ∉ frs X.stack/\c ∉ xs:=fun c w z=>⟨fun y=>(by rw [I.stkFree c y] at z;cases z),fun y=>(by rw [(hx c y).un] at z;cases z)⟩
 have sub:∀b∈X.fs,b∈frs X.stack:=fun b hb=>by
  rcases I.ok.stk with z | ⟨z,_⟩
  ·rw [z];exact hb
  ·rw [z]
   unfold frs
   rw [List.filterMap_cons]
   split
   ·exact hb
   ·exact List.mem_cons_of_mem _ hb
 have nf:∀b,b∈frs X.stack->b ∉ X.fs->b=X.env.locals:=fun b hb hn=>by
  rcases List.mem_cons.mp (I.stkSub b hb) with z | z
  ·exact z
  ·exact absurd z hn
 refine ⟨I.ok,I.os,I.bare,⟨fun b o z n hb he=>?_,fun b o z n hb he=>?_,I.base.free,fun b o z he=>?_,I.base.tups,I.base.frzs,I.base.tbls⟩,?_,fun x c z=>?_,I.free,I.freeC,fun p hp=>?_,fun b u z=>?_,I.len⟩
 ·have y:=I.base.keep b o z n hb he
  have nx:b ∉ xs:=fun q=>by rw [(hx b q).new] at z;cases z
  refine k.keep b o y (fun q=>?_) nx
  have:=nf b q hb
  exact absurd (Nat.lt_of_lt_of_le (Heap.lt_size z) I.ok.above) (by rw [this];exact Nat.lt_irrefl _)
 ·obtain ⟨sl,y⟩:=I.base.slot b o z n hb he
  have nx:b ∉ xs:=fun q=>by rw [(hx b q).new] at z;cases z
  obtain ⟨sl',y'⟩:=k.any y nx
  exact ⟨sl',y'⟩
 ·obtain ⟨o',y⟩:=I.base.there b o z he
  exact k.there b o' y
 ·obtain ⟨m,⟨o,es,ep,ho,r⟩,hl⟩:=I.loc
  obtain ⟨sl,y⟩:=k.any ho fun q=>(hx _ q).loc rfl
  refine ⟨m,⟨_,es,ep,y,r⟩,fun i x v e1 e2 e3=>?_⟩
  obtain ⟨u,ru,l⟩:=hl i x v e1 e2 e3
  refine ⟨u,ru,?_⟩
  rcases l with l | ⟨kd,c,e,oc,hoc,hd⟩
  ·exact .inl l
  ·obtain ⟨sl,y⟩:=k.any hoc fun q=>(hx _ q).cel x c e rfl
   exact .inr ⟨kd,c,e,_,y,hd⟩
 ·obtain ⟨v,o,ho,hd⟩:=I.cell x c z
  obtain ⟨sl,y⟩:=k.any ho fun q=>(hx _ q).cel x c z rfl
  exact ⟨v,_,y,hd⟩
 ·obtain ⟨e,n,ne,nfs,d⟩:=I.pin p hp
  exact ⟨k.keep p.1 p.2 e (fun q=>ne (nf _ q nfs)) fun q=>(hx _ q).pin p hp rfl,n,ne,nfs,d⟩
 ·refine (I.hok b u z).stay (fun c v hc q=>?_) (fun _ q=>q) fun _ _ q=>q
  have t:∃w,H c=some w:=by
   rcases hc with y | y
   ·exact ⟨u,by rw [y];exact z⟩
   ·exact ⟨_,y⟩
  obtain ⟨w,t⟩:=t
  exact k.keep c v q (tr c w t).1 (tr c w t).2
theorem Inv.note {A:Around} {E:Value->Shared->Prop} {Q:Unit->Shared->Prop} (B:Body X) (fr:A.frames=some X.stack) (I:Inv X pins σ H s) (F:Fly X pins H e cls od s)
 (k:∀s',Inv X pins σ H s'->Held X pins H e cls od (rawInt X.env.locals) s'->Q () s'):wpAny (model X.prog X.w) A (noteFrame (.ref e) X.env) Q E s:=by
 obtain ⟨T,fl,R,hm⟩:=F
 have st:=I.stack
 rw [B.stk] at st fr
 refine note_rec fr st B.fr R fun h' t R' ht kp=>k _ (I.kept2 (by rw [B.stk];exact kp) hm) ⟨t,R',fun b hb=>?_⟩
 rcases List.mem_cons.mp hb with z | z
 ·rw [z];exact hm e (by simp)
 ·have z':b=t:=by simpa using z
  rcases ht with y | y
  ·rw [z'];exact hm t (by rw [y];simp)
  ·exact I.mine B (by rw [z',y];exact Heap.get?_none_of_le (Nat.le_refl _))
theorem Inv.flight {A:Around} {E:Value->Shared->Prop} {Q:Unit->Shared->Prop} {fl:Value} {f:Option Addr} (I:Inv X pins σ H s) (F:Held X pins H e cls od fl s)
 (k:∀s',Inv X pins σ H s'->Held X pins H e cls od (f.elim .none fun a=>rawInt a) s'->Q () s'):wpAny (model X.prog X.w) A (setFlight (.ref e) f) Q E s:=by
 obtain ⟨t,R,hm⟩:=F
 refine flight_rec R fun h' R' kp=>k _ (I.kept2 (kp.mono (fun _ z=>absurd z (by simp)) fun b z=>z) fun b hb=>?_) ⟨t,R',hm⟩
 have z:b=t:=by simpa using hb
 rw [z];exact hm t (by simp)
theorem Held.fly {fl:Value} (F:Held X pins H e cls od fl s):Fly X pins H e cls od s:=by
 obtain ⟨t,R,hm⟩:=F
 exact ⟨some t,fl,R,hm⟩
theorem Mine.less {b:Addr} (m:Mine X pins H b):Mine X [] H b:=⟨m.un,m.new,m.loc,m.cel,fun p hp=>m.pin p (by rw [List.append_nil] at hp;exact List.mem_append_left _ hp)⟩
theorem Fly.less (F:Fly X pins H e cls od s):Fly X [] H e cls od s:=by
 obtain ⟨T,fl,R,hm⟩:=F
 exact ⟨T,fl,R,fun b hb=>(hm b hb).less⟩
theorem Inv.nopins (I:Inv X pins σ H s):Inv X [] σ H s:=I.pins_of fun _ z=>absurd z (by simp)
end
noncomputable def Wish (X:Cx) (W:St->XK) (ev:Value) (s:Shared):Prop:=∃σ H e cls od,ev=.ref e/\Inv X [] σ H s/\Fly X [] H e cls od s/\W σ cls od H
abbrev Cx.wants (X:Cx) (W:St->XK):Cx:=X.wish (Wish X W)
theorem passW {X:Cx} {W:St->XK} (B:Body X):PassesOwn (model X.prog X.w) X.A X.env (Wish X W):=by
 rintro ev s ⟨σ,H,e,cls,od,rfl,I,F,w⟩
 unfold notedBy
 refine I.note B I.ok.frames F fun s1 I1 F1=>?_
 unfold cameBackBy
 obtain ⟨t,R,hm⟩:=id F1
 obtain ⟨oe,vs,he,_,_,hd,_,h1,_⟩:=R
 refine wpAny_bind (wpAny_field he hd h1 ?_)
 dsimp only
 rw [if_neg (show ¬ ((Value.ref t == Value.none)=true) from by simp)]
 refine I1.flight F1 fun s2 I2 F2=>?_
 exact ⟨σ,H,e,cls,od,rfl,I2,F2.fly,w⟩
noncomputable def CX1 (P:Program) (w:World):CXT:=fun outer H s E ev s'=>∃e cls od H' t,ev=.ref e/\s'.os=s.os/\AllBare s'.gens/\Un (frs outer) [] H H' s.heap s'.heap/\HOk P w H' s'.heap /\
 Rec s'.heap e cls od (some t) .none/\(∀b∈[e,t],H' b=none/\s.heap.get? b=none)/\E cls od H'
theorem pass1 {X:Cx} {P:Program} {w:World}:Passes (CX1 P w) X E0:=by
 rintro _ _ _ _ _ _ _ ⟨_,_,_,_,_,_,_,_,_,_,_,_,z⟩
 exact z.elim
section
variable {X:Cx} {pins:List (Addr × Obj)} {σ:St} {H:Hp} {s s':Shared} {E:XK} {ev:Value}
theorem Inv.flew (B:Body X) (I:Inv X pins σ H s) (h:CX1 X.prog X.w X.stack H s E ev s'):∃e cls od H',ev=.ref e/\Inv X pins σ H' s'/\Fly X pins H' e cls od s'/\E cls od H':=by
 obtain ⟨e,cls,od,H',t,rfl,os,bare,un,hok,R,hm,q⟩:=h
 have I':Inv X pins σ H' s':=I.call' (ch:=[]) os un hok bare fun _ z=>absurd z (by simp)
 refine ⟨e,cls,od,H',rfl,I',⟨some t,.none,R,fun b hb=>?_⟩,q⟩
 obtain ⟨m1,m2⟩:=hm b hb
 have q:=I.mine B m2
 exact ⟨m1,q.new,q.loc,q.cel,q.pin⟩
end
theorem leaves {P:Program} {w:World} {K:PySem.W.Frag} {mg:Str->Option Value} {base:Heap} {N:List Str} {qual:Str} {sc:Scope} {f:Addr} {cd:Value} {A:Around} {outer:List Env} {s:Shared} {H:Hp} {E:XK} {ev:Value} {s1:Shared}
 (h:Wish (cxOf (CX1 P w) P w K mg base N qual sc f cd A outer s H E) (fun _=>E) ev s1):(cxOf (CX1 P w) P w K mg base N qual sc f cd A outer s H E).xe ev s1:=by
 obtain ⟨σ,H1,e,cls,od,rfl,I,F,q⟩:=h
 show wpAny _ _ (leaving _ _) _ _ _
 unfold leaving
 have B:Body (cxOf (CX1 P w) P w K mg base N qual sc f cd A outer s H E):=⟨rfl,rfl,rfl⟩
 refine wpAny_bind (I.note B I.ok.frames F fun s2 I2 F2=>I2.flight F2 fun s3 I3 F3=>?_)
 obtain ⟨t,R,hm⟩:=F3
 exact ⟨e,cls,od,H1,t,rfl,I3.os,I3.bare,I3.base,I3.hok,R,fun b hb=>⟨(hm b hb).un,(hm b hb).new⟩,q⟩
theorem Fun.okX {P:Program} {w:World} {K:PySem.W.Frag} {mg:Str->Option Value} {base:Heap} {x qual:Str} {st:Stmt} {f:Addr} {fd:FuncData} {N ps:List Str} {k:Nat} {sp:Sp} (F:Fun K x qual st f fd) (S:FnScope N ps (defScope st)) (len:∀vs H Q E,sp vs H Q E->vs.length=ps.length)
 (hbody:∀(cdv:Value) (A:Around) (outer:List Env) (s:Shared) (H:Hp) (vs:List V) (Q:VK) (E:XK),Room k (A.deeper (envOfC qual (defScope st) s.heap.objs.size f cdv))->sp vs H Q E ->
  ∃t,PSs ((cxOf (CX1 P w) P w K mg base N qual (defScope st) f cdv A outer s H E).wants fun _=>E) (defBody st) t/\t { nx:=fun _ H'=>Q .non H',rt:=Q } (start N vs) H):FnOk P w K mg base (CX1 P w) (k+1) f fd ps sp:=by
 obtain ⟨oc,od,kV,doc,pm,an,cdv,ct,osl,rfl,lk,hcd⟩:=F.ex
 refine fn_of lk hcd S len fun A outer s H vs Q E hr hsp=>?_
 obtain ⟨t,h,q⟩:=hbody cdv A outer s H vs Q E hr hsp
 refine ⟨t,fun pins s1 σ H1 D I hw=>?_,q⟩
 exact wpAny_mono (h pins s1 σ H1 D (I.wish _) hw) (fun _ _ z=>z.unwish) fun ev s2 z=>leaves z
noncomputable def tCallW (sp:Sp) (dvs:List V) (W:St->XK) (t:TA):TE:=fun σ H Q=>t σ H fun vs H1=>sp (vs++dvs) H1 Q (W σ)
section
variable {X:Cx} {W:St->XK} {k:Nat} {f:Addr} {fd:FuncData} {ps:List Str} {sp:Sp} {dvs:List V} {ds:List Value} {x:Str} {p pos:Pos} {e:Expr} {es:List Expr} {t:TA}
theorem run_fnW {pins:List (Addr × Obj)} {σ:St} {H:Hp} {s:Shared} {Q:VK} {us:List Value} {vs:List V} (B:Body X) (F:FnOk X.prog X.w X.K X.mg X.base (CX1 X.prog X.w) k f fd ps sp) (hr:Room k X.A) (hb:Binds X.K fd ps ds) (hd:Vals dvs ds)
 (I:Inv (X.wants W) pins σ H s) (r:Vals vs us) (h:sp (vs++dvs) H Q (W σ)):wpAny (model X.prog X.w) X.A (call (.ref f) us) (EP (X.wants W) pins σ Q) (Wish X W) s:=by
 have r2:Vals (vs++dvs) (us++ds):=r.append hd
 have hl:(us++ds).length=ps.length:=by rw [<- r2.length];exact F.len _ _ _ _ h
 refine wpAny_call (codeAny_mono (F.run X.A X.stack s H ⟨us,[]⟩ (us++ds) (vs++dvs) Q (W σ) hr I.unwish.env0 (hb s us I.kIn hl) r2 h) fun r s' hq=>?_)
 cases r with
 | error ev =>
   obtain ⟨e,cls,od,H',rfl,I',F',q⟩:=I.unwish.flew B hq
   exact ⟨σ,H',e,cls,od,rfl,I'.nopins,F'.less,q⟩
 | ok fl =>
   cases fl with
   | ret u=>exact I.after hq
   | next=>exact False.elim hq
   | brk=>exact False.elim hq
   | cont=>exact False.elim hq
theorem pe_callW (B:Body X) (F:FnOk X.prog X.w X.K X.mg X.base (CX1 X.prog X.w) k f fd ps sp) (hr:Room k X.A) (hg:Gl X x) (hm:X.mg x=some (.ref f)) (hk:PySem.W.keepIn X.K (.ref f)=true) (hb:Binds X.K fd ps ds) (hd:Vals dvs ds)
 (ha:PA (X.wants W) (e :: es) t) (hdb:(x == ("__debug__":Str))=false:=by decide) (he:starEach (e :: es) X.env=(false,eval e X.env) :: starEach es X.env:=by rfl) (hpl:(backTo pos (starEach es X.env)).any (·.1)=false:=by rfl) :
 PE (X.wants W) (.Call (.Name x p) (e :: es) [] pos) (tCallW sp dvs W t):=by
 intro pins s σ H Q I h
 refine wpAny_Call_Name_kw (ld_glob I hg hm ?_ hdb)
 refine PySem.W.callWith_K (h₀:=X.base) I.ok.mod.kin hk (thn (ha pos pins s σ H _ I h) fun us s1 ⟨vs,H1,I1,r,q⟩=>⟨I1.kIn,?_⟩) he hpl
 exact run_fnW B F hr hb hd I1 r q
end
end L2
namespace L2
open PySem PySem.Spec PyProof.Rows
abbrev veMro:List Value:=[.type "ValueError",.type "Exception",.type "BaseException",.type "object"]
abbrev XCls (K:PySem.W.Frag) (C:Addr):Prop:=PySem.W.excIn K C veMro "ValueError.__new__"=true
theorem own_obj {K:PySem.W.Frag} {h:Heap} {C:Addr} (X:K.In h) (q:XCls K C):∃bm N nm qn bs hd sn sub ab col dd k0 k1 k2 k3 k5 mN,
 h.get? C=some (excClassObj nm qn C N bs bm hd sn sub ab col dd k0 k1 k2 k3 k5 "ValueError.__new__")/\h.Ns N mN/\mN "__init__"=none/\OwnTail h veMro bm:=by
 unfold XCls PySem.W.excIn at q
 split at q
 ·rename_i d1 c1 s1 look
  split at q
  ·rename_i C1 bm j0 j1 j2 j3 n1 j5 e1 e2
   simp only [Bool.and_eq_true,beq_iff_eq,Bool.not_eq_true'] at q
   obtain ⟨⟨⟨⟨⟨r1,r2⟩,r3⟩,r4⟩,r5⟩,r6⟩:=q
   subst r1 r2
   obtain ⟨nm,bs,mro,ns,qn,hd,sn,sub,ab,col,del⟩:=c1
   dsimp only at e1 r3 r5 r6
   subst e1 r3
   have es:s1=#[j0,j1,j2,j3,some (.builtin "ValueError.__new__"),j5]:=Array.toList_inj.mp (by rw [e2])
   subst es
   exact ⟨bm,ns,nm,qn,bs,hd,sn,sub,ab,col,d1,j0,j1,j2,j3,j5,_,X _ _ look,.of_isNs (PySem.W.isNs_of_in X r5),PySem.W.nsMap_none_of_in X r5 r6,PySem.W.tail_of_in X r4⟩
  ·exact absurd q Bool.false_ne_true
 ·exact absurd q Bool.false_ne_true
noncomputable def tRaise (C:Addr) (W:St->XK) (t:TA):TS:=fun _ σ H=>t σ H fun vs H1=>vs.length<=sizeLine/\W σ (.ref C) none H1
section
variable {X:Cx} {W:St->XK} {C:Addr} {x:Str} {p cpos pos:Pos} {e:Expr} {es:List Expr} {t:TA}
theorem Inv.raised {pins:List (Addr × Obj)} {σ:St} {H:Hp} {s:Shared} {h':Heap} {a:Addr} {us:List Value} (B:Body X) (I:Inv X pins σ H s) (m:Heap.MadeExcOf s.heap h' a (.ref C) us) (w:W σ (.ref C) none H) :
 Wish X W (.ref a) { s with heap:=h' }:=by
 obtain ⟨t,m1,_,_⟩:=m.there
 refine ⟨σ,H,a,.ref C,none,rfl,(I.kept m.keeps).nopins,⟨none,.none,⟨_,_,m1,rfl,rfl,rfl,rfl,rfl⟩,fun b hb=>?_⟩,w⟩
 have z:b=a:=by simpa using hb
 have q:=I.nopins.mine B m.new
 rw [z]
 exact q
theorem ps_raise (B:Body X) (hc:X.calm=true) (hg:Gl X x) (hm:X.mg x=some (.ref C)) (q:XCls X.K C) (ha:PA (X.wants W) (e :: es) t) (hdb:(x == ("__debug__":Str))=false:=by decide)
 (he:starEach (e :: es) X.env=(false,eval e X.env) :: starEach es X.env:=by rfl) (hpl:(backTo cpos (starEach es X.env)).any (·.1)=false:=by rfl) :
 PS (X.wants W) (.Raise (some (.Call (.Name x p) (e :: es) [] cpos)) none pos) (tRaise C W t):=by
 intro pins s σ H D I h
 obtain ⟨bm,N,nm,qn,bs,hd,sn,sub,ab,col,dd,k0,k1,k2,k3,k5,mN,hC,hN,hni,TL⟩:=own_obj I.ok.mod.kin q
 refine wpAny_Raise_call_subT (C:=C) (nm:=nm) (q:=qn) (N:=N) (bs:=bs) (bm:=bm) (hdct:=hd) (sn:=sn) (sub:=sub) (ab:=ab) (col:=col) (dd:=dd) (k0:=k0) (k1:=k1) (k2:=k2) (k3:=k3) (k5:=k5) (mN:=mN)
  PySem.F.excBase_ValueError (TL.hasType PySem.F.excBase_ValueError.hasBase) (I.ok.hd hc) (by show (backTo cpos (starEach (e :: es) X.env)).any (·.1)=false;rw [he];show (false || (backTo cpos (starEach es X.env)).any (·.1))=false;rw [hpl];rfl) hni (ld_glob I hg hm ⟨rfl,?_⟩ hdb)
 have hA:=ha cpos pins s σ H _ I h
 rw [he] at hA ⊢
 refine Calls.evalArgs_plain (thn hA fun us s1 ⟨vs,H1,I1,r,lv,w⟩=>?_)
 refine ⟨rfl,?_,I1.bk _ _ hC,hN.keeps I1.bk,TL.keeps I1.bk,fun h' a m=>I1.unwish.raised B m w⟩
 show us.length<=sizeLine
 rw [<- r.length];exact lv
end
noncomputable def ExcO (e:Addr) (cls:Value) (od:Option Addr):Heap->Prop:=fun h=>∃oe vs,h.get? e=some oe/\oe.cls=cls/\oe.dict=od/\oe.data=.fields vs/\vs[2]?=some .none
abbrev hoX (e:Addr) (cls:Value) (od:Option Addr):HO:=.ext (ExcO e cls od)
theorem ExcO.ok {P:Program} {w:World} {H:Hp} {h:Heap} {e:Addr} {cls:Value} {od:Option Addr} (x:ExcO e cls od h):ObjOk P w H h e (hoX e cls od):=by
 refine ⟨x,?_,fun h1 h2 y k=>?_⟩
 ·obtain ⟨oe,_,z,_⟩:=x;exact ⟨oe,z⟩
 ·obtain ⟨oe,vs,z,r⟩:=y;exact ⟨oe,vs,k _ z,r⟩
section
variable {X:Cx} {pins:List (Addr × Obj)} {σ:St} {H:Hp} {s:Shared} {e:Addr} {cls:Value} {od:Option Addr}
theorem Inv.track {o:HO} (I:Inv X pins σ H s) (m:Mine X pins H e) (ok:ObjOk X.prog X.w (upd H e o) s.heap e o):Inv X pins σ (upd H e o) s:=by
 have nt:∀b u,H b=some u->b≠e:=fun b u z=>ne_of_none z m.un
 refine ⟨I.ok,I.os,I.bare,⟨I.base.keep,I.base.slot,fun b ob z n hx=>?_,I.base.there,fun b xs z=>?_,fun b ob u z=>?_,fun b ps z=>?_⟩,I.loc,I.cell,?_,fun x c z=>?_,fun p hp=>?_,fun b u z=>?_,I.len⟩
 ·rw [upd_ne fun y=>by rw [y,m.new] at z;cases z]
  exact I.base.free b ob z n hx
 ·have y:=I.base.tups b xs z
  rw [upd_ne (nt b _ y)];exact y
 ·have y:=I.base.frzs b ob u z
  rw [upd_ne (nt b _ y)];exact y
 ·obtain ⟨more,y⟩:=I.base.tbls b ps z
  exact ⟨more,by rw [upd_ne (nt b _ y)];exact y⟩
 ·rw [upd_ne (Ne.symm m.loc)];exact I.free
 ·rw [upd_ne (m.cel x c z)];exact I.freeC x c z
 ·obtain ⟨z,n,r⟩:=I.pin p hp
  exact ⟨z,by rw [upd_ne (m.pin p hp)];exact n,r⟩
 ·by_cases hb:b=e
  ·subst hb;rw [upd_same] at z;cases z;exact ok
  ·rw [upd_ne hb] at z
   exact (I.hok b u z).stay (fun c v _ y=>y) (fun c y=>by rw [upd_ne (nt c _ y)];exact y) fun c xs y=>by rw [upd_ne (nt c _ y)];exact y
end
abbrev Cx.suite (X:Cx) (e:Addr):Cx:={ X with A:=X.A.mark (some (.ref e)),calm:=false,xe:=fun _ _=>False }
theorem Inv.suite {X:Cx} {pins:List (Addr × Obj)} {σ:St} {H:Hp} {s:Shared} (I:Inv X pins σ H s) (e:Addr):Inv (X.suite e) pins σ H s :=
 ⟨⟨I.ok.mod,I.ok.kind,I.ok.glob,I.ok.blt,I.ok.above,I.ok.inj,I.ok.has,I.ok.cab,(fun z=>absurd (show false=true from z) Bool.false_ne_true),I.ok.frames,I.ok.stk,I.ok.exf,I.ok.bs,I.ok.bsz,I.ok.noex,I.ok.exfs,I.ok.funs,I.ok.frf⟩,I.os,I.bare,I.base,I.loc,I.cell,I.free,I.freeC,I.pin,I.hok,I.len⟩
theorem Inv.unsuite {X:Cx} {pins:List (Addr × Obj)} {σ:St} {H:Hp} {s:Shared} {e:Addr} (ok:X.Ok) (I:Inv (X.suite e) pins σ H s):Inv X pins σ H s :=
 ⟨ok,I.os,I.bare,I.base,I.loc,I.cell,I.free,I.freeC,I.pin,I.hok,I.len⟩
abbrev Cx.pin (X:Cx) (pins:List (Addr × Obj)):Cx:={ X with pn:=X.pn++pins }
theorem Cx.Ok.pin {X:Cx} (ok:X.Ok) (pins:List (Addr × Obj)):(X.pin pins).Ok :=
 ⟨ok.mod,ok.kind,ok.glob,ok.blt,ok.above,ok.inj,ok.has,ok.cab,ok.hd,ok.frames,ok.stk,ok.exf,ok.bs,ok.bsz,ok.noex,ok.exfs,ok.funs,ok.frf⟩
theorem Inv.pnd {X:Cx} {pins:List (Addr × Obj)} {σ:St} {H:Hp} {s:Shared} (I:Inv X pins σ H s):Inv (X.pin pins) [] σ H s :=
 ⟨I.ok.pin pins,I.os,I.bare,I.base,I.loc,I.cell,I.free,I.freeC,fun p hp=>I.pin p (by rw [List.append_nil] at hp;exact hp),I.hok,I.len⟩
theorem Inv.unpnd {X:Cx} {pins:List (Addr × Obj)} {σ:St} {H:Hp} {s:Shared} (ok:X.Ok) (I:Inv (X.pin pins) [] σ H s):Inv X pins σ H s :=
 ⟨ok,I.os,I.bare,I.base,I.loc,I.cell,I.free,I.freeC,fun p hp=>I.pin p (by rw [List.append_nil];exact hp),I.hok,I.len⟩
theorem Fly.unpinned {X:Cx} {pins:List (Addr × Obj)} {H:Hp} {s:Shared} {e:Addr} {cls:Value} {od:Option Addr} (F:Fly (X.pin pins) [] H e cls od s):Fly X pins H e cls od s:=by
 obtain ⟨T,fl,R,hm⟩:=F
 exact ⟨T,fl,R,fun b hb=>let m:=hm b hb;⟨m.un,m.new,m.loc,m.cel,fun p hp=>m.pin p (by rw [List.append_nil];exact hp)⟩⟩
abbrev TH:=Value->Option Addr->TS
noncomputable def PH (X:Cx) (hs:List ExceptHandler) (th:TH):Prop:=∀(pins:List (Addr × Obj)) (s:Shared) (σ:St) (H:Hp) (D:Ends) (e:Addr) (cls:Value) (od:Option Addr),Inv X pins σ H s->Held X pins H e cls od .none s->th cls od D σ H ->
 wpAny (model X.prog X.w) X.A (handleBy (.ref e) X.env hs) (SP X pins D) X.xe s
noncomputable def tTry (tb:(St->XK)->TS) (th:TH):TS:=fun D σ H=>tb (fun σ' cls od H'=>th cls od D σ' H') D σ H
theorem ps_try {X:Cx} {body:List Stmt} {h₀:ExceptHandler} {hs:List ExceptHandler} {pos:Pos} {tb:(St->XK)->TS} {th:TH} (B:Body X) (hb:∀pins W,PSs ((X.pin pins).wants W) body (tb W)) (hh:PH X (h₀ :: hs) th) :
 PS X (.Try body (h₀ :: hs) [] [] pos) (tTry tb th):=by
 intro pins s σ H D I h
 have un:∀f s',SP ((X.pin pins).wants fun σ' cls od H'=>th cls od D σ' H') [] D f s'->SP X pins D f s':=fun f s' z=>by
  have z:=z.unwish
  cases f with
  | next=>obtain ⟨σ',H',J,q⟩:=z;exact ⟨σ',H',J.unpnd I.ok,q⟩
  | brk=>obtain ⟨σ',H',J,q⟩:=z;exact ⟨σ',H',J.unpnd I.ok,q⟩
  | cont=>obtain ⟨σ',H',J,q⟩:=z;exact ⟨σ',H',J.unpnd I.ok,q⟩
  | ret u=>obtain ⟨v,σ',H',J,r,q⟩:=z;exact ⟨v,σ',H',J.unpnd I.ok,r,q⟩
 refine wpAny_Try_except (wpAny_mono (hb pins (fun σ' cls od H'=>th cls od D σ' H') [] s σ H D (I.pnd.wish _) h) (fun f s1 z=>?_) fun ev s1 z=>?_)
 ·cases f with
  | next=>exact wpAny_execs_nil (un .next s1 z)
  | brk=>exact un _ s1 z
  | cont=>exact un _ s1 z
  | ret u=>exact un _ s1 z
 ·obtain ⟨σ1,H1,e,cls,od,rfl,J,F,q⟩:=z
  have J':=J.unpnd I.ok
  refine J'.note B J'.ok.frames F.unpinned fun s2 I2 F2=>I2.flight F2 fun s3 I3 F3=>?_
  exact hh pins s3 σ1 H1 D e cls od I3 F3 q
structure HCls (K:PySem.W.Frag) (C:Addr):Prop where
 ty:PySem.W.typeIn K (.ref C)=some (.type "type")
 ex:PySem.W.mroIn K C (.type "BaseException")=some true
theorem HCls.isTy {K:PySem.W.Frag} {C:Addr} (c:HCls K C) {M:Model} {h:Heap} (X:K.In h):PySem.W.Looks M h (isType (.ref C)) true:=by
 obtain ⟨cd,h1,_⟩:=Option.bind_eq_some_iff.mp c.ex
 unfold PySem.W.clsIn at h1
 split at h1
 ·rename_i look
  intro A Q E s k q
  unfold isType loadHead
  exact wpAny_bind (wpAny_loadPart (k _ _ (X _ _ look)) (wpAny_pure q))
 ·cases h1
theorem exc_match {K:PySem.W.Frag} {M:Model} {A:Around} {E:Value->Shared->Prop} {s:Shared} {e C:Addr} {cls:Value} {b:Bool} {Q:Bool->Shared->Prop} (X:K.In s.heap) (c:HCls K C) (he:∃oe,s.heap.get? e=some oe/\oe.cls=cls)
 (hs:PySem.W.subIn K cls (.ref C)=some b) (h:Q b s):wpAny M A (excMatches (.ref e) (.ref C)) Q E s:=by
 obtain ⟨oe,e1,e2⟩:=he
 have L2:PySem.W.Looks M s.heap (isExcClass (.ref C)) true:=by
  unfold isExcClass
  refine (c.isTy X).andThen ?_
  simp only [if_true]
  exact PySem.W.looks_mroIn X c.ex
 have L3:PySem.W.Looks M s.heap (typeOf (.ref e)) cls:=e2 ▸ (PySem.W.Looks.ld e1).andThen .now
 have L4:PySem.W.Looks M s.heap (isSubtype cls (.ref C)) b:=PySem.W.looks_subIn X hs
 have LT:PySem.W.Looks M s.heap (isInstance (.ref C) (.type "tuple")) false:=(PySem.W.looks_typeIn X c.ty).andThen (PySem.W.Looks.of_pure tc_notTuple)
 obtain ⟨hp,g,d,tk,os⟩:=s
 unfold excMatches
 refine wpAny_bind (LT.at ?_)
 simp only [Bool.false_eq_true,if_false]
 refine wpAny_bind (wpAny_pure ?_)
 simp only [List.forIn_cons,List.forIn_nil]
 refine wpAny_bind (wpAny_bind (wpAny_bind (L2.at ?_)))
 simp only [Bool.not_true,Bool.false_eq_true,if_false]
 refine wpAny_pure (wpAny_pure (wpAny_bind (L3.at (wpAny_bind (wpAny_bind (wpAny_bind (L4.at ?_)))))))
 cases b with
 | true=>simp only [if_true];exact wpAny_pure (wpAny_pure (wpAny_pure h))
 | false=>simp only [Bool.false_eq_true,if_false];exact wpAny_pure (wpAny_pure (wpAny_pure h))
noncomputable def ends (D:Ends) (i:Nat):Ends:={ nx:=fun σ H=>D.nx (σ.set i none) H,rt:=D.rt,bk:=fun σ H=>D.bk (σ.set i none) H,ct:=fun σ H=>D.ct (σ.set i none) H }
noncomputable def thAs (K:PySem.W.Frag) (C:Addr) (i:Nat) (ts:Addr->TS) (tr:TH):TH:=fun cls od D σ H=>∃b,PySem.W.subIn K cls (.ref C)=some b /\
 if b=true then ∀e,H e=none->ts e (ends D i) (σ.set i (some (.ref e))) (upd H e (hoX e cls od)) else tr cls od D σ H
section
variable {X:Cx} {pins:List (Addr × Obj)} {σ:St} {H:Hp} {s:Shared} {e C:Addr} {cls:Value} {od:Option Addr} {x n:Str} {i:Nat} {np pos:Pos} {b₀:Stmt} {suite:List Stmt} {rest:List ExceptHandler} {ts:TS} {tr:TH}
theorem Inv.forget {h':Heap} {v:Option Value} {m:Str->Option Value} {tk:Nat} (I:Inv X pins σ H s) (hN:X.N.Nodup) (hi:X.N[i]?=some n) (hn:s.heap.Ns X.env.locals m) (hl:∀(j:Nat) (y:Str) (v:V),X.N[j]?=some y->σ[j]?=some (some v)->Vis X.env.scope y->∃u,RelV v u/\Look X.env s.heap m y u)
 (hn':h'.Ns X.env.locals (fun y=>if y=n then v else m y)) (hs:Heap.SameBut X.env.locals s.heap h'):Inv X pins (σ.set i none) H { s with heap:=h',toks:=tk }:=by
 have iσ:i < σ.length:=by rw [I.len];exact (List.getElem?_eq_some_iff.mp hi).1
 have old:∀b o,X.s₀.heap.get? b=some o->b≠X.env.locals:=fun b o z=>Nat.ne_of_lt (Nat.lt_of_lt_of_le (Heap.lt_size z) I.ok.above)
 refine ⟨I.ok,I.os,I.bare,⟨fun b o z n hb hx=>?_,fun b o z n hb hx=>?_,I.base.free,fun b o z hx=>?_,I.base.tups,I.base.frzs,I.base.tbls⟩,⟨_,hn',fun j y v' e1 e2 e3=>?_⟩,fun y c z=>?_,I.free,I.freeC,fun p hp=>?_,fun b u z=>?_,by simpa using I.len⟩
 ·exact (hs.2 b (old b o z)).trans (I.base.keep b o z n hb hx)
 ·obtain ⟨sl,y⟩:=I.base.slot b o z n hb hx
  exact ⟨sl,(hs.2 b (old b o z)).trans y⟩
 ·obtain ⟨o',y⟩:=I.base.there b o z hx
  exact ⟨o',(hs.2 b (old b o z)).trans y⟩
 ·by_cases hj:j=i
  ·subst hj
   rw [List.getElem?_set_self iσ] at e2
   cases e2
  ·rw [List.getElem?_set_ne (Ne.symm hj)] at e2
   obtain ⟨u,r,q⟩:=hl j y v' e1 e2 e3
   refine ⟨u,r,?_⟩
   rcases q with ⟨k,q⟩ | ⟨k,c,q,z⟩
   ·refine .inl ⟨k,?_⟩
    have:y≠n:=fun z=>hj (nodup_ix hN e1 (z ▸ hi))
    simp [this,q]
   ·exact .inr ⟨k,c,q,z.sameBut hs (I.cne y c q)⟩
 ·obtain ⟨w,q⟩:=I.cell y c z
  exact ⟨w,q.sameBut hs (I.cne y c z)⟩
 ·obtain ⟨z,n,ne,r⟩:=I.pin p hp
  exact ⟨(hs.2 p.1 ne).trans z,n,ne,r⟩
 ·refine (I.hok b u z).stay (fun c w hc q=>(hs.2 c ?_).trans q) (fun _ q=>q) fun _ _ q=>q
  rintro rfl
  rcases hc with y | y
  ·rw [<- y,I.free] at z;cases z
  ·rw [I.free] at y;cases y
theorem ph_as {ts:Addr->TS} (B:Body X) (hc:HCls X.K C) (hg:Gl X x) (hm:X.mg x=some (.ref C)) (nd:X.N.Nodup) (hi:X.N[i]?=some n) (hl:X.env.scope.names.lookup n=some .local) (hs:∀e,PSs (X.suite e) (b₀ :: suite) (ts e)) (hr:PH X rest tr)
 (hdb:(x == ("__debug__":Str))=false:=by decide):PH X (.ExceptHandler (some (.Name x np)) (some n) (b₀ :: suite) pos :: rest) (thAs X.K C i ts tr):=by
 intro pins s σ H D e cls od I F h
 obtain ⟨b,sb,h⟩:=h
 have I0:Inv (X.suite e) pins σ H s:=I.suite e
 have rec0:∃oe,s.heap.get? e=some oe/\oe.cls=cls:=by
  obtain ⟨t,⟨oe,_,z,y,_⟩,_⟩:=F
  exact ⟨oe,z,y⟩
 refine wpAny_handleBy_cons (codeAny_handlers_test (ld_glob (X:=X.suite e) I0 hg hm (exc_match I.kIn hc rec0 sb ?_) hdb)) (by intro z;cases z)
 cases b with
 | false=>exact hr pins s σ H D e cls od I F h
 | true =>
   have h:=h
   rw [if_pos rfl] at h
   refine codeAny_handlers_suite_as ?_
   refine Inv.flight (X:=X.suite e) (f:=none) I0 (let ⟨t,R,hm⟩:=F;⟨t,R,fun b hb=>let m:=hm b hb;⟨m.un,m.new,m.loc,m.cel,m.pin⟩⟩) fun s1 I1 F1=>?_
   obtain ⟨t,R,hm1⟩:=F1
   have m:=hm1 e (by simp)
   have xo:ExcO e cls od s1.heap:=let ⟨oe,vs,r1,r2,r3,r4,r5,_⟩:=R;⟨oe,vs,r1,r2,r3,r4,r5⟩
   have I2:=I1.track (o:=hoX e cls od) m xo.ok
   refine store_ok (X:=X.suite e) (v:=.ref e) I2 nd hi (.inl hl) rfl (fun s2 I3=>?_) (.inr hl)
   refine wpAny_mono (hs e pins s2 _ _ (ends D i) I3 (h e m.un)) (fun f s3 z=>?_) fun _ _ z=>z.elim
   have fin:∀(σ3:St) (H3:Hp) (Q:Unit->Shared->Prop),Inv (X.suite e) pins σ3 H3 s3->(∀s4,Inv X pins (σ3.set i none) H3 s4->Q () s4)->wpAny (model X.prog X.w) X.A (do bindName X.env n .none;unbindBehindTheSuite X.env n pos) Q X.xe s3:=fun σ3 H3 Q J k=>by
    have J':=J.unsuite I.ok
    obtain ⟨m0,hn,hlk⟩:=id J'.loc
    exact wpAny_nameGoes_keeps hl hn (by rw [I.ok.kind];rfl) fun h' v hn' hs'=>k _ (J'.forget nd hi hn hlk hn' hs')
   cases f with
   | next=>obtain ⟨σ3,H3,J,q⟩:=z;exact fin σ3 H3 _ J fun s4 J4=>⟨_,H3,J4,q⟩
   | brk=>obtain ⟨σ3,H3,J,q⟩:=z;exact fin σ3 H3 _ J fun s4 J4=>⟨_,H3,J4,q⟩
   | cont=>obtain ⟨σ3,H3,J,q⟩:=z;exact fin σ3 H3 _ J fun s4 J4=>⟨_,H3,J4,q⟩
   | ret u=>obtain ⟨v,σ3,H3,J,r,q⟩:=z;exact fin σ3 H3 _ J fun s4 J4=>⟨v,_,H3,J4,r,q⟩
theorem ph_never:PH X [] fun _ _ _ _ _=>False:=fun _ _ _ _ _ _ _ _ _ _ z=>z.elim
end
end L2
namespace L2
open PySem PySem.Spec PyProof.Rows
structure XGet (K:PySem.W.Frag) (C:Addr):Prop where
 ga:PySem.W.findIn K (.ref C) "__getattribute__"=some (some (.builtin "BaseException.__getattribute__"))
 gh:PySem.W.findIn K (.ref C) "__getattr__"=some none
 be:PySem.W.mroIn K C (.type "BaseException")=some true
section
variable {prog:Program} {w:World} {A:Around} {E:Value->Shared->Prop} {s:Shared} {K:PySem.W.Frag} {a C:Addr} {o:Obj} {od:Option Obj} {name:Str} {tk:Tok}
theorem xga_entry {r:Builtin.ObjectAttr.Found} {Q:Fin->Shared->Prop} (X:K.In s.heap) (I:PySem.W.InstAt s.heap a o C od) (hf:PySem.W.findObj K C od name=some r)
 (h:wpAny (model prog w) A (match r with | .value v=>ret v | .bind g b=>Builtin.ObjectAttr.bindTo g b (.ref a) (.ref C) | .missing=>unsupported "no") Q E s) (hr:r≠.missing) :
 wpAny (model prog w) A (Builtin.«object.__getattribute__» ⟨[.ref a,.str name tk],[]⟩) Q E s:=by
 obtain ⟨hh,g,d,t,os⟩:=s
 have L0:=I.type (M:=model prog w)
 have L1:=PySem.W.looks_find (M:=model prog w) X I hf
 unfold Builtin.«object.__getattribute__»
 refine wpAny_bind (wpAny_pure ?_)
 refine wpAny_bind (wpAny_pure ?_)
 refine wpAny_bind (L0.at (wpAny_bind (L1.at ?_)))
 cases r with
 | value v=>exact h
 | bind g b=>exact h
 | missing=>exact absurd rfl hr
theorem xga_check {M:Model} {v:Value} {Q:Unit->Shared->Prop} (c:XGet K C) (X:K.In s.heap) (I:PySem.W.InstAt s.heap a o C od) (h:Q () s):wpAny M A (checkBuiltinCall "BaseException.__getattribute__" ⟨[.ref a,v],[]⟩) Q E s:=by
 obtain ⟨hh,g,d,t,os⟩:=s
 have kd:builtinKind "BaseException.__getattribute__"=some .slot:=by decide +kernel
 have sp:splitId "BaseException.__getattribute__"=some ("BaseException","__getattribute__"):=by decide +kernel
 have L0:=I.type (M:=M)
 have L1:=PySem.W.looks_mroIn (M:=M) X c.be
 have LI:PySem.W.Looks M hh (isInstance (.ref a) (.type "BaseException")) true:=L0.andThen L1
 have ha:=PySem.F.args_bexc_ga (.ref a) v
 simp only [checkBuiltinCall,kd,sp]
 refine wpAny_bind (LI.at ?_)
 repeat (any_goals (first | assumption | wp_step))
theorem xattr_by {fill ex:Bool} {Q:Value->Shared->Prop} (c:XGet K C) (X:K.In s.heap) (I:PySem.W.InstAt s.heap a o C od)
 (h:wpAny (model prog w) A.in1 (Builtin.«object.__getattribute__» ⟨[.ref a,.str name tk],[]⟩) (fun fin s'=>match fin with | .done (.ret v)=>wpAny (model prog w) A (handedOut v) Q E s' | _=>False) (fun _ _=>False) s) :
 wpAny (model prog w) A (getAttrBy (.ref a) (.str name tk) fill ex) Q E s:=by
 have L0:=I.type (M:=model prog w)
 have L1:=PySem.W.looks_findIn (M:=model prog w) X c.ga
 have L2:=PySem.W.looks_findIn (M:=model prog w) X c.gh
 have f3:=PySem.F.attr_ValueError.ga.bind (.ref a)
 have n0:(Value.builtin "BaseException.__getattribute__" == Value.builtin "object.__getattribute__")=false:=by decide +kernel
 have n1:(onTheHeap (Value.ref C) && Value.builtin "BaseException.__getattribute__" == Value.builtin "object.__getattribute__")=false:=by rw [n0,Bool.and_false]
 have n2:(ex && onTheHeap (Value.builtin "BaseException.__getattribute__"))=false:=by cases ex <;> rfl
 have ck:=fun (E':Value->Shared->Prop) (Q':Unit->Shared->Prop) (z:Q' () s)=>xga_check (M:=model prog w) (A:=A.in1) (E:=E') (v:=.str name tk) (Q:=Q') c X I z
 obtain ⟨hh,g,d,t,os⟩:=s
 unfold getAttrBy
 refine wpAny_holding (wpAny_bind (L0.at (wpAny_bind (L1.at ?_))))
 simp only [n1,Bool.false_eq_true,if_false]
 unfold getAttrByItsOwn hookBefore
 refine wpAny_bind ?_
 rw [if_pos (show onTheHeap (Value.ref C)=true from rfl)]
 refine L2.at ?_
 refine wpAny_bind (wpAny_attempt ?_)
 unfold callGetattribute
 simp only [n2,Bool.false_eq_true,if_false]
 refine wpAny_holding ?_
 unfold boundAndCalled
 refine wpAny_bind (wpAny_of_eq f3 ?_)
 refine wpAny_call (codeAny_call_builtin PySem.F.attr_ValueError.ga.plain PySem.F.entry_bexc_ga (ck _ _ ?_))
 refine wpAny_mono h (fun fin s' z=>?_) fun _ _ z=>z.elim
 rcases fin with (_ | _ | _ | _) | _ <;> first | exact z | exact z.elim
theorem xget_class {Q:Option Value->Shared->Prop} (c:XGet K C) (X:K.In s.heap) (I:PySem.W.InstAt s.heap a o C od) (hf:PySem.W.findObj K C od "__class__"=some (.bind (.builtin "getset_descriptor.__get__") (.builtin "object.__class__"))) (hm:PySem.W.mroIn K C (.type "object")=some true)
 (h:Q (some (.ref C)) { s with toks:=s.toks+1 }):wpAny (model prog w) A (getAttr? (.ref a) "__class__") Q E s:=by
 unfold getAttr? getAttrBy?
 refine wpAny_bind (wpAny_mkText (wpAny_bind (wpAny_attempt ?_)))
 refine xattr_by (s:={ s with toks:=s.toks+1 }) c X I (xga_entry (s:={ s with toks:=s.toks+1 }) X I hf ?_ (by intro z;cases z))
 show wpAny _ _ (holding _ _ >>= ret) _ _ _
 refine wpAny_bind (wpAny_holding (wpAny_call (PySem.W.class_get (s:={ s with toks:=s.toks+1 }) X I hm ?_)))
 exact wpAny_pure (PySem.W.handed_on rfl (wpAny_pure h))
end
structure XKit (K:PySem.W.Frag) (C:Addr):Prop extends XGet K C where
 cl:PySem.W.findIn K (.ref C) "__class__"=some (some (.builtin "object.__class__"))
 gt:PySem.W.specialIn K (.builtin "object.__class__") "__get__"=some (some (.builtin "getset_descriptor.__get__"))
 tk:PySem.W.takesIn K (.builtin "object.__class__")=some true
 ob:PySem.W.mroIn K C (.type "object")=some true
theorem XKit.find {K:PySem.W.Frag} {C:Addr} (c:XKit K C) (od:Option Obj):PySem.W.findObj K C od "__class__"=some (.bind (.builtin "getset_descriptor.__get__") (.builtin "object.__class__")):=by
 obtain ⟨cd,h1,_⟩:=Option.bind_eq_some_iff.mp c.ob
 unfold PySem.W.findObj
 rw [h1,Option.bind_some,c.cl,Option.bind_some]
 simp only [c.gt,Option.bind_some,c.tk]
theorem ExcO.inst {h:Heap} {e C:Addr} (x:ExcO e (.ref C) none h):∃o,PySem.W.InstAt h e o C none:=by
 obtain ⟨o,vs,h1,h2,h3,h4,_⟩:=x
 refine ⟨o,h1,h2,?_,?_⟩
 ·unfold PySem.W.notCls;rw [h4]
 ·rw [h3];trivial
theorem ExcO.instD {h:Heap} {e C dx:Addr} {od:Obj} (x:ExcO e (.ref C) (some dx) h) (hd:h.get? dx=some od):∃o,PySem.W.InstAt h e o C (some od):=by
 obtain ⟨o,vs,h1,h2,h3,h4,_⟩:=x
 refine ⟨o,h1,h2,?_,?_⟩
 ·unfold PySem.W.notCls;rw [h4]
 ·rw [h3];exact hd
theorem kitx_exc {K:PySem.W.Frag} {e C:Addr} {od:Option Obj} (c:XKit K C):PySem.W.KitX K (.ref e) (.ref C) (fun h=>∃o,PySem.W.InstAt h e o C od):=by
 have cd:∃c' d' cd sl,K.lookup C=some ⟨c',d',.cls cd,sl⟩:=by
  obtain ⟨cd,h1,_⟩:=Option.bind_eq_some_iff.mp c.ob
  unfold PySem.W.clsIn at h1
  split at h1
  ·rename_i look;exact ⟨_,_,_,_,look⟩
  ·cases h1
 obtain ⟨c',d',cd,sl,look⟩:=cd
 refine ⟨fun M h X ⟨o,I⟩=>I.type,fun M h X _=>?_,fun h tp dd its n sl' X z=>?_,fun {_ _ _ _ _ s} X ⟨o,I⟩ q=>xget_class c.toXGet X I (c.find od) c.ob q⟩
 ·intro A Q E s k q
  unfold isType loadHead
  exact wpAny_bind (wpAny_loadPart (k _ _ (X _ _ look)) (wpAny_pure q))
 ·refine Bool.eq_false_iff.mpr fun q=>?_
  obtain rfl:C=tp:=Value.ref.inj (beq_iff_eq.mp q)
  cases (X _ _ look).symm.trans z
noncomputable def XdO (dx:Addr) (fs:List (Str × V)):Heap->Prop:=fun h=>∃mA,h.Ns1 dx mA/\(∀f,RelO (fs.lookup f) (mA f))/\PySem.Within mA (fs.map (·.1))
abbrev hoD (dx:Addr) (fs:List (Str × V)):HO:=.ext (XdO dx fs)
noncomputable def XDict (H:Hp) (od:Option Addr):Prop:=od=none\/∃dx fs,od=some dx/\H dx=some (hoD dx fs)
section
variable {X:Cx}
theorem exc_kit {pins:List (Addr × Obj)} {σ:St} {H:Hp} {s:Shared} {e C:Addr} {od:Option Addr} (I:Inv X pins σ H s) (c:XKit X.K C) (ha:H e=some (hoX e (.ref C) od)) (hd:XDict H od) :
 ∃P:Heap->Prop,P s.heap/\PySem.W.KitX X.K (.ref e) (.ref C) P:=by
 obtain ⟨xo,_,_⟩:=(show ObjOk X.prog X.w H s.heap e (hoX e (.ref C) od) from I.hok e _ ha)
 rcases hd with rfl | ⟨dx,fs,rfl,hx⟩
 ·exact ⟨_,xo.inst,kitx_exc c⟩
 ·obtain ⟨ob,y⟩:=I.hok.there hx
  exact ⟨_,xo.instD y,kitx_exc (od:=some ob) c⟩
noncomputable def vCls:V->Option Value
 | .ref a=>some (.ref a)
 | .ty n=>some (.type n)
 | _=>none
theorem vCls_rel {c:V} {u v:Value} (h:vCls c=some u) (r:RelV c v):v=u:=by
 cases c with
 | ref a=>cases h;exact r
 | ty n=>cases h;exact r
 | _=>cases h
theorem vCls_all:∀{cs:List V} {us vs:List Value},cs.map vCls=us.map some->Vals cs vs->vs=us
 | [],[],_,_,.nil=>rfl
 | [],_ :: _,_,h,_=>by cases h
 | _ :: _,[],_,h,_=>by cases h
 | c :: cs,u :: us,_,h,.cons r rs=>by
   rw [List.map_cons,List.map_cons] at h
   injection h with h1 h2
   rw [vCls_rel h1 r,vCls_all h2 rs]
noncomputable def rIsX (K:PySem.W.Frag):List V->Hp->VK->Prop:=fun xs H Q=>∃e C od c u b,xs=[.ref e,c]/\H e=some (hoX e (.ref C) od)/\XDict H od/\XKit K C/\vCls c=some u/\PySem.W.kitOne K (.ref C) u=some b/\Q (.bl b) H
theorem call_isx {K:PySem.W.Frag} (hK:X.K=K:=by rfl):CallR X (.builtin "isinstance") (rIsX K):=by
 subst hK
 intro pins s σ H xs us Q I rv h
 obtain ⟨e,C,od,c,u,b,rfl,ha,hd,ck,rc,k,q⟩:=h
 obtain ⟨u1,u2,rfl,r1,r2⟩:=vals2 rv
 obtain rfl:u1=Value.ref e:=r1
 obtain rfl:=vCls_rel rc r2
 obtain ⟨P,p,Z⟩:=exc_kit I ck ha hd
 exact PySem.W.kia_one Z I.kIn p k (fun z=>nomatch z) fun tk=>⟨.bl b,H,I.tok tk,rfl,q⟩
noncomputable def rIsXT (K:PySem.W.Frag):List V->Hp->VK->Prop:=fun xs H Q=>∃e C od t cs us b,xs=[.ref e,.ref t]/\H e=some (hoX e (.ref C) od)/\XDict H od/\XKit K C/\SqT K H t cs/\cs.map vCls=us.map some/\PySem.W.kitAny K (.ref C) us=some b/\Q (.bl b) H
theorem call_isxT {K:PySem.W.Frag} (hK:X.K=K:=by rfl):CallR X (.builtin "isinstance") (rIsXT K):=by
 subst hK
 intro pins s σ H xs us Q I rv h
 obtain ⟨e,C,od,t,cs,vs,b,rfl,ha,hd,ck,ht,rc,k,q⟩:=h
 obtain ⟨u1,u2,rfl,r1,r2⟩:=vals2 rv
 obtain rfl:u1=Value.ref e:=r1
 obtain rfl:u2=Value.ref t:=r2
 obtain ⟨P,p,Z⟩:=exc_kit I ck ha hd
 obtain ⟨its,rt,tt,_⟩:=I.tuple ht
 obtain rfl:=vCls_all rc rt
 obtain ⟨⟨c1,d1,dt,sl⟩,h1,h2,n,h3⟩:=tt
 dsimp only at h2 h3
 subst h2 h3
 exact PySem.W.kia_tup Z I.kIn p h1 k (fun z=>nomatch z) fun tk=>⟨.bl b,H,I.tok tk,rfl,q⟩
end
end L2
namespace L2
open PySem PySem.Spec PyProof.Rows
section
variable {X:Cx}
end
section
variable {K:PySem.W.Frag} {H H':Hp} {x:V} {b:Bool}
theorem kit_tt {T c:String} (h:(if ((Value.type T) == (Value.type c))=true then some true else (if PySem.W.kitMeta c=true then (PySem.fastBuiltinMro T).map (·.contains (Value.type c)) else none))=some b):PySem.W.kitOne K (.type T) (.type c)=some b:=h
noncomputable def Wh (K:PySem.W.Frag) (H:Hp) (x:V) (b:Bool):Prop:=∃t b1 b2,TyOf K H x t/\PySem.W.kitOne K t (.type "int")=some b1/\PySem.W.kitOne K t (.type "bool")=some b2/\(b1 && !b2)=b
theorem Wh.int (i:Int):Wh K H (.int i) true:=⟨_,_,_,.int i,kit_int_int,kit_int_bool,rfl⟩
theorem Wh.bl (c:Bool):Wh K H (.bl c) false:=⟨_,true,true,.bl c,kit_tt (by decide +kernel),kit_bool_bool,rfl⟩
theorem Wh.non:Wh K H .non false:=⟨_,false,false,.non,kit_tt (by decide +kernel),kit_tt (by decide +kernel),rfl⟩
theorem Wh.str (z:Str):Wh K H (.str z) false:=⟨_,false,false,.str z,kit_tt (by decide +kernel),kit_tt (by decide +kernel),rfl⟩
theorem Wh.tup {a:Addr} {xs:List V} (h:H a=some (.tup xs)):Wh K H (.ref a) false:=⟨_,false,false,.tup h,kit_tt (by decide +kernel),kit_tt (by decide +kernel),rfl⟩
theorem Wh.lst {a:Addr} {xs:List V} (h:H a=some (.lst xs)):Wh K H (.ref a) false:=⟨_,false,false,.lst h,kit_tt (by decide +kernel),kit_tt (by decide +kernel),rfl⟩
theorem Wh.dK {a:Addr} {kvs:List (Key × V)} (h:H a=some (.dK kvs)):Wh K H (.ref a) false:=⟨_,false,false,.dK h,kit_tt (by decide +kernel),kit_tt (by decide +kernel),rfl⟩
theorem TyOf.same {t:Value} (e:Same H H') (h:TyOf K H x t):TyOf K H' x t:=by
 cases h with
 | non=>exact .non
 | bl c=>exact .bl c
 | int i=>exact .int i
 | str z=>exact .str z
 | flt z=>exact .flt z
 | lst q=>exact .lst (e _ _ q)
 | frz q=>exact .frz (e _ _ q)
 | tup q=>exact .tup (e _ _ q)
 | dK q=>exact .dK (e _ _ q)
 | dT q=>exact .dT (e _ _ q)
 | ins q cl ha hn htk hm=>exact .ins (e _ _ q) cl ha hn htk hm
theorem Wh.same (e:Same H H') (h:Wh K H x b):Wh K H' x b:=by
 obtain ⟨t,b1,b2,ty,r⟩:=h
 exact ⟨t,b1,b2,ty.same e,r⟩
end
section
variable {K:PySem.W.Frag} {A B:Addr}
theorem HCls.some {C:Addr} (c:HCls K C):(PySem.W.clsIn K C).isSome=true:=by
 obtain ⟨cd,h1,_⟩:=Option.bind_eq_some_iff.mp c.ex
 rw [h1];rfl
theorem kit_cc {b:Bool} (c:HCls K B) (h:PySem.W.subIn K (.ref A) (.ref B)=some b) (s:PySem.W.subIn K (.ref A) (.ref A)=some true):PySem.W.kitOne K (.ref A) (.ref B)=some b:=by
 unfold PySem.W.kitOne
 by_cases e:A=B
 ·subst e
  rw [h] at s
  cases s
  rw [if_pos (beq_self_eq_true _)]
 ·rw [if_neg (fun q=>e (Value.ref.inj (beq_iff_eq.mp q)))]
  show (if ((PySem.W.clsIn K B).isSome && PySem.W.typeIn K (.ref B) == some (.type "type"))=true then PySem.W.subIn K (.ref A) (.ref B) else none)=_
  rw [c.some,c.ty,if_pos (by rfl)]
  exact h
theorem kit_cv {T:String} {b:Bool} (m:PySem.W.kitMeta T=true) (h:PySem.W.subIn K (.ref A) (.type T)=some b):PySem.W.kitOne K (.ref A) (.type T)=some b:=by
 unfold PySem.W.kitOne
 rw [if_neg (fun q=>by cases beq_iff_eq.mp q)]
 show (if PySem.W.kitMeta T=true then PySem.W.subIn K (.ref A) (.type T) else none)=_
 rw [if_pos m]
 exact h
theorem kitMeta_ve:PySem.W.kitMeta "ValueError"=true:=by decide +kernel
end
end L2
namespace L2
open PySem PySem.Spec PyProof.Rows
end L2
namespace L2
open PySem PySem.Spec PyProof.Rows
section
variable {prog:Program} {w:World} {A:Around} {E:Value->Shared->Prop} {s:Shared} {K:PySem.W.Frag} {C P f x:Addr} {ox:Obj} {od:Option Obj} {name:Str} {v:Value}
end
end L2
namespace L2
open PySem PySem.Spec PyProof.Rows
section
variable {prog:Program} {w:World} {A:Around} {E:Value->Shared->Prop} {h:Heap} {g:Array GenState} {d:Drawn} {t:Nat} {os:OsState}
variable {nm q:Str} {C N:Addr} {bs bm:List Value} {hd:Bool} {sn:List Str} {sub:List Value} {ab:Bool} {col:Option Bool} {dd:Option Addr} {k0 k1 k2 k3 k5:Option Value}
end
section
variable {X:Cx} {W:St->XK} {C P fi:Addr} {k:Nat} {fd:FuncData} {ps ns:List Str} {x:Str} {p cpos pos:Pos} {e:Expr} {es:List Expr} {t:TA}
end
end L2
namespace L2
open PySem PySem.Spec PyProof.Rows
mutual
inductive Rep (K:PySem.W.Frag) (H:Hp):V->PyData->Prop
 | non:Rep K H .non .none
 | bl (b:Bool):Rep K H (.bl b) (.bool b)
 | int (i:Int):Rep K H (.int i) (.int i)
 | str (x:Str):Rep K H (.str x) (.str x)
 | lst {a:Addr} {xs:List V} {ds:List PyData}:SqL K H a xs->Reps K H xs ds->Rep K H (.ref a) (.list ds)
 | tup {a:Addr} {xs:List V} {ds:List PyData}:SqT K H a xs->Reps K H xs ds->Rep K H (.ref a) (.tuple ds)
inductive Reps (K:PySem.W.Frag) (H:Hp):List V->List PyData->Prop
 | nil:Reps K H [] []
 | cons {x:V} {xs:List V} {d:PyData} {ds:List PyData}:Rep K H x d->Reps K H xs ds->Reps K H (x :: xs) (d :: ds)
end
section
variable {K:PySem.W.Frag} {H H':Hp}
mutual
theorem Rep.same (e:Same H H'):∀{x:V} {d:PyData},Rep K H x d->Rep K H' x d
 | _,_,.non=>.non
 | _,_,.bl b=>.bl b
 | _,_,.int i=>.int i
 | _,_,.str x=>.str x
 | _,_,.lst h r=>.lst (e.seq h) (Reps.same e r)
 | _,_,.tup h r=>.tup (by
  rcases h with (h | ⟨o,h⟩) | h
  ·exact .inl (.inl (e _ _ h))
  ·exact .inl (.inr ⟨o,e _ _ h⟩)
  ·exact .inr h) (Reps.same e r)
theorem Reps.same (e:Same H H'):∀{xs:List V} {ds:List PyData},Reps K H xs ds->Reps K H' xs ds
 | _,_,.nil=>.nil
 | _,_,.cons r t=>.cons (Rep.same e r) (Reps.same e t)
end
theorem Reps.ints:∀(ns:List Int),Reps K H (ns.map V.int) (ns.map PyData.int)
 | []=>.nil
 | n :: ns=>.cons (.int n) (Reps.ints ns)
end
section
variable {X:Cx} {pins:List (Addr × Obj)} {σ:St} {H:Hp} {s:Shared}
mutual
theorem Inv.reads (I:Inv X pins σ H s):∀{x:V} {d:PyData},Rep X.K H x d->∀{v:Value},RelV x v->∃as,Reads s.heap v d as
 | _,_,.non,v,r=>by cases (show v=Value.none from r);exact ⟨_,.none⟩
 | _,_,.bl b,v,r=>by cases (show v=Value.bool b from r);exact ⟨_,.bool b⟩
 | _,_,.int i,v,r=>by obtain ⟨t,e⟩:=(show ∃t,v=Value.int i t from r);cases e;exact ⟨_,.int i t⟩
 | _,_,.str x,v,r=>by obtain ⟨t,e⟩:=(show ∃t,v=Value.str x t from r);cases e;exact ⟨_,.str x t⟩
 | _,_,.lst (a:=a) h rs,v,r=>by
   cases (show v=Value.ref a from r)
   obtain ⟨its,rv,⟨o,n,e1,e2,_,e4⟩,_⟩:=I.list h
   obtain ⟨as,q⟩:=Inv.readsAll I rs rv
   exact ⟨_,.list e1 e2 e4 q⟩
 | _,_,.tup (a:=a) h rs,v,r=>by
   cases (show v=Value.ref a from r)
   obtain ⟨its,rv,⟨o,e1,e2,n,e4⟩,_⟩:=I.tuple h
   obtain ⟨as,q⟩:=Inv.readsAll I rs rv
   exact ⟨_,.tuple e1 e2 e4 q⟩
theorem Inv.readsAll (I:Inv X pins σ H s):∀{xs:List V} {ds:List PyData},Reps X.K H xs ds->∀{vs:List Value},Vals xs vs->∃as,ReadsAll s.heap vs ds as
 | _,_,.nil,_,.nil=>⟨_,.nil⟩
 | _,_,.cons r t,_,.cons q u=>by
   obtain ⟨a1,h1⟩:=Inv.reads I r q
   obtain ⟨a2,h2⟩:=Inv.readsAll I t u
   exact ⟨_,.cons h1 h2⟩
end
noncomputable def rEqD (K:PySem.W.Frag):R2:=fun x y H Q=>∃d e,Rep K H x d/\Rep K H y e/\PySem.SeqAt.shaped d=true/\PySem.SeqAt.shaped e=true/\Q (.bl (PyData.eqv d e)) H
noncomputable def rNeD (K:PySem.W.Frag):R2:=fun x y H Q=>∃d e,Rep K H x d/\Rep K H y e/\PySem.SeqAt.shaped d=true/\PySem.SeqAt.shaped e=true/\Q (.bl (!PyData.eqv d e)) H
theorem op_eqD {K:PySem.W.Frag} (hu:X.A.units+64 < cLine) (hK:X.K=K:=by rfl):OpR X (compareOp .Eq) (rEqD K):=by
 subst hK
 intro pins s σ H x y v u Q I rx ry h
 obtain ⟨d,e,hx,hy,s1,s2,q⟩:=h
 obtain ⟨as,r1⟩:=I.reads hx rx
 obtain ⟨bs,r2⟩:=I.reads hy ry
 exact eq_dataH r1 r2 s1 s2 hu ⟨.bl _,H,I,rfl,q⟩
theorem op_neD {K:PySem.W.Frag} (hu:X.A.units+64 < cLine) (hK:X.K=K:=by rfl):OpR X (compareOp .NotEq) (rNeD K):=by
 subst hK
 intro pins s σ H x y v u Q I rx ry h
 obtain ⟨d,e,hx,hy,s1,s2,q⟩:=h
 obtain ⟨as,r1⟩:=I.reads hx rx
 obtain ⟨bs,r2⟩:=I.reads hy ry
 exact ne_dataH r1 r2 s1 s2 hu ⟨.bl _,H,I,rfl,q⟩
end
end L2
namespace L2
open PySem PySem.Spec PyProof.Rows
theorem lri_nolen:typeLookup (.type "list_reverseiterator") "__len__"=pure none:=by rw [typeLookup_type,builtinLookup_eq_fast];kernel_rfl
theorem lri_hint:typeLookup (.type "list_reverseiterator") "__length_hint__"=pure (some (.builtin "list_reverseiterator.__length_hint__")):=by rw [typeLookup_type,builtinLookup_eq_fast];kernel_rfl
section
variable {prog:Program} {w:World} {A:Around} {E:Value->Shared->Prop} {s:Shared}
theorem lri_size {I:Addr} {Q:Bool->Shared->Prop} (hT:s.TypeIs (.ref I) "list_reverseiterator") (h:Q false s):wpAny (model prog w) A (Builtin.List.listLengthHint (.ref I)) Q E s:=by
 unfold Builtin.List.listLengthHint
 refine wpAny_bind (wpAny_specialOf hT lri_nolen ?_)
 show wpAny _ A (specialOf (Value.ref I) (Str.ofString "__length_hint__") >>= _) _ _ _
 refine wpAny_bind (wpAny_specialOf hT lri_hint ?_)
 generalize hid:("list_reverseiterator.__length_hint__":String)=id0
 wp_delta
 rw [show splitId id0=some ("list_reverseiterator","__length_hint__") from by subst hid;decide +kernel]
 subst hid
 refine wpAny_bind (wpAny_isInstance (b:=true) hT (by rw [isSubtype_type];kernel_rfl) ?_)
 exact wpAny_pure h
theorem rev_items {items acc:Array Value} (h:ItemsOf (fun i v=>items[items.size - 1 - i]?=some v) acc items.size):acc=items.toList.reverse.toArray:=by
 obtain ⟨h1,h2⟩:=h
 apply Array.ext
 ·simpa using h1
 ·intro i hi hj
  have e:items[items.size - 1 - i]?=some acc[i]:=h2 i acc[i] (by simp [hi])
  have hi':i < items.size:=by omega
  rw [Array.getElem?_eq_getElem (by omega)] at e
  simp only [List.getElem_toArray,List.getElem_reverse,Array.getElem_toList,Array.length_toList]
  exact (Option.some.inj e).symm
theorem lri_extend {I l S:Addr} {items:Array Value} {R:Result->Shared->Prop} {c₀:Nat} (hh:A.handled=none) (hne:l≠I) (hit:s.heap.IsRevIter I l ((items.size:Int) - 1)) (hl:s.heap.IsList l items)
 (hSI:S≠I) (hSl:S≠l) (hz:items.size<=sizeLine) (hS:s.heap.get? S=some { cls:=.type "list",data:=.seq #[] c₀ })
 (hR:∀s' c',Moved [S,I] (fun a b=>b=a) s s'->s'.heap.get? S=some { cls:=.type "list",dict:=none,data:=.seq items.toList.reverse.toArray c',slots:=#[] }->R (.ok (.ret .none)) s') :
 wpAny (model prog w) A.in1 (Builtin.List.listExtendWith (.ref S) (.ref I) .none)
  (fun fin s'=>match fin with | .done f=>R (.ok f) s' | .again c'=>c'.quiet=true/\codeAny (model prog w) A c' R s') (fun e s'=>R (.error e) s') s:=by
 have W:=(Walks.listRev (prog:=prog) (w:=w) (A:=A.in1) hh I l hne items).toS
 have st:(0:Nat)<=items.size/\s.heap.IsRevIter I l ((items.size:Int) - 1 - ((0:Nat):Int))/\s.heap.IsList l items:=⟨Nat.zero_le _,by simpa using hit,hl⟩
 have hT:=hit.typeIs
 unfold Builtin.List.listExtendWith
 refine wpAny_bind (wpAny_typeOf hT ?_)
 have h1:Builtin.List.listSameRef (.ref S) (.ref I)=false:=by simp [Builtin.List.listSameRef,hSI]
 rw [if_neg (by rw [h1];decide)]
 refine wpAny_bind (wpAny_pyIter_revIter hit ?_)
 refine wpAny_bind (wpAny_holding (lri_size hT ?_))
 rw [if_neg (by decide)]
 refine wpAny_pure ⟨plainId_quiet F.plain_extend_loop _,codeAny_extend_loopS W hz S (by simp [hSI,hSl]) .none items.size 0 _ _ _ rfl (Nat.zero_le _) st hS (ItemsOf.nil _) fun s' acc c' hm hS' hacc=>?_⟩
 rw [rev_items hacc] at hS'
 exact hR s' c' hm hS'
theorem call_list_rev {I l:Addr} {items:Array Value} {Q:Value->Shared->Prop} (hh:A.handled=none) (hne:l≠I) (hit:s.heap.IsRevIter I l ((items.size:Int) - 1)) (hl:s.heap.IsList l items) (hz:items.size<=sizeLine)
 (hQ:∀h' tk c',(∀b o,b≠I->s.heap.get? b=some o->h'.get? b=some o)->h'.get? s.heap.objs.size=some { cls:=.type "list",dict:=none,data:=.seq items.toList.reverse.toArray c',slots:=#[] } ->
  Q (.ref s.heap.objs.size) { s with heap:=h',toks:=tk }):wpAny (model prog w) A (call (.type "list") [.ref I]) Q E s:=by
 refine callType_codes (Q₁:=fun obj s₁=>obj=.ref s.heap.objs.size/\s₁={ s with heap:=s.heap.push { cls:=.type "list",data:=.seq #[] } }) F.called_list (F.typeCall_list_1 _) F.entry_list_init (code_list_new _ ⟨rfl,rfl⟩) ?_
 rintro obj s₁ ⟨rfl,rfl⟩
 have hS:(s.heap.push { cls:=.type "list",data:=.seq #[] }).get? s.heap.objs.size=some { cls:=.type "list",data:=.seq #[] }:=Heap.get?_push_size _ rfl
 refine ⟨⟨_,hS,rfl⟩,F.args_list_init_2 _ _,?_⟩
 have lI:I < s.heap.objs.size:=by obtain ⟨o,ho,_⟩:=hit;exact Heap.lt_size ho
 have ll:l < s.heap.objs.size:=by obtain ⟨o,ho,_⟩:=hl;exact Heap.lt_size ho
 show wpAny _ A.in1.in1 (do let old <- Builtin.List.listItems (.ref s.heap.objs.size);Builtin.List.listUpdate (.ref s.heap.objs.size) (fun _=>#[]);letGo old.toList.reverse;Builtin.List.listExtendWith (.ref s.heap.objs.size) (.ref I) .none) _ _ _
 refine wpAny_bind ?_
 unfold Builtin.List.listItems
 refine wpAny_bind (wpAny_seqItems hS rfl (wpAny_pure ?_))
 show wpAny _ A.in1.in1 (updateSeq s.heap.objs.size (fun _=>#[]) >>= fun _=>letGo (#[]:Array Value).toList.reverse >>= fun _=>Builtin.List.listExtendWith (.ref s.heap.objs.size) (.ref I) .none) _ _ _
 refine wpAny_bind (wpAny_updateSeq hS rfl ?_)
 have hS₂:=Heap.get?_update_self (Obj.mapSeq (fun _=>(#[]:Array Value))) hS rfl
 have oth:∀b o,s.heap.get? b=some o->((s.heap.push { cls:=.type "list",data:=.seq #[] }).update s.heap.objs.size (Obj.mapSeq (fun _=>(#[]:Array Value)))).get? b=some o :=
  fun b o e=>(Heap.get?_update_other _ _ (Ne.symm (Nat.ne_of_lt (Heap.lt_size e)))).trans (Heap.get?_push_of_some _ e)
 refine wpAny_bind (wpAny_letGo ?_)
 refine lri_extend (A:=A.in1) hh hne (hit.at (oth I)) (hl.at (oth l)) (Ne.symm (Nat.ne_of_lt lI)) (Ne.symm (Nat.ne_of_lt ll)) hz hS₂ fun s' c' hm hS'=>?_
 refine ⟨rfl,?_⟩
 rw [Moved.eq_with hm]
 exact hQ s'.heap s'.toks c' (fun b o hb e=>hm.heap b o (by simp [hb,Nat.ne_of_lt (Heap.lt_size e)]) (oth b o e)) hS'
end
section
variable {X:Cx} {e:Expr} {te:TE} {p p2 pos pos2:Pos}
noncomputable def tRev (K:PySem.W.Frag) (te:TE):TE:=fun σ H Q=>te σ H fun x H1=>∃a ys,x=.ref a/\SqL K H1 a ys/\∀l,H1 l=none->Q (.ref l) (upd H1 l (.lst ys.reverse))
theorem pe_listrev (hc:X.calm=true) (hg:Gl X "list") (hm:X.mg "list"=none) (hg2:Gl X "reversed") (hm2:X.mg "reversed"=none) (he:PE X e te)
 (hs:starEach [e] X.env=[(false,eval e X.env)]:=by rfl)
 (hs2:starEach [(.Call (.Name "reversed" p2) [e] [] pos2:Expr)] X.env=[(false,eval (.Call (.Name "reversed" p2) [e] [] pos2) X.env)]:=by rfl) :
 PE X (.Call (.Name "list" p) [.Call (.Name "reversed" p2) [e] [] pos2] [] pos) (tRev X.K te):=by
 intro pins s σ H Q I h
 refine wpAny_Call_Name_kw (ld_blt I hg hm boot_list ?_ (by decide) (by decide))
 refine callWith_type1 ?_ hs2 rfl
 rw [hs2]
 refine Calls.spliced_cons ?_
 refine wpAny_Call_Name_kw (ld_blt I hg2 hm2 boot_reversed ?_ (by decide) (by decide))
 refine callWith_type1 ?_ hs rfl
 rw [hs]
 refine Calls.spliced_cons (thn (he pins s σ H _ I h) fun u s1 ⟨x,H1,I1,r1,a,ys,hx,hq,q⟩=>?_)
 subst hx
 cases r1
 refine Calls.spliced_nil ?_
 obtain ⟨its,rv,pl,hz⟩:=I1.list hq
 have hl:=pl.isList
 have hlen:=rv.length
 refine call_reversed_list hl ?_
 refine Calls.spliced_nil ?_
 have la:a < s1.heap.objs.size:=by obtain ⟨o,ho,_⟩:=hl;exact Heap.lt_size ho
 refine call_list_rev (items:=its.toArray) (I1.ok.hd hc) (Nat.ne_of_lt la) ⟨_,Heap.get?_push_size _ rfl,rfl,rfl⟩ (hl.at fun o e=>Heap.get?_push_of_some _ e) (by simp only [List.size_toArray];omega) fun h' tk c' kp eS=>?_
 have kp':∀b o,s1.heap.get? b=some o->h'.get? b=some o:=fun b o e=>kp b o (Nat.ne_of_lt (Heap.lt_size e)) (Heap.get?_push_of_some _ e)
 have hp:s1.heap.objs.size<=(s1.heap.push (revObj a ((its.toArray.size:Int) - 1))).objs.size:=by simp [Heap.push]
 refine ⟨.ref _,_,I1.laid (t':=tk) kp' hp (show ObjOk X.prog X.w _ h' _ (.lst ys.reverse) from ⟨by simpa using hz,its.reverse,c',rv.reverse,by simpa using eS⟩),rfl,q _ (I1.hok.fresh hp)⟩
end
end L2
namespace L2
open PySem PySem.W PySem.Spec PyProof.Rows
section
variable {O:KeyOrd} {ky:Nat->O.α} {n:Nat} {cmp:Nat->Nat->(Bool->Shared->Prop)->Shared->Prop} {J:Shared->Prop}
noncomputable def kk (ky:Nat->O.α) (p:Array Nat) (i:Nat):O.α:=ky (p.getD i 0)
noncomputable def Srt (ky:Nat->O.α) (p:Array Nat) (m:Nat):Prop:=∀i j,i<=j->j < m->O.kle (kk ky p i) (kk ky p j)
noncomputable def Fal (ky:Nat->O.α) (p:Array Nat) (m:Nat):Prop:=∀i j,i<=j->j < m->O.kle (kk ky p j) (kk ky p i)
noncomputable def Prm (n:Nat) (p:Array Nat):Prop:=p.toList.Perm (List.range n)
noncomputable def Asks (O:KeyOrd) (ky:Nat->O.α) (n:Nat) (cmp:Nat->Nat->(Bool->Shared->Prop)->Shared->Prop) (J:Shared->Prop):Prop :=
 ∀i j (C:Bool->Shared->Prop) s,i < n->j < n->J s->(∀s',J s'->C (O.blt (ky i) (ky j)) s')->cmp i j C s
theorem Prm.size {p:Array Nat} (h:Prm n p):p.size=n:=by
 have:=h.length_eq
 rw [List.length_range] at this
 exact this
theorem Prm.lt {p:Array Nat} (h:Prm n p) {k:Nat} (hk:k < n):p.getD k 0 < n:=by
 have hz:=h.size
 have e:p.getD k 0=p[k]'(by omega):=by simp [Array.getD,hz,hk]
 rw [e]
 exact List.mem_range.mp (h.mem_iff.mp (by simp))
theorem Prm.rev {p:Array Nat} (h:Prm n p) (i j:Nat):Prm n (kas_rev p i j):=(mirror_perm p i j _).toList.trans h
theorem Prm.bub {p:Array Nat} (h:Prm n p) (k d:Nat):Prm n (bubble p k d):=(bubble_perm p k d).toList.trans h
theorem getD_of {p q:Array Nat} {i j:Nat} (e:p[i]?=q[j]?):p.getD i 0=q.getD j 0:=by
 rw [Array.getD_eq_getD_getElem?,Array.getD_eq_getD_getElem?,e]
theorem kk_rev {p:Array Nat} {i j:Nat} (hj:j<=p.size) (k:Nat):kk ky (kas_rev p i j) k=if i<=k/\k < j then kk ky p (i+j - 1 - k) else kk ky p k:=by
 have e:=getElem?_mirror_all (xs:=p) (i:=i) hj k
 unfold kk kas_rev
 by_cases c:i<=k/\k < j
 ·rw [if_pos c] at e ⊢
  rw [getD_of e]
 ·rw [if_neg c] at e ⊢
  rw [getD_of e]
theorem kk_bub {p:Array Nat} {src d:Nat} (hs:src < p.size) (hd:d<=src) (k:Nat) :
 kk ky (bubble p src d) k=if k=src - d then kk ky p src else if src - d < k/\k<=src then kk ky p (k - 1) else kk ky p k:=by
 have e:=getElem?_bubble hs d hd k
 unfold kk
 by_cases c:k=src - d
 ·rw [if_pos c] at e ⊢
  rw [getD_of e]
 ·rw [if_neg c] at e ⊢
  by_cases c2:src - d < k/\k<=src
  ·rw [if_pos c2] at e ⊢
   rw [getD_of e]
  ·rw [if_neg c2] at e ⊢
   rw [getD_of e]
theorem Srt.succ {p:Array Nat} {m:Nat} (h:Srt ky p m) (h1:1<=m) (c:O.kle (kk ky p (m - 1)) (kk ky p m)):Srt ky p (m+1):=fun i j hij hj=>by
 by_cases e:j=m
 ·subst e
  by_cases e2:i=j
  ·subst e2
   exact KeyOrd.kle_refl _
  ·exact KeyOrd.kle_trans (h i (j - 1) (by omega) (by omega)) c
 ·exact h i j hij (by omega)
theorem Fal.succ {p:Array Nat} {m:Nat} (h:Fal ky p m) (h1:1<=m) (c:O.kle (kk ky p m) (kk ky p (m - 1))):Fal ky p (m+1):=fun i j hij hj=>by
 by_cases e:j=m
 ·subst e
  by_cases e2:i=j
  ·subst e2
   exact KeyOrd.kle_refl _
  ·exact KeyOrd.kle_trans c (h i (j - 1) (by omega) (by omega))
 ·exact h i j hij (by omega)
theorem Srt.one {p:Array Nat}:Srt ky p 1:=fun i j hij hj=>by
 have:i=j:=by omega
 subst this
 exact KeyOrd.kle_refl _
theorem Fal.rev {p:Array Nat} {m:Nat} (hz:m<=p.size) (h:Fal ky p m):Srt ky (kas_rev p 0 m) m:=fun i j hij hj=>by
 rw [kk_rev hz,kk_rev hz,if_pos ⟨Nat.zero_le _,by omega⟩,if_pos ⟨Nat.zero_le _,hj⟩]
 exact h _ _ (by omega) (by omega)
theorem Fal.revEq {p:Array Nat} {i j m:Nat} (hz:j<=p.size) (hm:j<=m) (h:Fal ky p m) (eq:∀a b,i<=a->a < j->i<=b->b < j->O.kle (kk ky p a) (kk ky p b)):Fal ky (kas_rev p i j) m:=fun a b hab hb=>by
 rw [kk_rev hz,kk_rev hz]
 by_cases c1:i<=a/\a < j
 ·rw [if_pos c1]
  by_cases c2:i<=b/\b < j
  ·rw [if_pos c2]
   exact eq _ _ (by omega) (by omega) (by omega) (by omega)
  ·rw [if_neg c2]
   exact h _ _ (by omega) hb
 ·rw [if_neg c1]
  by_cases c2:i<=b/\b < j
  ·rw [if_pos c2]
   exact h _ _ (by omega) (by omega)
  ·rw [if_neg c2]
   exact h _ _ hab hb
theorem asc_ok (ac:Asks O ky n cmp J) {p:Array Nat} (hp:Prm n p) {R:Nat->Shared->Prop}:∀(f a:Nat) (s:Shared),1<=a->a+f<=n->Srt ky p a->J s ->
 (∀m s',a<=m->m<=a+f->Srt ky p m->(m < a+f->O.klt (kk ky p m) (kk ky p (m - 1)))->J s'->R m s')->(kas_asc p f a).kasWp cmp R s
 | 0,a,s,h1,hz,hs,hJ,k=>k a s (Nat.le_refl _) (Nat.le_refl _) hs (fun h=>absurd h (Nat.lt_irrefl _)) hJ
 | f+1,a,s,h1,hz,hs,hJ,k=>by
   refine ac _ _ _ s (hp.lt (by omega)) (hp.lt (by omega)) hJ fun s' hJ'=>?_
   cases e:O.blt (ky (p.getD a 0)) (ky (p.getD (a - 1) 0)) with
   | true =>
     dsimp only
     rw [if_pos rfl]
     exact k a s' (Nat.le_refl _) (by omega) hs (fun _=>e) hJ'
   | false =>
     dsimp only
     rw [if_neg Bool.false_ne_true]
     refine asc_ok ac hp f (a+1) s' (by omega) (by omega) (hs.succ h1 e) hJ' fun m s2 l1 l2 q1 q2 q3=>?_
     exact k m s2 (by omega) (by omega) q1 (fun h=>q2 (by omega)) q3
theorem desc_ok (ac:Asks O ky n cmp J) {R:Array Nat × Nat × Nat->Shared->Prop}:∀(f:Nat) (p:Array Nat) (m q:Nat) (s:Shared),Prm n p->q+1<=m->m+f<=n->Fal ky p m ->
 (∀a b,m - (q+1)<=a->a < m->m - (q+1)<=b->b < m->O.kle (kk ky p a) (kk ky p b))->J s ->
 (∀p' m' q' s',Prm n p'->q'+1<=m'->m<=m'->m'<=m+f->Fal ky p' m'->(∀a b,m' - (q'+1)<=a->a < m'->m' - (q'+1)<=b->b < m'->O.kle (kk ky p' a) (kk ky p' b))->J s'->R (p',m',q') s') ->
 (kas_desc f p m q).kasWp cmp R s
 | 0,p,m,q,s,hp,hq,hz,hf,he,hJ,k=>k p m q s hp hq (Nat.le_refl _) (Nat.le_refl _) hf he hJ
 | f+1,p,m,q,s,hp,hq,hz,hf,he,hJ,k=>by
   have hsz:=hp.size
   refine ac _ _ _ s (hp.lt (by omega)) (hp.lt (by omega)) hJ fun s' hJ'=>?_
   cases e:O.blt (ky (p.getD m 0)) (ky (p.getD (m - 1) 0)) with
   | true =>
     dsimp only
     rw [if_pos rfl]
     have hf':Fal ky p (m+1):=hf.succ (by omega) (KeyOrd.kle_of_klt e)
     have one:∀p':Array Nat,∀a b,m+1 - (0+1)<=a->a < m+1->m+1 - (0+1)<=b->b < m+1->O.kle (kk ky p' a) (kk ky p' b):=fun p' a b _ _ _ _=>by
      have:a=b:=by omega
      subst this
      exact KeyOrd.kle_refl _
     by_cases c:q > 0
     ·rw [if_pos c]
      refine desc_ok ac f (kas_rev p (m - (q+1)) m) (m+1) 0 s' (hp.rev _ _) (by omega) (by omega) (hf'.revEq (by omega) (by omega) he) (one _) hJ' fun p' m' q' s2 a1 a2 a3 a4 a5 a6 a7=>?_
      exact k p' m' q' s2 a1 a2 (by omega) (by omega) a5 a6 a7
     ·rw [if_neg c]
      refine desc_ok ac f p (m+1) 0 s' hp (by omega) (by omega) hf' (one _) hJ' fun p' m' q' s2 a1 a2 a3 a4 a5 a6 a7=>?_
      exact k p' m' q' s2 a1 a2 (by omega) (by omega) a5 a6 a7
   | false =>
     dsimp only
     rw [if_neg Bool.false_ne_true]
     refine ac _ _ _ s' (hp.lt (by omega)) (hp.lt (by omega)) hJ' fun s2 hJ2=>?_
     cases e2:O.blt (ky (p.getD (m - 1) 0)) (ky (p.getD m 0)) with
     | true =>
       dsimp only
       rw [if_pos rfl]
       exact k p m q s2 hp hq (Nat.le_refl _) (by omega) hf he hJ2
     | false =>
       dsimp only
       rw [if_neg Bool.false_ne_true]
       have g1:O.kle (kk ky p (m - 1)) (kk ky p m):=e
       have g2:O.kle (kk ky p m) (kk ky p (m - 1)):=e2
       refine desc_ok ac f p (m+1) (q+1) s2 hp (by omega) (by omega) (hf.succ (by omega) g2) (fun a b a1 a2 b1 b2=>?_) hJ2 fun p' m' q' s3 c1 c2 c3 c4 c5 c6 c7=>?_
       ·by_cases ea:a=m
        ·by_cases eb:b=m
         ·rw [ea,eb]
          exact KeyOrd.kle_refl _
         ·rw [ea]
          exact KeyOrd.kle_trans g2 (he (m - 1) b (by omega) (by omega) (by omega) (by omega))
        ·by_cases eb:b=m
         ·rw [eb]
          exact KeyOrd.kle_trans (he a (m - 1) (by omega) (by omega) (by omega) (by omega)) g1
         ·exact he a b (by omega) (by omega) (by omega) (by omega)
       ·exact k p' m' q' s3 c1 c2 (by omega) (by omega) c5 c6 c7
theorem tail3_ok (ac:Asks O ky n cmp J) {p:Array Nat} (hp:Prm n p) {m nrem:Nat} {R:Nat × Array Nat->Shared->Prop} {s:Shared} (h1:1<=m) (h2:m<=nrem) (h3:nrem<=n) (hf:Fal ky p m) (hJ:J s)
 (k:∀m' p' s',1<=m'->m'<=nrem->Prm n p'->Srt ky p' m'->J s'->R (m',p') s'):(kas_tail3 m nrem p).kasWp cmp R s:=by
 have hsz:=hp.size
 unfold kas_tail3
 rw [KasT.kasWp_bind]
 refine asc_ok ac (hp.rev 0 m) (nrem - m) m s h1 (by omega) (hf.rev (by omega)) hJ fun m' s' a1 a2 a3 _ a5=>?_
 exact k m' _ s' (by omega) (by omega) (hp.rev _ _) a3 a5
theorem descPart_ok (ac:Asks O ky n cmp J) {p:Array Nat} (hp:Prm n p) {m nrem:Nat} {R:Nat × Array Nat->Shared->Prop} {s:Shared} (h2:m+1<=nrem) (h3:nrem<=n) (hf:Fal ky p (m+1)) (hJ:J s)
 (k:∀m' p' s',1<=m'->m'<=nrem->Prm n p'->Srt ky p' m'->J s'->R (m',p') s'):(kas_descPart m nrem p).kasWp cmp R s:=by
 unfold kas_descPart
 rw [KasT.kasWp_bind]
 refine desc_ok ac (nrem - (m+1)) p (m+1) 0 s hp (by omega) (by omega) hf (fun a b _ _ _ _=>?_) hJ fun p' m' q' s' a1 a2 a3 a4 a5 a6 a7=>?_
 ·have:a=b:=by omega
  subst this
  exact KeyOrd.kle_refl _
 ·have hsz:=a1.size
  dsimp only
  by_cases c:q' > 0
  ·rw [if_pos c]
   exact tail3_ok ac (a1.rev _ _) (by omega) (by omega) h3 (a5.revEq (by omega) (Nat.le_refl _) a6) a7 k
  ·rw [if_neg c]
   exact tail3_ok ac a1 (by omega) (by omega) h3 a5 a7 k
theorem count_ok (ac:Asks O ky n cmp J) {p:Array Nat} (hp:Prm n p) {R:Nat × Array Nat->Shared->Prop} {s:Shared} (h1:1<=n) (hJ:J s)
 (k:∀m' p' s',1<=m'->m'<=n->Prm n p'->Srt ky p' m'->J s'->R (m',p') s'):(kas_count n p).kasWp cmp R s:=by
 have hsz:=hp.size
 unfold kas_count
 rw [KasT.kasWp_bind]
 refine asc_ok ac hp (n - 1) 1 s (Nat.le_refl _) (by omega) Srt.one hJ fun m s' a1 a2 a3 a4 a5=>?_
 by_cases c:m=n
 ·rw [if_pos (by simpa using c)]
  exact k m p s' a1 (by omega) hp a3 a5
 ·rw [if_neg (by simpa using c)]
  have lt:=a4 (by omega)
  by_cases c1:m > 1
  ·rw [if_pos c1]
   refine ac _ _ _ s' (hp.lt (by omega)) (hp.lt (by omega)) a5 fun s2 hJ2=>?_
   cases e:O.blt (ky (p.getD 0 0)) (ky (p.getD (m - 1) 0)) with
   | true =>
     dsimp only
     rw [if_pos rfl]
     exact k m p s2 a1 (by omega) hp a3 hJ2
   | false =>
     dsimp only
     rw [if_neg Bool.false_ne_true]
     have g:O.kle (kk ky p (m - 1)) (kk ky p 0):=e
     have eq:∀a b,a < m->b < m->O.kle (kk ky p a) (kk ky p b):=fun a b ha hb =>
      KeyOrd.kle_trans (a3 a (m - 1) (by omega) (by omega)) (KeyOrd.kle_trans g (a3 0 b (by omega) hb))
     refine descPart_ok ac (hp.rev 0 m) (by omega) (Nat.le_refl _) ?_ hJ2 k
     intro i j hij hj
     rw [kk_rev (by omega),kk_rev (by omega)]
     by_cases cj:j < m
     ·rw [if_pos ⟨Nat.zero_le _,cj⟩,if_pos ⟨Nat.zero_le _,by omega⟩]
      exact eq _ _ (by omega) (by omega)
     ·have ej:j=m:=by omega
      subst ej
      rw [if_neg (by omega)]
      by_cases ci:i < j
      ·rw [if_pos ⟨Nat.zero_le _,ci⟩]
       exact KeyOrd.kle_trans (KeyOrd.kle_of_klt lt) (eq _ _ (by omega) (by omega))
      ·rw [if_neg (by omega)]
       have:i=j:=by omega
       subst this
       exact KeyOrd.kle_refl _
  ·rw [if_neg c1]
   have em:m=1:=by omega
   subst em
   refine descPart_ok ac hp (by omega) (Nat.le_refl _) ?_ a5 k
   have f1:Fal ky p 1:=fun i j hij hj=>by
    have:i=j:=by omega
    subst this
    exact KeyOrd.kle_refl _
   exact f1.succ (Nat.le_refl _) (KeyOrd.kle_of_klt lt)
theorem place_ok (ac:Asks O ky n cmp J) {p:Array Nat} (hp:Prm n p) {t:Nat} (ht:t < n) {R:Nat->Shared->Prop}:∀(f l r:Nat) (s:Shared),l<=r->r<=t->r - l<=f->(∀i,i < l->O.kle (kk ky p i) (kk ky p t))->(∀i,r<=i->i < t->O.klt (kk ky p t) (kk ky p i)) ->
 Srt ky p t->J s->(∀l' s',l'<=t->(∀i,i < l'->O.kle (kk ky p i) (kk ky p t))->(∀i,l'<=i->i < t->O.klt (kk ky p t) (kk ky p i))->J s'->R l' s')->(kas_place p t f l r).kasWp cmp R s
 | 0,l,r,s,h1,h2,h3,h4,h5,_,hJ,k=>k l s (by omega) h4 (fun i a b=>h5 i (by omega) b) hJ
 | f+1,l,r,s,h1,h2,h3,h4,h5,hs,hJ,k=>by
   unfold kas_place
   by_cases c:l>=r
   ·rw [if_pos c]
    exact k l s (by omega) h4 (fun i a b=>h5 i (by omega) b) hJ
   ·rw [if_neg c]
    refine ac _ _ _ s (hp.lt ht) (hp.lt (by omega)) hJ fun s' hJ'=>?_
    cases e:O.blt (ky (p.getD t 0)) (ky (p.getD ((l+r) / 2) 0)) with
    | true =>
      dsimp only
      rw [if_pos rfl]
      have g:O.klt (kk ky p t) (kk ky p ((l+r) / 2)):=e
      exact place_ok ac hp ht f l ((l+r) / 2) s' (by omega) (by omega) (by omega) h4 (fun i a b=>KeyOrd.klt_of_klt_of_kle g (hs _ _ a b)) hs hJ' k
    | false =>
      dsimp only
      rw [if_neg Bool.false_ne_true]
      have g:O.kle (kk ky p ((l+r) / 2)) (kk ky p t):=e
      exact place_ok ac hp ht f ((l+r) / 2+1) r s' (by omega) h2 (by omega) (fun i a=>KeyOrd.kle_trans (hs i ((l+r) / 2) (by omega) (by omega)) g) h5 hs hJ' k
theorem bin_ok (ac:Asks O ky n cmp J) {R:Array Nat->Shared->Prop}:∀(f:Nat) (p:Array Nat) (t:Nat) (s:Shared),Prm n p->t+f=n->Srt ky p t->J s->(∀p' s',Prm n p'->Srt ky p' n->J s'->R p' s')->(kas_bin f p t).kasWp cmp R s
 | 0,p,t,s,hp,hz,hs,hJ,k=>k p s hp (by have:t=n:=by omega
                                       subst this;exact hs) hJ
 | f+1,p,t,s,hp,hz,hs,hJ,k=>by
   have hsz:=hp.size
   unfold kas_bin
   rw [KasT.kasWp_bind]
   refine place_ok ac hp (by omega) t 0 t s (Nat.zero_le _) (Nat.le_refl _) (by omega) (fun i h=>absurd h (Nat.not_lt_zero _)) (fun i a b=>absurd b (by omega)) hs hJ fun l s' a1 a2 a3 hJ'=>?_
   refine bin_ok ac f (bubble p t (t - l)) (t+1) s' (hp.bub _ _) (by omega) ?_ hJ' k
   intro i j hij hj
   have el:t - (t - l)=l:=by omega
   rw [kk_bub (by omega) (by omega),kk_bub (by omega) (by omega),el]
   by_cases ci:i=l
   ·rw [if_pos ci]
    by_cases cj:j=l
    ·rw [if_pos cj]
     exact KeyOrd.kle_refl _
    ·rw [if_neg cj,if_pos ⟨by omega,by omega⟩]
     exact KeyOrd.kle_of_klt (a3 _ (by omega) (by omega))
   ·rw [if_neg ci]
    by_cases ci2:l < i/\i<=t
    ·rw [if_pos ci2,if_neg (by omega),if_pos ⟨by omega,by omega⟩]
     exact hs _ _ (by omega) (by omega)
    ·rw [if_neg ci2]
     by_cases cj:j=l
     ·rw [if_pos cj]
      exact a2 _ (by omega)
     ·rw [if_neg cj]
      by_cases cj2:l < j/\j<=t
      ·rw [if_pos cj2]
       exact hs _ _ (by omega) (by omega)
      ·rw [if_neg cj2]
       exact hs _ _ hij (by omega)
theorem sort_ok (ac:Asks O ky n cmp J) {R:Array Nat->Shared->Prop} {s:Shared} (h1:1<=n) (hJ:J s) (k:∀p s',Prm n p->Srt ky p n->J s'->R p s'):(kas_sort n).kasWp cmp R s:=by
 unfold kas_sort
 rw [KasT.kasWp_bind]
 refine count_ok ac (List.Perm.refl _) h1 hJ fun m p s' a1 a2 a3 a4 a5=>?_
 dsimp only
 by_cases c:m < n
 ·rw [if_pos c]
  have e:max m 1=m:=by omega
  rw [e]
  exact bin_ok ac (n - m) p m s' a3 (by omega) a4 a5 k
 ·rw [if_neg c]
  have e:m=n:=by omega
  subst e
  exact k p s' a3 a4 a5
end
end L2
namespace L2
open PySem PySem.W PySem.Spec PyProof.Rows
theorem lex_dec:∀a b:List Int,HT.lexLt a b=decide (a < b)
 | [],[]=>by simp [HT.lexLt]
 | [],_ :: _=>by simp [HT.lexLt]
 | _ :: _,[]=>by simp [HT.lexLt]
 | x :: xs,y :: ys=>by
   rw [HT.lexLt_cons,lex_dec xs ys]
   by_cases e:x=y
   ·subst e
    rw [if_pos rfl]
    simp [List.cons_lt_cons_iff]
   ·rw [if_neg e]
    simp [List.cons_lt_cons_iff,e]
noncomputable def lexO:KeyOrd where
 α:=List Int
 blt a b:=HT.lexLt a b
 irrefl a:=by rw [lex_dec];simpa using List.lt_irrefl a
 trans a b c h1 h2:=by
  rw [lex_dec] at *
  simp only [decide_eq_true_eq] at *
  exact List.lt_trans h1 h2
 negTrans a b c h:=by
  rw [lex_dec] at h
  rw [lex_dec,lex_dec]
  simp only [decide_eq_true_eq] at *
  by_cases hab:a < b
  ·exact .inl hab
  ·exact .inr (List.lt_of_le_of_lt (List.not_lt.mp hab) h)
 total a b h1 h2:=by
  rw [lex_dec] at *
  simp only [decide_eq_false_iff_not] at *
  exact List.le_antisymm (List.not_lt.mp h2) (List.not_lt.mp h1)
noncomputable def IsRow (h:Heap) (v:Value) (ns:List Int):Prop:=∃a its,v=.ref a/\IsTup h a its/\IntsAre its.toList ns
section
variable {prog:Program} {w:World} {A:Around} {E:Value->Shared->Prop} {s:Shared} {Q:Bool->Shared->Prop}
theorem row_lex {fin bb:Bool}:∀{vs us:List Value} {ns ms:List Int} (i:Nat),IntsAre vs ns->IntsAre us ms->Q (HT.lexLt ns ms) s->fin=decide (vs.length < us.length)->KatLex prog w A bb fin Q (vs.zip us) i s
 | _,_,_,_,i,.nil,.nil,h,e=>by
   refine kat_nil ?_
   rw [e]
   exact h
 | _,_,_,_,i,.nil,.cons _ _ _,h,e=>by
   refine kat_nil ?_
   rw [e]
   simpa [HT.lexLt] using h
 | _,_,_,_,i,.cons _ _ _,.nil,h,e=>by
   refine kat_nil ?_
   rw [e]
   simpa [HT.lexLt] using h
 | _,_,_,_,i,.cons (vs:=vs) (ns:=ns) x t hv,.cons (vs:=us) (ns:=ms) y u hu,h,e=>by
   refine kat_cons (wpAny_eqBool_int (kat_go (fun c=>?_) (fun c=>?_)))
   ·have xy:x=y:=by simpa using c
    subst xy
    refine kat_yes (row_lex (i+1) hv hu ?_ ?_)
    ·simpa [HT.lexLt] using h
    ·rw [e]
     simp
   ·have xy:¬ x=y:=by simpa using c
    refine kat_no ?_
    have h':Q (decide (x < y)) s:=by simpa [HT.lexLt,xy] using h
    cases (bb && i == 0) with
    | true=>exact oneLt_int h'
    | false=>exact kat_one _ _ (lt_int h')
noncomputable def RowKind (κ:SortKind):Prop:=(∃b,κ=tuples' b)\/κ=general'\/κ=oneType'
theorem row_lt {κ:SortKind} {x y:Value} {ns ms:List Int} (hk:RowKind κ) (hx:IsRow s.heap x ns) (hy:IsRow s.heap y ms) (hu:A.units < cLine) (h:Q (HT.lexLt ns ms) s):wpAny (model prog w) A (keyLt' κ x y) Q E s:=by
 obtain ⟨a,its,rfl,ta,ia⟩:=hx
 obtain ⟨b,jts,rfl,tb,ib⟩:=hy
 rcases hk with ⟨bb,rfl⟩ | rfl | rfl
 ·obtain ⟨o,ho,hc,n,hd⟩:=ta
  obtain ⟨o2,ho2,hc2,n2,hd2⟩:=tb
  exact kat_lt ho hd ho2 hd2 (row_lex 0 ia ib h (by simp))
 ·exact kat_one _ _ (HT.lt_tupInts ta tb ia ib hu h)
 ·rw [keyLt'_oneType,oneLt'_eq]
  simp only [if_true]
  refine wpAny_bind (wpAny_cRoomFor hu ?_)
  obtain ⟨⟨cls,dd,data,sl⟩,ho,hc,n,hd⟩:=id ta
  obtain ⟨⟨cls2,dd2,data2,sl2⟩,ho2,hc2,n2,hd2⟩:=id tb
  simp only at hc hd hc2 hd2
  subst hc hd hc2 hd2
  refine wpAny_bind (wpAny_callSpecialIfBound?_slot (T:="tuple") ⟨_,ho,rfl⟩ PySem.F.slot_tuple_lt (call_meets PySem.F.slot_tuple_lt ⟨_,ho,rfl⟩ PySem.F.entry_tuple_lt (PySem.F.args_tuple_lt_2 _ _) (HT.tuple_lt_ints a b its jts n n2 dd dd2 sl sl2 ns ms ia ib) ⟨ho,ho2,?_⟩))
  exact wpAny_truthy_bool h
theorem ints_first:∀{l:List Value} {ns:List Int},IntsAre l ns->∀{v:Value},l[0]?=some v->∃n t,v=Value.int n t
 | _,_,.nil,v,e=>by simp at e
 | _,_,.cons n t _,v,e=>⟨n,t,by simpa using e.symm⟩
theorem mapM_any {α β:Type} {f:α->Sem β}:∀(l:List α) {R:List β->Shared->Prop},(∀v∈l,∀(Q':β->Shared->Prop),(∀r,Q' r s)->wpAny (model prog w) A (f v) Q' E s)->(∀rs,R rs s)->wpAny (model prog w) A (l.mapM f) R E s
 | [],_,_,h=>by
   rw [List.mapM_nil]
   exact wpAny_pure (h [])
 | x :: l,R,hf,h=>by
   rw [List.mapM_cons]
   exact wpAny_bind (hf x (.head _) _ fun r=>wpAny_bind (mapM_any l (R:=fun bs s'=>wpAny (model prog w) A (pure (r :: bs)) R E s') (fun v hv=>hf v (.tail _ hv)) fun rs=>wpAny_pure (h _)))
theorem one_type {l:List Value} {R:Option Value->Shared->Prop} (hf:∀v∈l,∀(Q':Value->Shared->Prop),(∀r,Q' r s)->wpAny (model prog w) A (typeOf v) Q' E s) (h:∀r,R r s):wpAny (model prog w) A (oneTypeOnly' l.toArray) R E s:=by
 rw [oneTypeOnly'_eq,List.mapM_toArray,map_eq_pure_bind]
 refine wpAny_bind (wpAny_bind (mapM_any l hf fun rs=>wpAny_pure ?_))
 cases rs.toArray[0]? with
 | none=>exact wpAny_pure (h _)
 | some t=>exact wpAny_pure (h _)
theorem row_firsts {rows:List (List Int)}:∀{vs:List Value},Paired (IsRow s.heap) vs rows->∀{R:List (Option Value)->Shared->Prop},(∀fs,fs.length=vs.length->(∀f∈fs,∀v,f=some v->∃n t,v=Value.int n t)->R fs s) ->
 wpAny (model prog w) A (vs.mapM firstOfTuple') R E s:=by
 intro vs hp
 induction hp with
 | nil =>
   intro R h
   rw [List.mapM_nil]
   exact wpAny_pure (h [] rfl (fun f m=>nomatch m))
 | cons hx hr ih =>
   intro R h
   obtain ⟨a,its,rfl,⟨o,ho,hc,n,hd⟩,ia⟩:=hx
   rw [List.mapM_cons]
   refine wpAny_bind ?_
   rw [kas_first_eq]
   refine wpAny_bind (Looks.here (show Looks (model prog w) s.heap (typeOf (.ref a)) o.cls from (Looks.ld ho).andThen .now) ?_)
   rw [hc,if_neg (by first | decide | simp)]
   refine wpAny_bind (listItems_at ho hd (wpAny_pure ?_))
   refine wpAny_bind (ih fun fs l1 l2=>wpAny_pure (h _ (by rw [List.length_cons,List.length_cons,l1]) fun f m v e=>?_))
   rcases List.mem_cons.mp m with m | m
   ·subst m
    have e':its.toList[0]?=some v:=by simpa using e
    exact ints_first ia e'
   ·exact l2 f m v e
theorem row_kind {vs:List Value} {rows:List (List Int)} (hp:Paired (IsRow s.heap) vs rows) {R:SortKind->Shared->Prop} (h:∀κ,RowKind κ->R κ s):wpAny (model prog w) A (keyKind' vs.toArray) R E s:=by
 rw [kat_kind_eq,List.mapM_toArray,map_eq_pure_bind]
 refine wpAny_bind (wpAny_bind (row_firsts hp fun fs l1 l2=>wpAny_pure ?_))
 by_cases c:(fs.toArray.all fun x=>x.isSome)=true
 ·rw [if_pos c]
  refine wpAny_bind (wpAny_rule ?_)
  have e:fs.toArray.filterMap id=(fs.filterMap id).toArray:=by simp
  rw [e]
  refine wpAny_bind (one_type (fun v hv Q' hq=>?_) fun r=>wpAny_pure (h _ (.inl ⟨_,rfl⟩)))
  obtain ⟨f,fm,fe⟩:=List.mem_filterMap.mp hv
  obtain ⟨n,t,rfl⟩:=l2 f fm v fe
  exact wpAny_of_eq (a:=Value.type "int") rfl (hq _)
 ·rw [if_neg c]
  by_cases c2:(fs.toArray[0]?.bind id).isSome=true
  ·rw [if_pos c2]
   exact wpAny_pure (h _ (.inr (.inl rfl)))
  ·rw [if_neg c2]
   refine wpAny_bind (one_type (fun v hv Q' hq=>?_) fun r=>?_)
   ·obtain ⟨ns,hr⟩:∃ns,IsRow s.heap v ns:=by
     clear l1 l2 c c2
     induction hp with
     | nil=>cases hv
     | cons hx _ ih =>
       rcases List.mem_cons.mp hv with m | m
       ·exact ⟨_,m ▸ hx⟩
       ·exact ih m
    obtain ⟨a,its,rfl,⟨o,ho,hc,n,hd⟩,ia⟩:=hr
    exact Looks.here (show Looks (model prog w) s.heap (typeOf (.ref a)) o.cls from (Looks.ld ho).andThen .now) (hq _)
   ·cases r with
    | none=>exact wpAny_pure (h _ (.inr (.inl rfl)))
    | some t=>exact wpAny_pure (h _ (.inr (.inr rfl)))
theorem paired_at {α β:Type} {R:α->β->Prop} (d:α) (e:β):∀{xs:List α} {ys:List β},Paired R xs ys->∀i,i < xs.length->R (xs.getD i d) (ys.getD i e)
 | _,_,.nil,i,h=>absurd h (Nat.not_lt_zero _)
 | _,_,.cons r _,0,_=>r
 | _,_,.cons _ t,i+1,h=>paired_at d e t i (by simpa using h)
theorem map_range_getD (vs:List Value):(List.range vs.length).map (fun i=>vs.getD i Value.none)=vs:=by
 apply List.ext_getElem
 ·simp
 ·intro i h1 h2
  simp [h2]
theorem IsRow.keep {h h':Heap} {v:Value} {ns:List Int} (x:IsRow h v ns) (k:∀b o,o.cls=.type "tuple"->h.get? b=some o->h'.get? b=some o):IsRow h' v ns:=by
 obtain ⟨a,its,rfl,⟨o,ho,hc,n,hd⟩,ia⟩:=x
 exact ⟨a,its,rfl,⟨o,k a o hc ho,hc,n,hd⟩,ia⟩
theorem row_sort {a:Addr} {vs:List Value} {rows:List (List Int)} {n:Nat} {P:PySem.Fin->Shared->Prop} (ho:s.heap.get? a=some (seqObj "list" vs.toArray n)) (hp:Paired (IsRow s.heap) vs rows) (h64:vs.length < 64) (hu:A.units < cLine)
 (h:∀p:Array Nat,Prm vs.length p->Srt (O:=lexO) (fun i=>rows.getD i []) p vs.length->P (.done (.ret .none)) { s with heap:=sortedHeap s.heap a vs (List.toArray (p.toList.map fun i=>vs.getD i Value.none)) }) :
 wpAny (model prog w) A (Builtin.«list.sort» ⟨[.ref a],[]⟩) P E s:=by
 rw [list_sort_plain]
 have ha:a < s.heap.objs.size:=Heap.lt_size ho
 refine wpAny_bind (listItems_at ho rfl ?_)
 refine wpAny_bind (listUpdate_at ho rfl ?_)
 obtain ⟨e1,ho1⟩:∃e1,(s.heap.update a (Obj.mapSeq fun _=>#[])).get? a=some (seqObj "list" #[] e1):=⟨_,get?_update_seq ho (fun _=>#[])⟩
 refine wpAny_bind (seqEpoch_at ho1 rfl ?_)
 refine wpAny_bind (wpAny_newTuple ?_)
 refine wpAny_bind (wpAny_newList ?_)
 refine wpAny_holding ?_
 have ho6:(((s.heap.update a (Obj.mapSeq fun _=>#[])).push (seqObj "tuple" vs.toArray 0)).push (seqObj "list" #[] 0)).get? a=some (seqObj "list" #[] e1):=by
  rw [Heap.get?_push_ne _ _ _ (by rw [size_push',Heap.size_update];exact Nat.ne_of_lt (Nat.lt_succ_of_lt ha)),Heap.get?_push_ne _ _ _ (by rw [Heap.size_update];exact Nat.ne_of_lt ha)]
  exact ho1
 have hp6:Paired (IsRow (((s.heap.update a (Obj.mapSeq fun _=>#[])).push (seqObj "tuple" vs.toArray 0)).push (seqObj "list" #[] 0))) vs rows:=Paired.mapP hp fun v ns x=>x.keep fun b o hc e=>by
  have hb:b≠a:=fun z=>by
   rw [z,ho] at e
   cases e
   exact absurd (show Value.type "list"=Value.type "tuple" from hc) (by decide)
  exact Heap.get?_push_of_some _ (Heap.get?_push_of_some _ ((Heap.get?_update_other _ _ (Ne.symm hb)).trans e))
 show wpAny (model prog w) A _ P E { s with heap:=((s.heap.update a (Obj.mapSeq fun _=>#[])).push (seqObj "tuple" vs.toArray 0)).push (seqObj "list" #[] 0) }
 dsimp only
 have hsz:vs.toArray.size=vs.length:=by simp
 by_cases h2:vs.toArray.size < 2
 ·rw [if_pos h2,if_pos h2]
  refine wpAny_bind (wpAny_pure ?_)
  rw [StateT.run_pure]
  refine wpAny_bind (wpAny_pure ?_)
  dsimp only
  refine wpAny_bind (seqEpoch_at ho6 rfl ?_)
  refine wpAny_bind (listUpdate_at ho6 rfl ?_ (hsz2:=by rw [Array.size_map];show (pairsOf vs).size<=_;rw [pairsOf_size,sizeLine_eq];omega))
  simp only [bne_self_eq_false,Bool.false_eq_true,if_false]
  have hh:=h (List.range vs.length).toArray (List.Perm.refl _) (fun i j hij hj=>by
   have:i=j:=by omega
   subst this
   exact KeyOrd.kle_refl _)
  rw [show (List.range vs.length).toArray.toList.map (fun i=>vs.getD i Value.none)=vs from map_range_getD vs] at hh
  have e:(arrOf (SortSt.mk' general' (vs.toArray.zip vs.toArray) #[] 7 none)).map (·.2)=vs.toArray:=by
   show (vs.toArray.zip vs.toArray).map (·.2)=vs.toArray
   apply Array.ext
   ·simp
   ·intro i h1 h2
    simp
  refine wpAny_pure ?_
  have hh':=hh
  rw [<- e] at hh'
  exact hh'
 ·rw [if_neg h2,if_neg h2]
  refine wpAny_bind (row_kind hp6 fun κ hκ=>?_)
  have ac:Asks lexO (fun i=>rows.getD i []) vs.length (kas_ask prog w A κ vs) (fun s'=>s'={ s with heap:=((s.heap.update a (Obj.mapSeq fun _=>#[])).push (seqObj "tuple" vs.toArray 0)).push (seqObj "list" #[] 0) }):=by
   intro i j C s' hi hj e k
   subst e
   exact row_lt hκ (paired_at Value.none [] hp6 i hi) (paired_at Value.none [] hp6 j hj) hu (k _ rfl)
  refine wpAny_bind (wpAny_mono (kat_run (ks:=vs) (vs:=vs) (Q:=fun st' s'=>∃p:Array Nat,arrOf st'=p.map (kas_item (vs.toArray.zip vs.toArray))/\failedOf st'=none/\s'={ s with heap:=((s.heap.update a (Obj.mapSeq fun _=>#[])).push (seqObj "tuple" vs.toArray 0)).push (seqObj "list" #[] 0) }/\Prm vs.length p/\Srt (O:=lexO) (fun i=>rows.getD i []) p vs.length)
   (G:=fun p s'=>s'={ s with heap:=((s.heap.update a (Obj.mapSeq fun _=>#[])).push (seqObj "tuple" vs.toArray 0)).push (seqObj "list" #[] 0) }/\Prm vs.length p/\Srt (O:=lexO) (fun i=>rows.getD i []) p vs.length)
   rfl (by omega) h64 (fun p st' s' _ a2 a3 g=>⟨p,a2,a3,g⟩) (sort_ok ac (by omega) rfl fun p s' q1 q2 e=>⟨e,q1,q2⟩)) ?_ fun _ _ e=>e)
  rintro ⟨⟨⟩,st'⟩ s' ⟨p,har,hf,rfl,q1,q2⟩
  dsimp only
  have hout:=kat_snds rfl har
  refine wpAny_bind (seqEpoch_at ho6 rfl ?_)
  rw [hout]
  refine wpAny_bind (listUpdate_at ho6 rfl ?_ (hsz2:=by rw [List.size_toArray,List.length_map,Array.length_toList,q1.size,sizeLine_eq];omega))
  rw [hf]
  simp only [bne_self_eq_false,Bool.false_eq_true,if_false]
  exact wpAny_pure (h p q1 q2)
theorem sorted_rows {l:Addr} {vs:List Value} {rows:List (List Int)} {R:Value->Shared->Prop} (hl:s.heap.IsList l vs.toArray) (hp:Paired (IsRow s.heap) vs rows) (h64:vs.length < 64) (hu:A.in1.in1.units < cLine)
 (h:∀p:Array Nat,Prm vs.length p->Srt (O:=lexO) (fun i=>rows.getD i []) p vs.length->R (.ref (s.heap.objs.size+1)) { s with heap:=sortedAll s.heap vs (List.toArray (p.toList.map fun i=>vs.getD i Value.none)) }) :
 wpAny (model prog w) A (call (.builtin "sorted") [.ref l]) R E s:=by
 refine Calls.call_function_entry kind_sorted plain_sorted entry_sorted (args_sorted1 _) ?_
 unfold Builtin.«sorted»
 refine wpAny_bind (m:=checkCount "sorted" 1 1 _) (wpAny_pure ?_)
 refine wpAny_bind (collect_list hl ?_)
 refine wpAny_bind (wpAny_newList ?_)
 have hsz:((s.heap.push (seqObj "list" #[] 0)).update s.heap.objs.size (Obj.mapSeq (·++vs.toArray))).objs.size=s.heap.objs.size+1:=by
  rw [Heap.size_update,size_push']
 have hoL:(((s.heap.push (seqObj "list" #[] 0)).update s.heap.objs.size (Obj.mapSeq (·++vs.toArray))).push (seqObj "list" vs.toArray 0)).get? (s.heap.objs.size+1)=some (seqObj "list" vs.toArray 0):=by
  rw [<- hsz];exact Heap.get?_push_size _ rfl
 have hp6:Paired (IsRow (((s.heap.push (seqObj "list" #[] 0)).update s.heap.objs.size (Obj.mapSeq (·++vs.toArray))).push (seqObj "list" vs.toArray 0))) vs rows:=Paired.mapP hp fun v ns x=>x.keep fun b o hc e =>
  Heap.get?_push_of_some _ ((Heap.get?_update_other _ _ (Ne.symm (Nat.ne_of_lt (Heap.lt_size e)))).trans (Heap.get?_push_of_some _ e))
 show wpAny _ _ _ _ _ { s with heap:=((s.heap.push (seqObj "list" #[] 0)).update s.heap.objs.size (Obj.mapSeq (·++vs.toArray))).push (seqObj "list" vs.toArray 0) }
 rw [hsz]
 refine wpAny_bind (wpAny_holding (wpAny_call_entry slot_list_sort ⟨_,hoL,rfl⟩ entry_list_sort (row_sort hoL hp6 h64 hu fun p a1 a2=>⟨_,rfl,?_⟩) (args_list_sort _)))
 exact wpAny_pure ⟨_,rfl,h p a1 a2⟩
end
section
variable {X:Cx}
theorem refs_vals:∀{as:List Addr} {us:List Value},Vals (as.map V.ref) us->us=as.map Value.ref
 | [],_,.nil=>rfl
 | a :: as,_,.cons r t=>by
   cases (show _=Value.ref a from r)
   rw [refs_vals t]
   rfl
theorem vals_refs:∀as:List Addr,Vals (as.map V.ref) (as.map Value.ref)
 | []=>.nil
 | a :: as=>.cons rfl (vals_refs as)
theorem call_sortedT (hu:X.A.units+64 < cLine):CallR X (.builtin "sorted") (fun xs H Q=>∃(a:Addr) (qs:List (Addr × List Int)),xs=[.ref a]/\SqL X.K H a (qs.map fun q=>V.ref q.1)/\(∀q∈qs,SqT X.K H q.1 (q.2.map V.int))/\qs.length < 64 /\
 ∀(l:Addr) (rs:List (Addr × List Int)),rs.Perm qs->rs.Pairwise (fun x y=>HT.lexLt y.2 x.2=false)->H l=none->Q (.ref l) (upd H l (.lst (rs.map fun q=>V.ref q.1)))):=by
 intro pins s σ H xs us Q I r h
 obtain ⟨a,qs,rfl,hq,hr,h64,q⟩:=h
 obtain ⟨u,rfl,rx⟩:=vals1 r
 cases rx
 obtain ⟨its,rv,pl,hz⟩:=I.list hq
 have rv':Vals ((qs.map (·.1)).map V.ref) its:=by rw [List.map_map];exact rv
 have ei:=refs_vals rv'
 have hlen:its.length=qs.length:=by rw [ei,List.length_map,List.length_map]
 have hp:Paired (IsRow s.heap) its (qs.map (·.2)):=by
  rw [ei]
  clear ei rv rv' pl hlen hq hz h64 q
  induction qs with
  | nil=>exact .nil
  | cons q0 qr ih =>
    refine .cons ?_ (ih fun q m=>hr q (List.mem_cons_of_mem _ m))
    obtain ⟨jts,rj,tj,_⟩:=I.tuple (hr q0 (List.mem_cons_self ..))
    exact ⟨q0.1,jts.toArray,rfl,tj,by simpa using intsAre_of rj⟩
 refine sorted_rows pl.isList hp (by omega) (by show X.A.units+1+1 < cLine;omega) fun p a1 a2=>?_
 obtain ⟨e,he⟩:=sortedAll_at s.heap its (List.toArray (p.toList.map fun i=>its.getD i Value.none))
 have hfr:H (s.heap.objs.size+1)=none:=I.hok.fresh (Nat.le_succ _)
 have hps:=a1.size
 have lt:∀i∈p.toList,i < qs.length:=fun i m=>by
  have:=List.mem_range.mp (a1.mem_iff.mp m)
  omega
 let rs:=p.toList.map fun i=>qs.getD i (0,[])
 have eo:(p.toList.map fun i=>its.getD i Value.none)=(rs.map (·.1)).map Value.ref:=by
  show _=((p.toList.map fun i=>qs.getD i (0,[])).map (·.1)).map Value.ref
  rw [List.map_map,List.map_map]
  refine List.map_congr_left fun i m=>?_
  have hi:=lt i m
  rw [ei]
  simp [hi]
 rw [eo] at he ⊢
 have pm:rs.Perm qs:=by
  have e1:(List.range its.length).map (fun i=>qs.getD i ((0:Addr),([]:List Int)))=qs:=by
   apply List.ext_getElem
   ·simp [hlen]
   ·intro i h1 h2
    simp [h2]
  have:=List.Perm.map (fun i=>qs.getD i ((0:Addr),([]:List Int))) a1
  rw [e1] at this
  exact this
 refine ⟨.ref _,_,I.laid (t':=s.toks) (fun b o hb=>sortedAll_old hb) (Nat.le_succ _) (show ObjOk X.prog X.w _ _ _ (.lst (rs.map fun q=>V.ref q.1)) from ⟨?_,(rs.map (·.1)).map Value.ref,e,?_,he⟩),rfl,q _ rs pm ?_ hfr⟩
 ·rw [List.length_map,pm.length_eq,sizeLine_eq]
  omega
 ·have:=vals_refs (rs.map (·.1))
  rw [List.map_map] at this
  exact this
 ·rw [List.pairwise_iff_getElem]
  intro i j hi hj hij
  have hi':i < p.size:=by simpa [rs] using hi
  have hj':j < p.size:=by simpa [rs] using hj
  have g:=a2 i j (by omega) (by omega)
  have gi:(qs.map (·.2)).getD (p.getD i 0) []=(rs[i]).2:=by
   have l1:=lt p[i] (by simp)
   simp [rs,Array.getD,hi',l1]
  have gj:(qs.map (·.2)).getD (p.getD j 0) []=(rs[j]).2:=by
   have l1:=lt p[j] (by simp)
   simp [rs,Array.getD,hj',l1]
  have g2:HT.lexLt ((qs.map (·.2)).getD (p.getD j 0) []) ((qs.map (·.2)).getD (p.getD i 0) [])=false:=g
  rw [gi,gj] at g2
  exact g2
end
end L2
namespace L2
open PySem PySem.W PySem.Spec PyProof.Rows
noncomputable def RawAt (h:Heap) (d:Addr) (es:Array DictEntry) (ep:Nat):Prop:=∃o,h.get? d=some o/\o.ExactDict/\o.data=.dict es ep
theorem RawAt.at {h h':Heap} {d:Addr} {es:Array DictEntry} {ep:Nat} (x:RawAt h d es ep) (e:∀o,h.get? d=some o->h'.get? d=some o):RawAt h' d es ep:=let ⟨o,ho,r⟩:=x;⟨o,e _ ho,r⟩
theorem RawAt.lt {h:Heap} {d:Addr} {es:Array DictEntry} {ep:Nat} (x:RawAt h d es ep):d < h.objs.size:=let ⟨_,ho,_⟩:=x;Heap.lt_size ho
theorem RawAt.typeIs {s:Shared} {d:Addr} {es:Array DictEntry} {ep:Nat} (x:RawAt s.heap d es ep):s.TypeIs (.ref d) "dict":=let ⟨o,ho,hc,_⟩:=x;⟨o,ho,hc.1⟩
section
variable {prog:Program} {w:World} {A:Around} {E:Value->Shared->Prop} {s:Shared} {d:Addr} {es:Array DictEntry} {ep:Nat}
theorem raw_iter {Q:Value->Shared->Prop} (hd:(d == sysModules)=false) (hm:RawAt s.heap d es ep)
 (hQ:Q (.ref s.heap.objs.size) { s with heap:=s.heap.push { cls:=.type "dict_keyiterator",data:=.fields #[.ref d,.int 0 0,.int es.size 0,.int ep 0] } }):wpAny (model prog w) A (pyIter (.ref d)) Q E s:=by
 have hT:=hm.typeIs
 obtain ⟨o,ho,hc,hdat⟩:=id hm
 refine wpAny_pyIter_slot hT F.slot_dict_iter (wpAny_call_entry F.slot_dict_iter hT F.entry_dict_iter ?_ (F.args_dict_iter_1 _))
 unfold Builtin.«dict.__iter__»
 refine wpAny_bind ?_
 unfold Builtin.Dict.dictSlotNone
 refine wpAny_bind (wpAny_notOrdered_dict hT ?_)
 show wpAny _ _ (pure (Value.ref d)) _ _ s
 refine wpAny_pure ?_
 show wpAny _ _ (Builtin.Dict.showsAll d >>= _) _ _ s
 unfold Builtin.Dict.showsAll
 rw [if_neg (by rw [hd];exact Bool.false_ne_true)]
 refine wpAny_bind (wpAny_pure ?_)
 refine wpAny_bind (wpAny_dictEntries ho hdat ?_)
 refine wpAny_bind (wpAny_dictEpoch ho hdat ?_)
 refine wpAny_bind (wpAny_newObj_type (wpAny_pure ⟨_,rfl,"dict_keyiterator",_,⟨_,Heap.get?_push_size _ rfl,rfl⟩,F.slot_dict_keyiterator_next.lookup,?_⟩))
 simpa [rawInt] using hQ
theorem raw_next {it:Addr} {i:Nat} {e:DictEntry} {Q:Option Value->Shared->Prop} (hit:s.heap.IsKeyIter it d i es.size ep) (hm:RawAt s.heap d es ep) (hx:es[i]?=some e)
 (hQ:∀h',h'.IsKeyIter it d (i+1) es.size ep->Heap.SameBut it s.heap h'->Q (some e.key) { s with heap:=h' }):wpAny (model prog w) A (pyNext (.ref it)) Q E s:=by
 obtain ⟨o,ho,hc,hd⟩:=id hit
 obtain ⟨od,hod,hcd,hdd⟩:=id hm
 unfold pyNext
 refine wpAny_bind (wpAny_attempt (wpAny_callSpecial?_slot (name:=Str.ofString "__next__") hit.typeIs F.slot_dict_keyiterator_next
  (wpAny_call_entry F.slot_dict_keyiterator_next hit.typeIs F.entry_dict_keyiterator_next ?_ (F.args_dict_keyiterator_next_1 _))))
 refine wpAny_bind (wpAny_pure ?_)
 refine wpAny_bind ?_
 refine wpAny_bind ?_
 first | refine wpAny_bind (wpAny_typeNameOfWhole_keyiter hit.typeIs (wpAny_pure ?_)) | refine wpAny_bind (wpAny_typeNameOf_keyiter hit.typeIs (wpAny_pure ?_))
 refine wpAny_bind (wpAny_fieldsOf ho hd ?_)
 have hown:Builtin.Dict_items.ownsTuple "dict_keyiterator"=false:=by decide
 simp only [hown,Bool.false_eq_true,if_false]
 show wpAny _ _ (if (Value.ref d == Value.none)=true then _ else _) _ _ s
 rw [if_neg (show ¬ ((Value.ref d == Value.none)=true) from Bool.false_ne_true)]
 refine wpAny_bind (wpAny_pure ?_)
 refine wpAny_bind (wpAny_dictEntries hod hdd ?_)
 rw [if_neg (by simp)]
 refine wpAny_bind (wpAny_pure ?_)
 refine wpAny_bind (wpAny_dictEpoch hod hdd ?_)
 rw [if_neg (by simp)]
 refine wpAny_pure ?_
 simp only [show ¬ ((i:Int) < 0) from by omega,if_false,Int.toNat_natCast,hx]
 refine wpAny_bind ?_
 first | refine wpAny_bind (wpAny_typeNameOfWhole_keyiter hit.typeIs (wpAny_pure ?_)) | refine wpAny_bind (wpAny_typeNameOf_keyiter hit.typeIs (wpAny_pure ?_))
 refine wpAny_bind (wpAny_isOneOf_keyiter hit.typeIs ?_)
 show wpAny _ _ (setField (.ref it) 1 (rawInt ((i:Int)+1)) >>= _) _ _ s
 refine wpAny_bind (wpAny_setField ho hd (by simp) ?_)
 have hit':(s.heap.update it (Obj.mapFields (·.setIfInBounds 1 (rawInt ((i:Int)+1))))).IsKeyIter it d (i+1) es.size ep :=
  ⟨_,Heap.get?_update_self _ ho (Obj.isFreed_of_fields (Obj.data_mapFields hd _)),(Obj.cls_mapFields ..).trans hc,by rw [Obj.data_mapFields hd];simp [rawInt]⟩
 refine wpAny_bind (wpAny_holding ?_)
 refine wpAny_bind (wpAny_isOneOf_keyiter (s:={ s with heap:=s.heap.update it (Obj.mapFields (·.setIfInBounds 1 (rawInt ((i:Int)+1)))) }) hit'.typeIs ?_)
 show wpAny _ _ (pure e.key) _ _ _
 exact wpAny_pure (wpAny_pure ⟨_,rfl,wpAny_pure (hQ _ hit' (Heap.SameBut.update ..))⟩)
theorem raw_end {it:Addr} {i:Nat} {Q:Option Value->Shared->Prop} (hh:A.handled=none) (hit:s.heap.IsKeyIter it d i es.size ep) (hm:RawAt s.heap d es ep) (hx:es.size<=i)
 (hQ:∀h',Heap.ExtBut it s.heap h'->Q none { s with heap:=h' }):wpAny (model prog w) A (pyNext (.ref it)) Q E s:=by
 obtain ⟨o,ho,hc,hd⟩:=id hit
 obtain ⟨od,hod,hcd,hdd⟩:=id hm
 unfold pyNext
 refine wpAny_bind (wpAny_attempt (wpAny_callSpecial?_slot (name:=Str.ofString "__next__") hit.typeIs F.slot_dict_keyiterator_next
  (wpAny_call_entry F.slot_dict_keyiterator_next hit.typeIs F.entry_dict_keyiterator_next ?_ (F.args_dict_keyiterator_next_1 _))))
 refine wpAny_bind (wpAny_pure ?_)
 refine wpAny_bind ?_
 refine wpAny_bind ?_
 first | refine wpAny_bind (wpAny_typeNameOfWhole_keyiter hit.typeIs (wpAny_pure ?_)) | refine wpAny_bind (wpAny_typeNameOf_keyiter hit.typeIs (wpAny_pure ?_))
 refine wpAny_bind (wpAny_fieldsOf ho hd ?_)
 have hown:Builtin.Dict_items.ownsTuple "dict_keyiterator"=false:=by decide
 simp only [hown,Bool.false_eq_true,if_false]
 show wpAny _ _ (if (Value.ref d == Value.none)=true then _ else _) _ _ s
 rw [if_neg (show ¬ ((Value.ref d == Value.none)=true) from Bool.false_ne_true)]
 refine wpAny_bind (wpAny_pure ?_)
 refine wpAny_bind (wpAny_dictEntries hod hdd ?_)
 rw [if_neg (by simp)]
 refine wpAny_bind (wpAny_pure ?_)
 refine wpAny_bind (wpAny_dictEpoch hod hdd ?_)
 rw [if_neg (by simp)]
 refine wpAny_pure ?_
 simp only [show ¬ ((i:Int) < 0) from by omega,if_false,Int.toNat_natCast,Array.getElem?_eq_none hx]
 refine wpAny_bind ?_
 first | refine wpAny_bind (wpAny_typeNameOfWhole_keyiter hit.typeIs (wpAny_pure ?_)) | refine wpAny_bind (wpAny_typeNameOf_keyiter hit.typeIs (wpAny_pure ?_))
 show wpAny _ _ (setField (.ref it) 0 .none >>= _) _ _ s
 refine wpAny_bind (wpAny_setField ho hd (by simp) ?_)
 show wpAny _ _ (newExc (.type "StopIteration") [] >>= _) _ _ _
 refine wpAny_bind ?_
 simp only [newExc,newTuple]
 refine wpAny_bind (wpAny_newObj_type ?_ (by size_fits))
 refine wpAny_bind (m:=firstArgMember _ _) (wpAny_of_eq (a:=Value.none) (by first | rfl | (simp only [firstArgMember];rfl)) ?_)
 refine wpAny_newObj_type ?_ (by size_fits)
 simp only [raiseNew]
 refine wpAny_bind (wpAny_handled ?_)
 rw [show A.in1.handled=none from hh]
 refine wpAny_bind (wpAny_pure (wpAny_throw ?_))
 refine wpAny_bind (wpAny_isInstance (T:="StopIteration") (b:=true) ⟨_,Heap.get?_push_size _ rfl,rfl⟩ isSubtype_stop ?_)
 exact wpAny_pure (hQ _ (((Heap.SameBut.update ..).extBut.push _).push _))
theorem raw_walks (hh:A.handled=none) (I:Addr) (hne:d≠I):Walks prog w A I [I,d] [I] es.size (fun i v=>∃e,es[i]?=some e/\v=e.key) (fun i h=>h.IsKeyIter I d i es.size ep/\RawAt h d es ep) where
 sub:=fun b hb=>by simp at hb;simp [hb]
 frame:=fun _ _ _ st hk=>⟨st.1.at fun o e=>hk I (by simp) o e,st.2.at fun o e=>hk d (by simp) o e⟩
 item:=fun i s Q E hi st hQ=>by
  obtain ⟨e,hx⟩:∃e,es[i]?=some e:=⟨es[i],by simp [hi]⟩
  refine raw_next st.1 st.2 hx fun h' hit' hs'=>?_
  exact hQ e.key h' s.toks ⟨e,hx,rfl⟩ ⟨hit',st.2.at fun o q=>hs'.extBut d o hne q⟩ fun b o hb q=>hs'.extBut b o (fun h=>hb (by simp [h])) q
 done:=fun s Q E st hQ=>raw_end hh st.1 st.2 (Nat.le_refl _) fun h' he'=>hQ h' s.toks fun b o hb q=>he' b o (fun h=>hb (by simp [h])) q
 self:=fun _ _ _ _ st hQ=>wpAny_pyIter_keyiter st.1 hQ
theorem raw_src (lo:(d == sysModules)=false):KdlSrc prog w "dict" d d es.size (fun i v=>∃e,es[i]?=some e/\v=e.key) (fun h=>RawAt h d es ep) where
 type:=fun _ hm=>hm.typeIs
 there:=fun _ hm=>⟨hm.lt,hm.lt⟩
 keep:=fun _ _ hm hk=>hm.at fun o e=>hk d (.inl rfl) o e
 notList:=by decide
 notTuple:=by decide
 hint:=fun _ _ _ _ hm hq=>kdl_hint_dict hm.typeIs hq
 iter:=fun _ s hh hm=>⟨_,_,(fun _ _ hq=>raw_iter lo hm hq),raw_walks hh _ (Nat.ne_of_lt hm.lt),⟨⟨_,Heap.get?_push_size _ rfl,rfl,rfl⟩,hm.at fun o e=>Heap.get?_push_of_some _ e⟩⟩
theorem raw_keys {acc:Array Value} (h:ItemsOf (fun i v=>∃e,es[i]?=some e/\v=e.key) acc es.size):acc=es.map (·.key):=by
 obtain ⟨h1,h2⟩:=h
 apply Array.ext
 ·simpa using h1
 ·intro i hi hj
  obtain ⟨e,he,hk⟩:=h2 i acc[i] (by simp [hi])
  have hi':i < es.size:=by omega
  rw [Array.getElem?_eq_getElem hi'] at he
  rw [hk,Array.getElem_map,Option.some.inj he]
theorem raw_collect {R:List Value->Shared->Prop} (lo:(d == sysModules)=false) (hm:RawAt s.heap d es ep) (hh:A.handled=none) (hn:es.size<=sizeLine)
 (h:∀(h':Heap) (tk:Nat),(∀b o,s.heap.get? b=some o->h'.get? b=some o)->s.heap.objs.size < h'.objs.size->R (es.toList.map (·.key)) { s with heap:=h',toks:=tk }) :
 wpAny (model prog w) A (collect (.ref d)) R E s:=by
 have hlt:=hm.lt
 unfold collect
 refine wpAny_bind (wpAny_runValue (codeAny_builtin entry_proto_collect' ?_))
 rw [Around.under_plainId PySem.F.plain_proto_collect _]
 show wpAny _ A.in1 (newList [] >>= fun l=>again (.builtin "list.__iadd__" ⟨[l,.ref d],[]⟩)) _ _ s
 refine wpAny_bind (wpAny_newObj_type ?_)
 refine wpAny_pure ⟨plainId_quiet PySem.F.plain_list_iadd _,codeAny_builtin entry_list_iadd' ?_⟩
 rw [Around.under_plainId PySem.F.plain_list_iadd _]
 have hS₁:(s.heap.push { cls:=.type "list",data:=.seq ([]:List Value).toArray }).get? s.heap.objs.size=some { cls:=.type "list",data:=.seq #[] }:=Heap.get?_push_size _ rfl
 show wpAny _ A.in1 (Builtin.List.listExtendWith (.ref s.heap.objs.size) (.ref d) (.ref s.heap.objs.size)) _ _ _
 have key:=kdl_extend (A:=A) (s:={ s with heap:=s.heap.push { cls:=.type "list",data:=.seq ([]:List Value).toArray } })
  (R:=fun (q:Result) (s':Shared)=>∃(h':Heap) (tk c':Nat),q=.ok (.ret (.ref s.heap.objs.size))/\s'={ s with heap:=h',toks:=tk } /\
   (∀b o,s.heap.get? b=some o->h'.get? b=some o)/\h'.get? s.heap.objs.size=some { cls:=.type "list",dict:=none,data:=.seq (es.map (·.key)) c',slots:=#[] })
  (raw_src (prog:=prog) (w:=w) (es:=es) (ep:=ep) lo) hh (hm.at fun o e=>Heap.get?_push_of_some _ e) s.heap.objs.size (Nat.ne_of_gt hlt) (Nat.ne_of_gt hlt) (.ref s.heap.objs.size) 0 hS₁
  (fun h' tk acc' c' hk hS' hacc=>⟨h',tk,c',rfl,rfl,fun b o e=>hk b o (Nat.ne_of_lt (Heap.lt_size e)) (Heap.get?_push_of_some _ e),by rw [<- raw_keys hacc];exact hS'⟩) hn
 refine wpAny_mono key (fun fin s' x=>?_) fun e s' x=>?_
 ·cases fin with
  | done f =>
    obtain ⟨h',tk,c',e,rfl,hk,hS'⟩:=x
    cases e
    show wpAny _ A (load s.heap.objs.size >>= _) _ _ _
    refine wpAny_bind (wpAny_load hS' ?_)
    have:=h h' tk hk (Heap.lt_size hS')
    rw [<- Array.toList_map] at this
    exact wpAny_pure this
  | again c₁ =>
    refine ⟨x.1,codeAny_mono x.2 fun q s₂ y=>?_⟩
    obtain ⟨h',tk,c',rfl,rfl,hk,hS'⟩:=y
    show wpAny _ A (load s.heap.objs.size >>= _) _ _ _
    refine wpAny_bind (wpAny_load hS' ?_)
    have:=h h' tk hk (Heap.lt_size hS')
    rw [<- Array.toList_map] at this
    exact wpAny_pure this
 ·obtain ⟨_,_,_,e',_⟩:=x
  cases e'
theorem sorted_keys {vs:List Value} (lo:(d == sysModules)=false) (hm:RawAt s.heap d es ep) (hz:es.size < 64) (hh:A.handled=none) (hv:es.toList.map (·.key)=vs) {R:Value->Shared->Prop}
 (h:∀(h':Heap) (tk:Nat) (a:Addr),(∀b o,s.heap.get? b=some o->h'.get? b=some o/\b≠a)->s.heap.objs.size<=a->h'.get? a=some (seqObj "list" vs.toArray 0) ->
  wpAny (model prog w) A.in1.in1 (Builtin.«list.sort» ⟨[.ref a],[]⟩) (fun fin s'=>∃v,fin=.done (.ret v)/\R (.ref a) s') E { s with heap:=h',toks:=tk }) :
 wpAny (model prog w) A (call (.builtin "sorted") [.ref d]) R E s:=by
 refine Calls.call_function_entry kind_sorted plain_sorted entry_sorted (args_sorted1 _) ?_
 unfold Builtin.«sorted»
 refine wpAny_bind (m:=checkCount "sorted" 1 1 _) (wpAny_pure ?_)
 refine wpAny_bind (raw_collect (A:=A.in1) lo hm hh (by rw [sizeLine_eq];omega) fun h' tk hk ge=>?_)
 rw [hv]
 have hl:vs.length < 64:=by rw [<- hv,List.length_map,Array.length_toList];exact hz
 refine wpAny_bind (wpAny_newList ?_ (by rw [sizeLine_eq];omega))
 have ho:(h'.push (seqObj "list" vs.toArray 0)).get? h'.objs.size=some (seqObj "list" vs.toArray 0):=Heap.get?_push_size _ rfl
 refine wpAny_bind (wpAny_holding (wpAny_call_entry slot_list_sort ⟨_,ho,rfl⟩ entry_list_sort ?_ (args_list_sort _)))
 refine wpAny_mono (h _ tk h'.objs.size (fun b o e=>⟨Heap.get?_push_of_some _ (hk b o e),Nat.ne_of_lt (Heap.lt_size (hk b o e))⟩) (Nat.le_of_lt ge) ho) (fun fin s' x=>?_) fun _ _ x=>x
 obtain ⟨v,rfl,q⟩:=x
 exact ⟨_,rfl,wpAny_pure ⟨_,rfl,q⟩⟩
end
section
variable {X:Cx}
theorem kt_rows {H:Hp}:∀{kvs:List (List Key × V)} {xs:List (List Key × Addr × Value)} {ks:List (List Int)},KT H kvs xs->kvs.map (·.1)=ks.map (List.map Sum.inl) ->
 ∃qs:List (Addr × List Int),xs.map (fun x=>Value.ref x.2.1)=(qs.map (·.1)).map Value.ref/\qs.map (·.2)=ks/\∀q∈qs,H q.1=some (.tup (q.2.map V.int)):=by
 intro kvs xs ks r
 induction r generalizing ks with
 | nil =>
   intro e
   cases ks with
   | nil=>exact ⟨[],rfl,rfl,fun _ m=>nomatch m⟩
   | cons _ _=>cases e
 | @cons p q ps qr hq t ih =>
   intro e
   cases ks with
   | nil=>cases e
   | cons k ks =>
     injection e with e1 e2
     obtain ⟨qs,a1,a2,a3⟩:=ih e2
     refine ⟨(q.2.1,k) :: qs,?_,?_,fun x m=>?_⟩
     ·rw [List.map_cons,a1]
      rfl
     ·rw [List.map_cons,a2]
     ·rcases List.mem_cons.mp m with m | m
      ·subst m
       have h:=hq.2.1
       have e1':p.1=k.map Sum.inl:=e1
       rw [e1',List.map_map] at h
       exact h
      ·exact a3 x m
theorem call_sortedDT (hc:X.calm=true) (hu:X.A.units+64 < cLine):CallR X (.builtin "sorted") (fun xs H Q=>∃(d:Addr) (kvs:List (List Key × V)) (ks:List (List Int)),xs=[.ref d]/\Rd H d (.dT kvs)/\kvs.map (·.1)=ks.map (List.map Sum.inl)/\ks.length < 64 /\
 ∀(l:Addr) (rs:List (Addr × List Int)),(∀q∈rs,H q.1=some (.tup (q.2.map V.int)))->(rs.map (·.2)).Perm ks->rs.Pairwise (fun x y=>HT.lexLt y.2 x.2=false)->H l=none->Q (.ref l) (upd H l (.lst (rs.map fun q=>V.ref q.1)))):=by
 intro pins s σ H xs us Q I r h
 obtain ⟨d,kvs,ks,rfl,hd,hks,h64,q⟩:=h
 obtain ⟨u,rfl,rx⟩:=vals1 r
 cases rx
 obtain ⟨_,lo,xs,kt,o,es,ep,h1,h2,h3,h4,_,_⟩:=dt_rd I.hok hd
 obtain ⟨qs,b1,b2,b3⟩:=kt_rows kt hks
 have hv:es.toList.map (·.key)=(qs.map (·.1)).map Value.ref:=by
  rw [h4,List.map_map,<- b1]
  rfl
 have hql:qs.length=ks.length:=by rw [<- b2,List.length_map]
 have hes:es.size=qs.length:=by
  have:=congrArg List.length hv
  simpa using this
 have hp:Paired (IsRow s.heap) ((qs.map (·.1)).map Value.ref) (qs.map (·.2)):=by
  clear hv hql hes b1 b2
  induction qs with
  | nil=>exact .nil
  | cons q0 qr ih =>
    refine .cons ?_ (ih fun q m=>b3 q (List.mem_cons_of_mem _ m))
    obtain ⟨jts,rj,tj,_⟩:=I.tuple (SqT.of (b3 q0 (List.mem_cons_self ..)))
    exact ⟨q0.1,jts.toArray,rfl,tj,by simpa using intsAre_of rj⟩
 refine sorted_keys lo ⟨o,h1,h2,h3⟩ (by omega) (I.ok.hd hc) hv fun h' tk a kp ge ho=>?_
 have hp':Paired (IsRow h') ((qs.map (·.1)).map Value.ref) (qs.map (·.2)):=Paired.mapP hp fun v ns x=>x.keep fun b o _ e=>(kp b o e).1
 have ll:((qs.map (·.1)).map Value.ref).length=qs.length:=by rw [List.length_map,List.length_map]
 refine row_sort (s:={ s with heap:=h',toks:=tk }) ho hp' (by omega) (by show X.A.units+1+1 < cLine;omega) fun p a1 a2=>⟨_,rfl,?_⟩
 obtain ⟨e,he⟩:=sortedHeap_at (out:=List.toArray (p.toList.map fun i=>((qs.map (·.1)).map Value.ref).getD i Value.none)) ho
 have hfr:H a=none:=I.hok.fresh ge
 have hps:=a1.size
 have lt:∀i∈p.toList,i < qs.length:=fun i m=>by
  have:=List.mem_range.mp (a1.mem_iff.mp m)
  omega
 let rs:=p.toList.map fun i=>qs.getD i (0,[])
 have eo:(p.toList.map fun i=>((qs.map (·.1)).map Value.ref).getD i Value.none)=(rs.map (·.1)).map Value.ref:=by
  show _=((p.toList.map fun i=>qs.getD i (0,[])).map (·.1)).map Value.ref
  simp only [List.map_map]
  refine List.map_congr_left fun i m=>?_
  have hi:=lt i m
  simp [hi]
 rw [eo] at he ⊢
 have pm:rs.Perm qs:=by
  have e1:(List.range ((qs.map (·.1)).map Value.ref).length).map (fun i=>qs.getD i ((0:Addr),([]:List Int)))=qs:=by
   rw [ll]
   apply List.ext_getElem
   ·simp
   ·intro i h1 h2
    simp [h2]
  have:=List.Perm.map (fun i=>qs.getD i ((0:Addr),([]:List Int))) a1
  rw [e1] at this
  exact this
 refine ⟨.ref _,_,I.laid (t':=tk) (fun b o hb=>?_) ge (show ObjOk X.prog X.w _ _ _ (.lst (rs.map fun q=>V.ref q.1)) from ⟨?_,(rs.map (·.1)).map Value.ref,e,?_,he⟩),rfl,q _ rs (fun q m=>b3 q (pm.mem_iff.mp m)) (by rw [<- b2];exact pm.map _) ?_ hfr⟩
 ·obtain ⟨k1,k2⟩:=kp b o hb
  rw [sortedHeap_old k2 (Heap.lt_size k1)]
  exact k1
 ·rw [List.length_map,pm.length_eq,sizeLine_eq]
  omega
 ·have:=vals_refs (rs.map (·.1))
  rw [List.map_map] at this
  exact this
 ·rw [List.pairwise_iff_getElem]
  intro i j hi hj hij
  have hi':i < p.size:=by simpa [rs] using hi
  have hj':j < p.size:=by simpa [rs] using hj
  have g:=a2 i j (by omega) (by omega)
  have gi:(qs.map (·.2)).getD (p.getD i 0) []=(rs[i]).2:=by
   have l1:=lt p[i] (by simp)
   simp [rs,Array.getD,hi',l1]
  have gj:(qs.map (·.2)).getD (p.getD j 0) []=(rs[j]).2:=by
   have l1:=lt p[j] (by simp)
   simp [rs,Array.getD,hj',l1]
  have g2:HT.lexLt ((qs.map (·.2)).getD (p.getD j 0) []) ((qs.map (·.2)).getD (p.getD i 0) [])=false:=g
  rw [gi,gj] at g2
  exact g2
theorem call_max1 (hc:X.calm=true):CallR X (.builtin "max") (fun xs H Q=>∃(a:Addr) (ns:List Int),xs=[.ref a]/\SqL X.K H a (ns.map V.int)/\0 < ns.length/\∀M,M∈ns->(∀z∈ns,z<=M)->Q (.int M) H):=by
 intro pins s σ H xs us Q I r h
 obtain ⟨a,ns,rfl,hq,hne,q⟩:=h
 obtain ⟨u,rfl,rx⟩:=vals1 r
 cases rx
 obtain ⟨its,rv,pl,hz⟩:=I.list hq
 have hi:=intsAre_of rv
 obtain ⟨xs,e⟩:=hi.allInts.items
 have hns:ns=xs.toList.map (·.1):=by
  rw [<- hi.numsOf,<- nums_intItems,<- e]
 have hsz:0 < xs.size:=by
  have h3:=hne;rw [hns,List.length_map,Array.length_toList] at h3;exact h3
 have hl:=pl.isList
 rw [e] at hl
 refine max_intList (I.ok.hd hc) hl hsz fun v h' tk hv hk=>?_
 obtain ⟨t,rfl⟩:=intItems_at hv
 obtain ⟨_,h2⟩:=argBest_gt (numAt xs) (xs.size - 1)
 refine ⟨.int _,H,I.kept hk,⟨t,rfl⟩,q _ ?_ fun z m=>?_⟩
 ·rw [hns,numAt_eq];exact getD_mem (by rw [List.length_map,Array.length_toList];omega)
 ·rw [hns] at m
  obtain ⟨j,hj,rfl⟩:=mem_getD m
  rw [List.length_map,Array.length_toList] at hj
  rw [<- numAt_eq];exact h2 j (by omega)
end
end L2
namespace L2
open PySem
noncomputable def Ris (xs:Array Nat):Prop:=∀i j,i < j->j < xs.size->xs.getD i 0 < xs.getD j 0
theorem getD_any {xs:Array Nat} {i:Nat} (h:i < xs.size) (a b:Nat):xs.getD i a=xs.getD i b:=by
 simp [Array.getD,h]
theorem below_go {xs:Array Nat} (hr:Ris xs) (j:Nat):∀(f lo hi:Nat),lo<=hi->hi<=xs.size->hi - lo<=f->(∀i,i < lo->xs.getD i 0 < j)->(∀i,hi<=i->i < xs.size->j<=xs.getD i 0) ->
 SetTable.below.go xs j f lo hi<=xs.size/\(∀i,i < SetTable.below.go xs j f lo hi->xs.getD i 0 < j)/\∀i,SetTable.below.go xs j f lo hi<=i->i < xs.size->j<=xs.getD i 0
 | 0,lo,hi,h1,h2,h3,h4,h5=>by
   have:lo=hi:=by omega
   subst this
   exact ⟨h2,h4,h5⟩
 | f+1,lo,hi,h1,h2,h3,h4,h5=>by
   unfold SetTable.below.go
   by_cases c:lo < hi
   ·rw [if_pos c]
    dsimp only
    have hm:(lo+hi) / 2 < xs.size:=by omega
    by_cases c2:xs.getD ((lo+hi) / 2) j < j
    ·rw [if_pos c2]
     refine below_go hr j f _ hi (by omega) h2 (by omega) (fun i hi'=>?_) h5
     rw [getD_any hm j 0] at c2
     by_cases e:i=(lo+hi) / 2
     ·rw [e];exact c2
     ·exact Nat.lt_trans (hr i ((lo+hi) / 2) (by omega) hm) c2
    ·rw [if_neg c2]
     refine below_go hr j f lo _ (by omega) (by omega) (by omega) h4 (fun i a b=>?_)
     rw [getD_any hm j 0] at c2
     by_cases e:i=(lo+hi) / 2
     ·rw [e];omega
     ·have:=hr ((lo+hi) / 2) i (by omega) b
      omega
   ·rw [if_neg c]
    have:lo=hi:=by omega
    subst this
    exact ⟨h2,h4,h5⟩
theorem below_ok {xs:Array Nat} (hr:Ris xs) (j:Nat):SetTable.below xs j<=xs.size/\(∀i,i < SetTable.below xs j->xs.getD i 0 < j)/\∀i,SetTable.below xs j<=i->i < xs.size->j<=xs.getD i 0 :=
 below_go hr j xs.size 0 xs.size (Nat.zero_le _) (Nat.le_refl _) (by omega) (fun i h=>absurd h (Nat.not_lt_zero _)) (fun i a b=>absurd a (by omega))
theorem below_zero {xs:Array Nat} (hr:Ris xs):SetTable.below xs 0=0:=by
 obtain ⟨_,h,_⟩:=below_ok hr 0
 cases e:SetTable.below xs 0 with
 | zero=>rfl
 | succ n=>exact absurd (h n (by omega)) (Nat.not_lt_zero _)
theorem below_next {xs:Array Nat} (hr:Ris xs) {i:Nat} (hi:i < xs.size):SetTable.below xs (xs.getD i 0+1)=i+1:=by
 obtain ⟨h0,h1,h2⟩:=below_ok hr (xs.getD i 0+1)
 have a:¬ SetTable.below xs (xs.getD i 0+1)<=i:=fun c=>by
  have:=h2 i c hi
  omega
 have b:¬ i+1 < SetTable.below xs (xs.getD i 0+1):=fun c=>by
  have p:=h1 (i+1) c
  have q:=hr i (i+1) (by omega) (by omega)
  omega
 omega
theorem insert_size {α:Type} {xs:Array α} {p:Nat} (hp:p<=xs.size) (x:α):(SetTable.insertAt xs p x).size=xs.size+1:=by
 unfold SetTable.insertAt
 simp
 omega
theorem insert_getD {xs:Array Nat} {p:Nat} (hp:p<=xs.size) (x i:Nat):(SetTable.insertAt xs p x).getD i 0=if i < p then xs.getD i 0 else if i=p then x else xs.getD (i - 1) 0:=by
 unfold SetTable.insertAt
 rw [Array.getD_eq_getD_getElem?,Array.getElem?_append]
 by_cases c:i < p
 ·rw [if_pos c,if_pos (by simp;omega),Array.getElem?_push]
  rw [if_neg (by simp;omega),Array.getElem?_extract]
  rw [if_pos (by omega),Array.getD_eq_getD_getElem?]
  simp
 ·rw [if_neg c]
  by_cases c2:i=p
  ·subst c2
   rw [if_pos rfl,if_pos (by simp;omega),Array.getElem?_push,if_pos (by simp;omega)]
   rfl
  ·rw [if_neg c2,if_neg (by simp;omega),Array.getElem?_extract,Array.getD_eq_getD_getElem?]
   have e:((xs.extract 0 p).push x).size=p+1:=by simp;omega
   rw [e]
   by_cases c3:i - (p+1) < min xs.size xs.size - p
   ·rw [if_pos c3]
    congr 2
    omega
   ·rw [if_neg c3,Array.getElem?_eq_none (by omega)]
theorem Ris.put {xs:Array Nat} (hr:Ris xs) {j:Nat} (hj:xs[SetTable.below xs j]?≠some j):Ris (SetTable.insertAt xs (SetTable.below xs j) j):=by
 obtain ⟨h0,h1,h2⟩:=below_ok hr j
 intro a b hab hb
 rw [insert_size h0] at hb
 rw [insert_getD h0,insert_getD h0]
 generalize hp:SetTable.below xs j=p at *
 have gt:∀i,p<=i->i < xs.size->j < xs.getD i 0:=fun i a b=>by
  have l:=h2 i a b
  by_cases e:i=p
  ·subst e
   have:xs.getD i 0≠j:=fun z=>hj (by simp [Array.getD,b] at z;simp [b,z])
   omega
  ·have:=h2 p (Nat.le_refl _) (by omega)
   have:=hr p i (by omega) b
   omega
 by_cases ca:a < p
 ·rw [if_pos ca]
  by_cases cb:b < p
  ·rw [if_pos cb]
   exact hr a b hab (by omega)
  ·rw [if_neg cb]
   by_cases cb2:b=p
   ·rw [if_pos cb2]
    exact h1 a ca
   ·rw [if_neg cb2]
    exact hr a (b - 1) (by omega) (by omega)
 ·rw [if_neg ca]
  by_cases ca2:a=p
  ·rw [if_pos ca2,if_neg (show ¬ b < p by omega),if_neg (show ¬ b=p by omega)]
   exact gt (b - 1) (by omega) (by omega)
  ·rw [if_neg ca2,if_neg (show ¬ b < p by omega),if_neg (show ¬ b=p by omega)]
   exact hr (a - 1) (b - 1) (by omega) (by omega)
theorem ris_range (n:Nat):Ris (Array.range n):=fun i j hij hj=>by
 have hj':j < n:=by simpa using hj
 have hi':i < n:=by omega
 simp [Array.getD,hj',hi']
 exact hij
theorem ris_of_pairwise {l:List Nat} (h:l.Pairwise (· < ·)):Ris l.toArray:=fun i j hij hj=>by
 have hj':j < l.length:=by simpa using hj
 have hi':i < l.length:=by omega
 have:=List.pairwise_iff_getElem.mp h i j hi' hj' hij
 simpa [Array.getD,hj',hi'] using this
theorem live_rising {owner:Array (Option Nat)} (n:Nat):(((List.range n).filterMap fun j=>(owner.getD j none).map (j,·)).map (·.1)).Pairwise (· < ·):=by
 rw [List.pairwise_map,List.pairwise_filterMap]
 refine List.Pairwise.imp ?_ List.pairwise_lt_range
 intro a b hab x hx y hy
 cases e1:owner.getD a none with
 | none=>rw [e1] at hx;cases hx
 | some u =>
   cases e2:owner.getD b none with
   | none=>rw [e2] at hy;cases hy
   | some v =>
     rw [e1] at hx
     rw [e2] at hy
     cases hx
     cases hy
     exact hab
theorem laid_ok {mask finger moves:Nat} {led plain:Bool} {hashes:Array Int} {t:SetTable} {order:Array Nat} (h:SetTable.laid mask finger moves led plain hashes=some (t,order)):Ris t.place/\t.led=led:=by
 unfold SetTable.laid at h
 cases e:SetTable.layClean mask hashes with
 | none=>rw [e] at h;cases h
 | some owner =>
   rw [e] at h
   cases h
   exact ⟨ris_of_pairwise (live_rising _),rfl⟩
theorem probe_free {t:SetTable} {f:Nat->Int} {hv:Int}:∀(n:Nat) (p:SetTable.Probe) {j:Nat} {du:Option Nat},(∀d,p.dummy=some d->t.place[SetTable.below t.place d]?≠some d) ->
 SetTable.probe.go t f hv n p=some (.empty j du)->(∀d,du=some d->t.place[SetTable.below t.place d]?≠some d)/\t.place[SetTable.below t.place j]?≠some j
 | 0,p,j,du,hd,e=>by cases e
 | n+1,p,j,du,hd,e=>by
   unfold SetTable.probe.go at e
   by_cases c:t.place[SetTable.below t.place p.j]?=some p.j
   ·have es:t.slot p.j=.live (SetTable.below t.place p.j):=by
     unfold SetTable.slot
     simp [c]
    rw [es] at e
    dsimp only at e
    by_cases c2:(f (SetTable.below t.place p.j) == hv)=true
    ·rw [if_pos c2] at e;cases e
    ·rw [if_neg c2] at e
     refine probe_free n _ ?_ e
     unfold SetTable.advance
     by_cases c3:p.more > 0
     ·rw [if_pos c3];exact hd
     ·rw [if_neg c3];exact hd
   ·by_cases c4:SetTable.has t.dummies p.j=true
    ·have es:t.slot p.j=.dummy:=by
      unfold SetTable.slot
      simp [c,c4]
     rw [es] at e
     dsimp only at e
     refine probe_free n _ ?_ e
     have k:∀d,some p.j=some d->t.place[SetTable.below t.place d]?≠some d:=fun d z=>by
      cases z
      exact c
     unfold SetTable.advance
     by_cases c3:p.more > 0
     ·rw [if_pos c3];exact k
     ·rw [if_neg c3];exact k
    ·have es:t.slot p.j=.empty:=by
      unfold SetTable.slot
      simp [c,c4]
     rw [es] at e
     cases e
     exact ⟨hd,c⟩
theorem free_ok {t:SetTable} {hv:Int} {slot:Nat} {b:Bool} (h:t.freeSlot hv=some (slot,b)):t.place[SetTable.below t.place slot]?≠some slot:=by
 unfold SetTable.freeSlot SetTable.probe at h
 cases e:SetTable.probe.go t (fun _=>hv+1) hv (10*SetTable.turns t.mask) (t.probeStart hv) with
 | none=>rw [e] at h;cases h
 | some m =>
   rw [e] at h
   cases m with
   | candidate j i nx=>cases h
   | empty j du =>
     obtain ⟨a,b'⟩:=probe_free _ _ (fun d z=>by cases z) e
     cases du with
     | none =>
       cases h
       exact b'
     | some d =>
       cases h
       exact a d rfl
noncomputable def Walk (t:SetTable):Prop:=Ris t.place/\t.led=true
theorem Walk.standIn {t:SetTable} (h:Walk t) (n:Nat):Walk (t.standIn n):=⟨ris_range n,h.2⟩
theorem Walk.orStandIn {t:SetTable} (h:Walk t) (n:Nat):Walk (t.orStandIn n):=by
 unfold SetTable.orStandIn
 split
 ·exact h
 ·exact h.standIn n
theorem Walk.lay {t:SetTable} (h:Walk t) (es:Array (Int × Value)) (hv:Int) (x:Value):Walk (layNew t es hv x).2.1:=by
 unfold layNew
 cases e:t.freeSlot hv with
 | none=>exact h.standIn _
 | some q =>
   obtain ⟨slot,b⟩:=q
   have w:Walk (t.put slot).1:=⟨h.1.put (free_ok e),h.2⟩
   exact w.orStandIn _
theorem Walk.relay {t:SetTable} (h:Walk t) (es:Array (Int × Value)) (n:Nat):Walk (relayAll t es n).2.1:=by
 unfold relayAll SetTable.relaid
 cases e:SetTable.laid (SetTable.sizeAbove n - 1) t.finger (t.movedTo (SetTable.sizeAbove n - 1)) t.led t.plain (es.map (·.1)) with
 | none=>exact h.standIn _
 | some q =>
   obtain ⟨t',order⟩:=q
   obtain ⟨a,b⟩:=laid_ok e
   dsimp only
   split
   ·exact ⟨a,b.trans h.2⟩
   ·exact h.standIn _
end L2
namespace L2
open PySem PySem.W PySem.Spec PyProof.Rows
def byText (w:World):Bool:=w.params.followText "set-order"
noncomputable def SetI (prog:Program) (w:World) (h:Heap) (a:Addr) (l:List Int):Prop :=
 ∃o es ep t ms,h.get? a=some o/\o.ExactSet/\o.data=.set es ep t/\ElemsOf (intKind prog w) es.toList/\IntsAre (es.toList.map (·.2)) ms/\ms.Perm l/\es.size < scanBound/\t.fits es.size=true/\(byText w=true\/Walk t)
theorem ints_perm {vs vs':List Value} (p:vs'.Perm vs):∀{ns:List Int},IntsAre vs ns->∃ns',IntsAre vs' ns'/\ns'.Perm ns:=by
 induction p with
 | nil=>intro ns h;cases h;exact ⟨[],.nil,.refl _⟩
 | cons x _ ih =>
   intro ns h
   cases h with
   | cons n t h =>
     obtain ⟨ns',a,b⟩:=ih h
     exact ⟨n :: ns',.cons n t a,b.cons n⟩
 | swap x y l =>
   intro ns h
   cases h with
   | cons n t h =>
     cases h with
     | cons m u h=>exact ⟨m :: n :: _,.cons m u (.cons n t h),.swap _ _ _⟩
 | trans _ _ ih1 ih2 =>
   intro ns h
   obtain ⟨n1,a1,b1⟩:=ih2 h
   obtain ⟨n2,a2,b2⟩:=ih1 a1
   exact ⟨n2,a2,b2.trans b1⟩
theorem ints_append:∀{vs us:List Value} {ns ms:List Int},IntsAre vs ns->IntsAre us ms->IntsAre (vs++us) (ns++ms)
 | _,_,_,_,.nil,h=>h
 | _,_,_,_,.cons n t a,h=>.cons n t (ints_append a h)
theorem ints_mem:∀{vs:List Value} {ns:List Int},IntsAre vs ns->∀{n:Int},n∈ns↔∃t,Value.int n t∈vs
 | _,_,.nil,n=>⟨(fun h=>by cases h),(fun ⟨_,h⟩=>by cases h)⟩
 | _,_,.cons m u a,n=>by
   constructor
   ·intro h
    rcases List.mem_cons.mp h with e | h
    ·subst e
     exact ⟨u,List.mem_cons_self ..⟩
    ·obtain ⟨t,ht⟩:=(ints_mem a).mp h
     exact ⟨t,List.mem_cons_of_mem _ ht⟩
   ·rintro ⟨t,h⟩
    rcases List.mem_cons.mp h with e | h
    ·cases e
     exact List.mem_cons_self ..
    ·exact List.mem_cons_of_mem _ ((ints_mem a).mpr ⟨t,h⟩)
section
variable {prog:Program} {w:World} {A:Around} {E:Value->Shared->Prop} {s:Shared}
theorem store_get {h:Heap} {a:Addr} {o:Obj} {es:Array (Int × Value)} {ep:Nat} {t:SetTable} (ho:h.get? a=some o) (hd:o.data=.set es ep t) (es':Array (Int × Value)) (t':SetTable) :
 (h.update a (Obj.putSet es' t')).get? a=some { o with data:=.set es' (ep+1) t' }:=by
 have:=Heap.get?_update_self (Obj.putSet es' t') ho (by rw [putSet_of es' t' hd];rfl)
 rw [putSet_of es' t' hd] at this
 exact this
theorem add_tail {g:Bool->Sem Unit} (hg:∀(b:Bool) (s₁:Shared) (Q':Unit->Shared->Prop),Q' () s₁->wpAny (model prog w) A (g b) Q' E s₁)
 {a:Addr} {o:Obj} {es:Array (Int × Value)} {ep:Nat} {t:SetTable} (ho:s.heap.get? a=some o) (hex:o.ExactSet) (hd:o.data=.set es ep t)
 {es1:Array (Int × Value)} {t2:SetTable} {ms l:List Int} (hel1:ElemsOf (intKind prog w) es1.toList) (hi:IntsAre (es1.toList.map (·.2)) ms) (hp:ms.Perm l)
 (hb1:es1.size < scanBound) (hf2:t2.fits es1.size=true) (hw:byText w=true\/Walk t2) {wasDummy:Bool} {R:Option Bool->Shared->Prop}
 (h:∀h',Heap.SameBut a s.heap h'->SetI prog w h' a l->R (some true) { s with heap:=h' }) :
 wpAny (model prog w) A (do
  storeSet a es1 t2
  if (!wasDummy && t2.tooFull)=true then do
      g (relayAll t2 es1 (SetTable.grown es1.size)).2.2
      storeSet a (relayAll t2 es1 (SetTable.grown es1.size)).1 (relayAll t2 es1 (SetTable.grown es1.size)).2.1
      pure (some true)
   else pure (some true)) R E s:=by
 refine wpAny_bind (wpAny_storeSet_of ho hd ?_ (fits_of_scanBound hb1))
 have ho1:=store_get ho hd es1 t2
 have hsb1:=Heap.SameBut.update s.heap a (Obj.putSet es1 t2)
 split
 ·have pr:=relayAll_perm t2 es1 (SetTable.grown es1.size)
  have fr:=relayAll_fits t2 es1 (SetTable.grown es1.size)
  have wr:byText w=true\/Walk (relayAll t2 es1 (SetTable.grown es1.size)).2.1:=hw.imp id fun x=>x.relay _ _
  generalize relayAll t2 es1 (SetTable.grown es1.size)=Rl at pr fr wr ⊢
  obtain ⟨es2,t3,gave2⟩:=Rl
  dsimp only at pr fr wr ⊢
  have hsz:es2.size=es1.size:=by rw [<- Array.length_toList,pr.length_eq,Array.length_toList]
  obtain ⟨ms2,i2,p2⟩:=ints_perm (pr.map (·.2)) hi
  refine wpAny_bind (hg _ _ _ ?_)
  refine wpAny_bind (wpAny_storeSet_of ho1 rfl ?_ (fits_of_scanBound (by rw [hsz];exact hb1)))
  exact wpAny_pure (h _ (hsb1.trans (Heap.SameBut.update _ a _)) ⟨_,es2,_,t3,ms2,store_get ho1 rfl es2 t3,hex,rfl,hel1.perm pr,i2,p2.trans hp,by rw [hsz];exact hb1,fr,wr⟩)
 ·exact wpAny_pure (h _ hsb1 ⟨_,es1,_,t2,ms,ho1,hex,rfl,hel1,hi,hp,hb1,hf2,hw⟩)
theorem add_int {a:Addr} {l:List Int} {k:Int} {tk:Tok} {Q:Bool->Shared->Prop} (hS:SetI prog w s.heap a l) (hroom:l.length+1 < scanBound)
 (h:∀h' b,Heap.SameBut a s.heap h'->SetI prog w h' a (step_dedup l k)->Q b { s with heap:=h' }) :
 wpAny (model prog w) A (setAddHashed a (.int k tk) ((intKind prog w).hash k)) Q E s:=by
 obtain ⟨o,es,ep,t,ms,ho,hex,hd,hel,hi,hp,hb,hf,hw⟩:=hS
 have hkey:(intKind prog w).is k (.int k tk)=true:=intKind_is _ _ _ _
 have hsc:(Value.int k tk).scannable=true:=rfl
 have hlen:es.size=l.length:=by
  have:=hi.length
  rw [List.length_map,Array.length_toList] at this
  rw [this,hp.length_eq]
 unfold setAddHashed setAddHashedIn
 refine wpAny_holding (wpAny_bind (wpAny_setState_of ho hd hf ?_))
 dsimp only
 rw [byScan_of hsc hb hel]
 simp only [↓reduceIte]
 unfold setAddByScan
 refine wpAny_bind ?_
 refine wpAny_bind (wpAny_rule ?_)
 refine wpAny_bind (wpAny_setScan_of hkey ho hd hf hel ?_)
 cases hr:List.findIdx? (fun e=>(intKind prog w).is k e.2) es.toList with
 | some j =>
   dsimp only
   obtain ⟨hj,hpj,_⟩:=List.findIdx?_eq_some_iff_getElem.mp hr
   have mem:k∈l:=by
    refine hp.mem_iff.mp ((ints_mem hi).mpr ?_)
    obtain ⟨t',e⟩:=Value.isInt_shape (show Value.isInt k es.toList[j].2=true from hpj)
    exact ⟨t',List.mem_map.mpr ⟨_,List.getElem_mem hj,e⟩⟩
   have es':step_dedup l k=l:=by
    unfold step_dedup
    rw [if_pos (List.any_eq_true.mpr ⟨k,mem,by simp⟩)]
   refine wpAny_pure (wpAny_pure ?_)
   exact h s.heap _ (Heap.SameBut.refl a s.heap) ⟨o,es,ep,t,ms,ho,hex,hd,hel,hi,by rw [es'];exact hp,hb,hf,hw⟩
 | none =>
   dsimp only
   have nmem:¬ k∈l:=fun m=>by
    obtain ⟨t',ht⟩:=(ints_mem hi).mp (hp.mem_iff.mpr m)
    obtain ⟨e,he,hv⟩:=List.mem_map.mp ht
    have:=List.findIdx?_eq_none_iff.mp hr e he
    rw [hv,intKind_is] at this
    exact Bool.noConfusion this
   have es':step_dedup l k=l++[k]:=by
    unfold step_dedup
    rw [if_neg (by
     intro z
     obtain ⟨y,hy,ey⟩:=List.any_eq_true.mp z
     have:y=k:=by simpa using ey
     exact nmem (this ▸ hy))]
   have hgw:∀(b:Bool) {s₁:Shared} {Q':Unit->Shared->Prop},Q' () s₁->wpAny (model prog w) A (match b with | true=>rule "set.scan.the-table-gave-way" | false=>pure ()) Q' E s₁ :=
    fun b s₁ Q' hq=>by cases b <;> first | exact wpAny_pure hq | exact wpAny_rule hq
   have pr:=layNew_perm t es ((intKind prog w).hash k) (.int k tk)
   have fr:=layNew_fits t es ((intKind prog w).hash k) (.int k tk)
   have wr:byText w=true\/Walk (layNew t es ((intKind prog w).hash k) (.int k tk)).2.1:=hw.imp id fun x=>x.lay _ _ _
   generalize layNew t es ((intKind prog w).hash k) (.int k tk)=L at pr fr wr ⊢
   obtain ⟨es1,t1,wasDummy,gave⟩:=L
   dsimp only at pr fr wr ⊢
   rw [Array.toList_push] at pr
   have hel1:ElemsOf (intKind prog w) es1.toList:=(hel.push hkey hsc).perm pr
   have hi0:IntsAre ((es.toList++[((intKind prog w).hash k,Value.int k tk)]).map (·.2)) (ms++[k]):=by
    rw [List.map_append]
    exact ints_append hi (.cons k tk .nil)
   obtain ⟨ms1,i1,p1⟩:=ints_perm (pr.map (·.2)) hi0
   have hp1:ms1.Perm (step_dedup l k):=by rw [es'];exact p1.trans (hp.append_right [k])
   have hb1:es1.size < scanBound:=by rw [<- Array.length_toList,pr.length_eq,List.length_append,Array.length_toList,hlen];simpa using hroom
   refine wpAny_bind (hgw _ ?_)
   split
   ·refine wpAny_bind ?_
    rw [hashByValue_scannable 8 hsc]
    refine wpAny_pure ?_
    refine add_tail ?_ ho hex hd hel1 i1 hp1 hb1 ?_ ?_ ?_
    ·intro b s₁ Q' hq;cases b <;> first | exact wpAny_pure hq | exact wpAny_rule hq
    ·split
     ·exact fr
     ·exact SetTable.fits_plain_off fr
    ·split
     ·exact wr
     ·exact wr
    ·intro h' hsb hS';dsimp only;exact wpAny_pure (h h' _ hsb hS')
   ·refine wpAny_bind (wpAny_pure ?_)
    simp only [↓reduceIte]
    refine add_tail ?_ ho hex hd hel1 i1 hp1 hb1 fr wr ?_
    ·intro b s₁ Q' hq;cases b <;> first | exact wpAny_pure hq | exact wpAny_rule hq
    ·intro h' hsb hS';dsimp only;exact wpAny_pure (h h' _ hsb hS')
theorem SetI.at {h h':Heap} {a:Addr} {l:List Int} (x:SetI prog w h a l) (e:∀o,h.get? a=some o->h'.get? a=some o):SetI prog w h' a l:=by
 obtain ⟨o,es,ep,t,ms,ho,r⟩:=x
 exact ⟨o,es,ep,t,ms,e o ho,r⟩
end
section
variable {prog:Program} {w:World} {A:Around} {R:Result->Shared->Prop} {I:Addr} {fp wr:List Addr} {G:Array GenState->Array GenState->Prop} {n:Nat} {P:Nat->Value->Prop} {St:Nat->Shared->Prop}
theorem set_loop (W:WalksS prog w A.in1 I fp wr G n P St) (S:Addr) (hSf:S ∉ fp) (val:Nat->Int) (hval:∀i v,P i v->∃t,v=.int (val i) t) (hb:n+1 < scanBound) :
 ∀(k i:Nat) (s:Shared),n - i=k->i<=n->St i s->SetI prog w s.heap S (firstMet val i)->(∀s',Moved (S :: wr) G s s'->SetI prog w s'.heap S (firstMet val n)->R (.ok (.ret .none)) s') ->
  codeAny (model prog w) A (.builtin "set.update.loop" ⟨[.ref S,.ref I],[]⟩) R s:=by
 have hSw:S ∉ wr:=fun h=>hSf (W.sub _ h)
 have hsub:∀b∈wr,b∈S :: wr:=fun b hb=>List.mem_cons_of_mem _ hb
 intro k
 induction k with
 | zero =>
   intro i s hk hi hst hS hR
   have hin:i=n:=by omega
   subst hin
   refine codeAny_builtin F.entry_set_update_loop ?_
   rw [Around.under_plainId F.plain_set_update_loop _]
   show wpAny _ A.in1 (pyNext (.ref I) >>= _) _ _ s
   refine wpAny_bind (W.done s _ _ hst fun s' hm=>?_)
   show wpAny _ A.in1 (ret Value.none) _ _ s'
   exact wpAny_pure (hR s' (hm.mono hsub) (hS.at fun o e=>hm.heap S o hSw e))
 | succ k ih =>
   intro i s hk hi hst hS hR
   have hlt:i < n:=by omega
   refine codeAny_builtin F.entry_set_update_loop ?_
   rw [Around.under_plainId F.plain_set_update_loop _]
   show wpAny _ A.in1 (pyNext (.ref I) >>= _) _ _ s
   refine wpAny_bind (W.item i s _ _ hlt hst fun v s' hP hst' hm=>?_)
   obtain ⟨t,rfl⟩:=hval i v hP
   have hS':=hS.at fun o e=>hm.heap S o hSw e
   show wpAny _ A.in1 (holding [Value.int (val i) t] (setAdd S (.int (val i) t)) >>= _) _ _ s'
   refine wpAny_bind (wpAny_holding ?_)
   unfold setAdd
   refine wpAny_holding ?_
   refine wpAny_bind ((intKind prog w).pyHash (k:=val i) (intKind_is _ _ _ _) ?_)
   have hroom:(firstMet val i).length+1 < scanBound:=by have:=firstMet_length_le val i;omega
   refine add_int (s:={ s' with toks:=s'.toks+1 }) hS' hroom fun h' b hsb hS2=>?_
   have hSi:SetI prog w h' S (firstMet val (i+1)):=by rw [firstMet_succ];exact hS2
   refine wpAny_pure ⟨plainId_quiet F.plain_set_update_loop _,ih (i+1) _ (by omega) hlt (W.frame _ s' _ _ hst' (Nat.le_succ _) fun b hb o e=>?_) hSi fun s'' hm'' hS''=>?_⟩
   ·rw [hsb.2 b (fun h:b=S=>hSf (by rw [<- h];exact hb))];exact e
   ·refine hR s'' (Moved.trans W.gtrans ((hm.mono hsub).then_heap (Nat.le_succ _) fun b o hb e=>?_) hm'') hS''
    rw [hsb.2 b (fun h:b=S=>hb (by rw [h];exact List.mem_cons_self))];exact e
end
section
variable {prog:Program} {w:World} {A:Around} {E:Value->Shared->Prop} {s:Shared}
abbrev newSetObj (w:World):Obj:={ cls:=.type "set",dict:=none,data:=.set #[] 0 (.fresh 0 0 (!byText w)) }
theorem set_new (a:Value) {Q₁:Value->Shared->Prop} (h:Q₁ (.ref s.heap.objs.size) { s with heap:=s.heap.push (newSetObj w) }) :
 codeAny (model prog w) A (.call (.builtin "set.__new__") ⟨[.type "set",a],[]⟩) (wants Q₁ E) s:=by
 refine codeAny_of_tree ?_
 show wpAny _ A.in1 (do checkBuiltinCall "set.__new__" ⟨[.type "set",a],[]⟩;again (.builtin "set.__new__" ⟨[.type "set",a],[]⟩)) _ _ s
 refine wpAny_bind (wpAny_of_eq (PySem.F.newCall_set_1 a) (wpAny_pure ⟨plainId_quiet PySem.F.plain_set_new _,codeAny_builtin PySem.F.entry_set_new ?_⟩))
 rw [Around.under_plainId PySem.F.plain_set_new _]
 unfold Builtin.«set.__new__» Builtin.Frozenset.newClass
 have hsub:=sub_set_self
 obtain ⟨hp,g,d,tk,os⟩:=s
 dsimp only
 wp_walk
 refine wpAny_askSetting (wpAny_pure ?_)
 dsimp only
 simp only [newObj]
 refine wpAny_bind (wpAny_alloc (wpAny_pure ?_))
 exact wpAny_pure h
theorem fresh_set {h:Heap} {a:Addr} (ho:h.get? a=some (newSetObj w)):SetI prog w h a [] :=
 ⟨_,#[],0,_,[],ho,⟨rfl,rfl,rfl⟩,rfl,fun e he=>by simp at he,.nil,.refl _,by decide,rfl,by
  cases e:byText w with
  | true=>exact .inl rfl
  | false=>exact .inr ⟨fun i j _ hj=>absurd hj (by simp [SetTable.fresh]),by simp [SetTable.fresh]⟩⟩
set_option maxRecDepth 100000 in
set_option maxHeartbeats 3200000 in
theorem set_of_list {l:Addr} {items:Array Value} {ns:List Int} {Q:Value->Shared->Prop} (hh:A.handled=none) (hl:s.heap.IsList l items) (hi:IntsAre items.toList ns) (hb:items.size+1 < scanBound)
 (h:∀(h':Heap) (tk:Nat),SetI prog w h' s.heap.objs.size (firstMet (fun i=>ns.getD i 0) items.size)->(∀b o,b < s.heap.objs.size->s.heap.get? b=some o->h'.get? b=some o)->Q (.ref s.heap.objs.size) { s with heap:=h',toks:=tk }) :
 wpAny (model prog w) A (call (.type "set") [.ref l]) Q E s:=by
 obtain ⟨c,tl,hmro⟩:=PySem.F.called_set.mro
 have hmade:=PySem.F.called_set.made
 have hsub:=PySem.F.called_set.sub
 refine wpAny_call (codeAny_of_tree ?_)
 show wpAny _ _ (callAny (.type "set") _) _ _ _
 refine wpAny_pure ⟨Code.quiet_builtin _ (by decide +kernel),codeAny_builtin PySem.F.entry_type_call ?_⟩
 rw [Around.under_plain (weight_type_call_type "set" [.ref l] []) rfl]
 have h1:=PySem.F.called_set.notType
 have h2:=PySem.F.called_set.canCreate
 have hct:=PySem.F.typeCall_set_1 (.ref l)
 repeat (any_goals (first | assumption | wp_step))
 refine codeAny_mono (set_new (.ref l) (E:=E) (Q₁:=fun obj s₁=>obj=.ref s.heap.objs.size/\s₁={ s with heap:=s.heap.push (newSetObj w) }) ⟨rfl,rfl⟩) fun r s₁ hr=>?_
 cases r with
 | error e=>exact hr
 | ok fl =>
   cases fl with
   | ret obj =>
     obtain ⟨rfl,rfl⟩:=hr
     have hS:(s.heap.push (newSetObj w)).get? s.heap.objs.size=some (newSetObj w):=Heap.get?_push_size _ rfl
     have hT:Shared.TypeIs { s with heap:=s.heap.push (newSetObj w) } (.ref s.heap.objs.size) "set":=⟨_,hS,rfl⟩
     have hli:=PySem.F.called_set.init.lookup
     have hbi:=PySem.F.called_set.init.bind (.ref s.heap.objs.size)
     repeat (any_goals (first | assumption | wp_step))
     refine codeAny_mono (codeAny_call_builtin (R:=wants (fun r s₂=>r=.none/\∃h' tk,s₂={ s with heap:=h',toks:=tk }/\SetI prog w h' s.heap.objs.size (firstMet (fun i=>ns.getD i 0) items.size) /\
      (∀b o,b < s.heap.objs.size->s.heap.get? b=some o->h'.get? b=some o)) E) PySem.F.called_set.init.plain PySem.F.entry_set_init (check_set_init_1 hT ?_)) fun r₂ s₂ hr₂=>?_
     ·obtain ⟨ol,hol,hcl,nl,hdl⟩:=hl
      obtain ⟨ocls,odict,odata,oslots⟩:=ol
      simp only at hcl hdl
      subst hcl;subst hdl
      have hol':(s.heap.push (newSetObj w)).get? l=some { cls:=.type "list",dict:=odict,data:=.seq items nl,slots:=oslots }:=Heap.get?_push_of_some _ hol
      have hsls:=PySem.F.sub_list_set
      have hslf:=PySem.F.sub_list_frozenset
      have hne:(Value.type "list" == Value.type "dict")=false:=by decide
      have hl1:(s.heap.push (newSetObj w)).IsList l items:=⟨_,hol',rfl,nl,rfl⟩
      unfold Builtin.«set.__init__» noKeywords Builtin.Frozenset.updateFrom
      generalize hPI:pyIter=PI
      wp_walk
      subst hPI
      refine wpAny_pyIter_list hl1 ?_
      refine wpAny_bind (wpAny_runValue ?_)
      have hlS:l < s.heap.objs.size:=Heap.lt_size hol
      have hh3:A.in1.in1.in1.handled=none:=by simp [hh]
      have hneI:l≠(s.heap.push (newSetObj w)).objs.size:=by
       rw [Heap.size_push];exact Nat.ne_of_lt (Nat.lt_succ_of_lt hlS)
      have hSf:s.heap.objs.size ∉ [(s.heap.push (newSetObj w)).objs.size,l]:=by
       rw [Heap.size_push];simp only [List.mem_cons,List.mem_singleton,List.not_mem_nil,or_false,not_or]
       exact ⟨Nat.ne_of_lt (Nat.lt_succ_self _),Nat.ne_of_gt hlS⟩
      have hval:∀(i:Nat) (v:Value),items[i]?=some v->∃t,v=.int ((fun i=>ns.getD i 0) i) t:=fun i v hv =>
       IntsAre.int_at hi i v (by rw [Array.getElem?_toList];exact hv)
      refine set_loop ((Walks.list hh3 _ l hneI items).toS) s.heap.objs.size hSf (fun i=>ns.getD i 0) hval hb (items.size - 0) 0 _ (by omega) (Nat.zero_le _)
       ⟨⟨_,Heap.get?_push_size _ rfl,rfl,rfl⟩,(hl1.push _)⟩ (fresh_set (Heap.get?_push_of_some _ hS)) ?_
      intro s' hm hS'
      obtain ⟨h',g',d',tk',os'⟩:=s'
      have eg:g'=s.gens:=hm.gens
      have ed:d'=s.drawn:=hm.drawn
      have eo:os'=s.os:=hm.os
      subst eg;subst ed;subst eo
      show wpAny _ _ _ _ _ _
      refine wpAny_pure ?_
      show wpAny _ _ (ret Value.none) _ _ _
      refine wpAny_pure ⟨rfl,h',tk',rfl,hS',fun b o hb e=>?_⟩
      have hb1:b≠s.heap.objs.size:=Nat.ne_of_lt hb
      have hb2:b≠(s.heap.push (newSetObj w)).objs.size:=by
       rw [Heap.size_push];exact Nat.ne_of_lt (Nat.lt_succ_of_lt hb)
      exact hm.heap b o (by simp only [List.mem_cons,List.mem_singleton,List.not_mem_nil,or_false,not_or];exact ⟨hb1,hb2⟩) (Heap.get?_push_of_some _ (Heap.get?_push_of_some _ e))
     ·cases r₂ with
      | error e=>exact hr₂
      | ok fl₂ =>
        cases fl₂ with
        | ret r =>
          obtain ⟨rfl,h',tk,rfl,hS',hk'⟩:=hr₂
          repeat (any_goals (first | assumption | wp_step))
          exact h _ _ hS' hk'
        | _=>exact hr₂.elim
   | _=>exact hr.elim
end
end L2
namespace L2
open PySem PySem.W PySem.Spec PyProof.Rows
theorem erase_perm {α:Type}:∀(xs:List α) (i:Nat) (hi:i < xs.length),(xs[i] :: xs.eraseIdx i).Perm xs
 | [],i,hi=>absurd hi (Nat.not_lt_zero _)
 | x :: xs,0,_=>.refl _
 | x :: xs,i+1,hi=>by
   have hi':i < xs.length:=by simpa using hi
   have ih:=erase_perm xs i hi'
   show (xs[i] :: x :: xs.eraseIdx i).Perm (x :: xs)
   exact (List.Perm.swap _ _ _).trans (ih.cons x)
section
variable {prog:Program} {w:World} {A:Around} {E:Value->Shared->Prop} {s:Shared}
theorem choose_any {src:Source} {n:Nat} {Q:Nat->Shared->Prop} (hn:n≠0) (h:∀x d,x < n->Q x { s with drawn:=d }):wpAny (model prog w) A (choose src n) Q E s:=fun Γ p _=>by
 unfold choose
 rw [Sem.wp_choose]
 exact ⟨hn,h _ _ (Nat.mod_lt _ (Nat.pos_of_ne_zero hn))⟩
theorem draw_any {α:Type}:∀(n:Nat) (xs:List α) (s:Shared) {Q:List α->Shared->Prop},xs.length=n->(∀ys d,ys.Perm xs->Q ys { s with drawn:=d })->wpAny (model prog w) A (drawOrder n xs) Q E s
 | 0,xs,s,Q,hl,h=>by
   have:xs=[]:=List.length_eq_zero_iff.mp hl
   subst this
   have:=h [] s.drawn (.refl _)
   exact wpAny_pure this
 | n+1,[],s,Q,hl,h=>by simp at hl
 | n+1,x :: xs,s,Q,hl,h=>by
   unfold drawOrder
   refine wpAny_bind (choose_any (by simp) fun i d hi=>?_)
   have e:(x :: xs)[i]?=some (x :: xs)[i]:=by simp [hi]
   rw [e]
   dsimp only
   refine wpAny_bind (draw_any n ((x :: xs).eraseIdx i) _ (by rw [List.length_eraseIdx,if_pos hi];simp at hl ⊢;omega) fun ys d' hp=>wpAny_pure ?_)
   refine h _ d' ?_
   exact (hp.cons _).trans (erase_perm _ _ hi)
end
theorem pick_go {α:Type} (next:Nat->Nat):∀(f k:Nat) (left:List α) (out:Array α),left.length=f->(pickOrder.go next f k left out).toList.Perm (out.toList++left)
 | 0,k,left,out,hl=>by
   have:left=[]:=List.length_eq_zero_iff.mp hl
   subst this
   simp [pickOrder.go]
 | f+1,k,left,out,hl=>by
   unfold pickOrder.go
   have hi:next k % left.length < left.length:=Nat.mod_lt _ (by omega)
   have e:left[next k % left.length]?=some left[next k % left.length]:=by simp [hi]
   rw [e]
   dsimp only
   refine (pick_go next f (k+1) (left.eraseIdx (next k % left.length)) _ (by rw [List.length_eraseIdx,if_pos hi];omega)).trans ?_
   rw [Array.toList_push,List.append_assoc]
   exact List.Perm.append_left _ (erase_perm _ _ hi)
theorem pick_perm {α:Type} (next:Nat->Nat) (xs:Array α):(pickOrder next xs).toList.Perm xs.toList:=by
 have:=pick_go next xs.size 0 xs.toList #[] (by simp)
 simpa [pickOrder] using this
noncomputable def SetRaw (h:Heap) (a:Addr) (es:Array (Int × Value)) (ep:Nat) (t:SetTable):Prop:=∃o,h.get? a=some o/\o.ExactSet/\o.data=.set es ep t
theorem SetRaw.at {h h':Heap} {a:Addr} {es:Array (Int × Value)} {ep:Nat} {t:SetTable} (x:SetRaw h a es ep t) (e:∀o,h.get? a=some o->h'.get? a=some o):SetRaw h' a es ep t:=let ⟨o,ho,r⟩:=x;⟨o,e o ho,r⟩
theorem SetRaw.typeIs {s:Shared} {a:Addr} {es:Array (Int × Value)} {ep:Nat} {t:SetTable} (x:SetRaw s.heap a es ep t):s.TypeIs (.ref a) "set":=let ⟨o,ho,hc,_⟩:=x;⟨o,ho,hc.1⟩
noncomputable def isDrawn (es:Array (Int × Value)) (t:SetTable):Bool:=!t.plain && decide (es.size > 1)
noncomputable def stand (t:SetTable):Nat->Nat
 | 0=>0
 | i+1=>t.place.getD i 0+1
noncomputable def SIt (w:World) (h:Heap) (I tp a:Addr) (es:Array (Int × Value)) (ep:Nat) (t:SetTable) (out:List Value) (i:Nat):Prop :=
 ∃first,(∃o,h.get? I=some o/\o.cls=.type "set_iterator"/\o.data=.fields #[first,rawInt i,.ref a,rawInt es.size,rawInt ep]) /\
  ((byText w=true/\first=rawInt 0/\out=(pickOrder (w.params.setOrder a ep) es).toList.map (·.2)) \/
   (byText w=false/\isDrawn es t=true/\first=.ref tp/\∃ps:List Nat,(∃o n,h.get? tp=some o/\o.data=.seq (ps.map fun (p:Nat)=>rawInt p).toArray n)/\ps.Perm (List.range es.size)/\out=ps.map fun p=>(es.getD p (0,Value.none)).2) \/
   (byText w=false/\isDrawn es t=false/\Walk t/\first=rawInt (stand t i)/\out=es.toList.map (·.2)))
theorem SIt.perm {w:World} {h:Heap} {I tp a:Addr} {es:Array (Int × Value)} {ep:Nat} {t:SetTable} {out:List Value} {i:Nat} (x:SIt w h I tp a es ep t out i):out.Perm (es.toList.map (·.2)):=by
 obtain ⟨_,_,⟨_,_,e⟩ | ⟨_,_,_,ps,_,p,e⟩ | ⟨_,_,_,_,e⟩⟩:=x
 ·rw [e]
  exact (pick_perm _ _).map _
 ·rw [e]
  have q:=p.map fun p=>(es.getD p (0,Value.none)).2
  refine q.trans (.of_eq ?_)
  apply List.ext_getElem
  ·simp
  ·intro i h1 h2
   have hi:i < es.size:=by simpa using h1
   simp [Array.getD,hi]
 ·rw [e]
section
variable {prog:Program} {w:World} {A:Around} {E:Value->Shared->Prop} {s:Shared} {a:Addr} {es:Array (Int × Value)} {ep:Nat} {t:SetTable}
theorem set_iter_entry:entryFor table "set.__iter__"=some Builtin.«frozenset.__iter__» :=
 entryFor_alias (id':="frozenset.__iter__") (by kernel_rfl) (by first | rfl | decide +kernel | (unfold String.splitOn;simp +decide [String.splitOnAux])) (by decide +kernel) (by kernel_rfl)
theorem set_next_slot:Slot "set_iterator" "__next__" "set_iterator.__next__" :=
 .of (owner:="set_iterator") (n:="__next__") (by rw [typeLookup_type,builtinLookup_eq_fast];kernel_rfl) (by decide +kernel) (by decide +kernel) (by decide +kernel)
  (by first | exact .inl (by decide +kernel) | exact .inr (by decide +kernel)) (by rw [isSubtype_type];kernel_rfl)
theorem set_next_entry:entryFor table "set_iterator.__next__"=some Builtin.«set_iterator.__next__»:=entryFor_of_tree (by kernel_rfl)
theorem set_next_args (a:Value):argsOk "set_iterator.__next__" ⟨[a],[]⟩:=by
 unfold argsOk
 kernel_rfl
theorem state_ok {Q:(Array (Int × Value) × Nat × SetTable)->Shared->Prop} (x:SetRaw s.heap a es ep t) (hf:t.fits es.size=true) (h:Q (es,ep,t) s):wpAny (model prog w) A (setState a) Q E s:=by
 obtain ⟨o,ho,_,hd⟩:=x
 exact wpAny_setState_of ho hd hf h
theorem set_iter {Q:Value->Shared->Prop} (x:SetRaw s.heap a es ep t) (hf:t.fits es.size=true) (hz:es.size<=sizeLine) (hw:byText w=true\/Walk t)
 (h:∀(h':Heap) (d:Drawn) (I tp:Addr) (out:List Value),(∀b o,s.heap.get? b=some o->h'.get? b=some o)->s.heap.objs.size<=I->s.heap.objs.size<=tp->tp≠I->I < h'.objs.size->SIt w h' I tp a es ep t out 0->Q (.ref I) { s with heap:=h',drawn:=d }) :
 wpAny (model prog w) A (pyIter (.ref a)) Q E s:=by
 have hT:=x.typeIs
 refine wpAny_pyIter_slot hT PySem.F.slot_set_iter (wpAny_call_entry PySem.F.slot_set_iter hT set_iter_entry ?_ (PySem.F.args_set_iter_1 _))
 unfold Builtin.«frozenset.__iter__»
 refine wpAny_bind (m:=Builtin.Frozenset.slot0 "__iter__" ⟨[.ref a],[]⟩) (wpAny_of_eq (a:=a) rfl ?_)
 refine wpAny_bind ?_
 unfold Builtin.Frozenset.sizeOf
 refine wpAny_bind ?_
 unfold setEntries
 refine wpAny_bind (state_ok x hf (wpAny_pure (wpAny_pure ?_)))
 dsimp only
 refine wpAny_bind ?_
 unfold setDrawn
 refine wpAny_bind (state_ok x hf ?_)
 dsimp only
 refine wpAny_bind ?_
 unfold setsByText
 refine wpAny_bind (wpAny_askSetting (wpAny_pure ?_))
 refine wpAny_pure ?_
 show wpAny _ _ (if (!byText w && isDrawn es t)=true then _ else _) _ _ s
 have fin:∀(s1:Shared) (first:Value),(∀b o,s.heap.get? b=some o->s1.heap.get? b=some o)->s.heap.objs.size<=s1.heap.objs.size->(∃d,s1={ s with heap:=s1.heap,drawn:=d }) ->
  (∀h',(∀b o,s1.heap.get? b=some o->h'.get? b=some o)->h'.get? s1.heap.objs.size=some { cls:=.type "set_iterator",data:=.fields #[first,rawInt 0,.ref a,rawInt es.size,rawInt ep] } ->
   ∃tp out,s.heap.objs.size<=tp/\tp≠s1.heap.objs.size/\SIt w h' s1.heap.objs.size tp a es ep t out 0) ->
  wpAny (model prog w) A.in1 (setEpoch a >>= fun e=>newFields "set_iterator" [first,rawInt 0,Value.ref a,rawInt es.size,rawInt e] >>= fun v=>ret v)
   (fun fin s'=>∃v,fin=Fin.done (Flow.ret v)/\∃T' r,s'.TypeIs v T'/\typeLookup (Value.type T') (Str.ofString "__next__")=pure (some r)/\Q v s') E s1:=by
  intro s1 first k1 k2 k3 k4
  obtain ⟨d,k3⟩:=k3
  have x1:SetRaw s1.heap a es ep t:=x.at fun o e=>k1 a o e
  refine wpAny_bind ?_
  unfold setEpoch
  refine wpAny_bind (state_ok x1 hf (wpAny_pure ?_))
  dsimp only
  refine wpAny_bind (m:=newFields "set_iterator" [first,rawInt 0,Value.ref a,rawInt es.size,rawInt ep]) ?_
  unfold newFields
  refine wpAny_newObj_type (wpAny_pure ⟨_,rfl,"set_iterator",_,⟨_,Heap.get?_push_size _ rfl,rfl⟩,set_next_slot.lookup,?_⟩)
  obtain ⟨tp,out,z1,z3,z2⟩:=k4 (s1.heap.push { cls:=.type "set_iterator",data:=.fields #[first,rawInt 0,.ref a,rawInt es.size,rawInt ep] }) (fun b o e=>Heap.get?_push_of_some _ e) (Heap.get?_push_size _ rfl)
  have:=h _ d s1.heap.objs.size tp out (fun b o e=>Heap.get?_push_of_some _ (k1 b o e)) k2 z1 z3 (by rw [size_push'];exact Nat.lt_succ_self _) z2
  rw [k3]
  exact this
 cases eb:byText w with
 | true =>
   rw [if_neg (by simp)]
   refine wpAny_bind (wpAny_pure ?_)
   refine fin s (rawInt 0) (fun b o e=>e) (Nat.le_refl _) ⟨s.drawn,rfl⟩ fun h' k e=>⟨s.heap.objs.size+1,_,Nat.le_succ _,Nat.succ_ne_self _,rawInt 0,⟨_,e,rfl,rfl⟩,.inl ⟨eb,rfl,rfl⟩⟩
 | false =>
   have wk:Walk t:=hw.resolve_left (by rw [eb];decide)
   cases ed:isDrawn es t with
   | false =>
     rw [if_neg (by decide)]
     refine wpAny_bind (wpAny_pure ?_)
     refine fin s (rawInt 0) (fun b o e=>e) (Nat.le_refl _) ⟨s.drawn,rfl⟩ fun h' k e=>⟨s.heap.objs.size+1,_,Nat.le_succ _,Nat.succ_ne_self _,rawInt 0,⟨_,e,rfl,rfl⟩,.inr (.inr ⟨eb,ed,wk,rfl,rfl⟩)⟩
   | true =>
     rw [if_pos (by decide)]
     refine wpAny_bind (draw_any es.size (List.range es.size) s (by simp) fun ps d hp=>?_)
     refine wpAny_bind (wpAny_newTuple ?_ (by rw [List.length_map,hp.length_eq,List.length_range];exact hz))
     refine fin _ (.ref s.heap.objs.size) (fun b o e=>Heap.get?_push_of_some _ e) (by show s.heap.objs.size<=(s.heap.push _).objs.size;rw [size_push'];exact Nat.le_succ _) ⟨d,rfl⟩ fun h' k e=>⟨s.heap.objs.size,_,Nat.le_refl _,(by show s.heap.objs.size≠(s.heap.push _).objs.size;rw [size_push'];exact Nat.ne_of_lt (Nat.lt_succ_self _)),.ref s.heap.objs.size,⟨_,e,rfl,rfl⟩,.inr (.inl ⟨eb,ed,rfl,ps,⟨_,_,k _ _ (Heap.get?_push_size _ rfl),rfl⟩,hp,rfl⟩)⟩
theorem next_text {slot i:Nat} {Q:Option (Value × Nat)->Shared->Prop} (b:byText w=true) (x:SetRaw s.heap a es ep t) (hf:t.fits es.size=true)
 (h:Q (((pickOrder (w.params.setOrder a ep) es)[i]?).map fun e=>(e.2,slot)) s):wpAny (model prog w) A (setNext a slot i ep) Q E s:=by
 unfold setNext
 refine wpAny_bind (state_ok x hf ?_)
 dsimp only
 refine wpAny_bind ?_
 unfold setsByText
 refine wpAny_bind (wpAny_askSetting (wpAny_pure ?_))
 refine wpAny_ite_split (fun _=>?_) (fun hab=>absurd b hab)
 refine wpAny_ite_split (fun hab=>absurd hab (by simp)) (fun _=>?_)
 refine wpAny_bind ?_
 unfold setWalk
 refine wpAny_bind (state_ok x hf ?_)
 dsimp only
 refine wpAny_bind ?_
 unfold setsByText
 refine wpAny_bind (wpAny_askSetting (wpAny_pure ?_))
 refine wpAny_ite_split (fun _=>?_) (fun hab=>absurd b hab)
 refine wpAny_bind (wpAny_askSetting (wpAny_pure (wpAny_pure ?_)))
 exact h
theorem next_led {slot i:Nat} {Q:Option (Value × Nat)->Shared->Prop} (b:byText w=false) (d:isDrawn es t=false) (wk:Walk t) (x:SetRaw s.heap a es ep t) (hf:t.fits es.size=true)
 (h:Q (match es[SetTable.below t.place slot]?,t.place[SetTable.below t.place slot]? with | some (_,x),some j=>some (x,j+1) | _,_=>none) s):wpAny (model prog w) A (setNext a slot i ep) Q E s:=by
 unfold setNext
 refine wpAny_bind (state_ok x hf ?_)
 dsimp only
 refine wpAny_bind ?_
 unfold setsByText
 refine wpAny_bind (wpAny_askSetting (wpAny_pure ?_))
 refine wpAny_ite_split (fun hab=>absurd (show byText w=true from hab) (by rw [b];decide)) (fun _=>?_)
 refine wpAny_ite_split (fun hab=>absurd (show isDrawn es t=true from hab) (by rw [d];decide)) (fun _=>?_)
 refine wpAny_bind ?_
 show wpAny _ _ (if (!t.led && !es.isEmpty)=true then _ else _) _ _ s
 rw [if_neg (by rw [wk.2];simp)]
 refine wpAny_pure ?_
 exact wpAny_pure h
theorem next_drawn {p:Nat} {Q:Value->Shared->Prop} (x:SetRaw s.heap a es ep t) (hf:t.fits es.size=true) (hp:p < es.size) (h:Q (es.getD p (0,Value.none)).2 s):wpAny (model prog w) A (setNextDrawn a p ep) Q E s:=by
 unfold setNextDrawn
 refine wpAny_bind (state_ok x hf ?_)
 dsimp only
 refine wpAny_ite_split (fun hab=>absurd hab (by simp)) (fun _=>?_)
 have e:es[p]?=some (es.getD p (0,Value.none)):=by simp [Array.getD,hp]
 rw [e]
 exact wpAny_pure h
theorem put_field {I:Addr} {o:Obj} {xs:Array Value} {k:Nat} {g:Value} {Q:Unit->Shared->Prop} (ho:s.heap.get? I=some o) (hd:o.data=.fields xs) (hk:k < xs.size)
 (h:∀h' o',h'.get? I=some o'->o'.cls=o.cls->o'.data=.fields (xs.setIfInBounds k g)->Heap.SameBut I s.heap h'->Q () { s with heap:=h' }):wpAny (model prog w) A (setField (.ref I) k g) Q E s:=by
 refine wpAny_setField ho hd hk ?_
 exact h _ _ (Heap.get?_update_self _ ho (Obj.isFreed_of_fields (Obj.data_mapFields hd _))) (Obj.cls_mapFields ..) (by rw [Obj.data_mapFields hd]) (Heap.SameBut.update ..)
theorem set_next {I tp:Addr} {out:List Value} {i:Nat} {v:Value} {Q:Option Value->Shared->Prop} (x:SetRaw s.heap a es ep t) (hf:t.fits es.size=true) (y:SIt w s.heap I tp a es ep t out i) (hv:out[i]?=some v) (n1:a≠I) (n2:tp≠I)
 (h:∀h',SIt w h' I tp a es ep t out (i+1)->Heap.SameBut I s.heap h'->Q (some v) { s with heap:=h' }):wpAny (model prog w) A (pyNext (.ref I)) Q E s:=by
 have hp:=y.perm
 obtain ⟨first,⟨o,ho,hc,hd⟩,y⟩:=y
 have hT:s.TypeIs (.ref I) "set_iterator":=⟨o,ho,hc⟩
 unfold pyNext
 refine wpAny_bind (wpAny_attempt (wpAny_callSpecial?_slot (name:=Str.ofString "__next__") hT set_next_slot (wpAny_call_entry set_next_slot hT set_next_entry ?_ (set_next_args _))))
 unfold Builtin.«set_iterator.__next__»
 refine wpAny_bind (wpAny_of_eq (a:=(Value.ref I,[])) rfl ?_)
 refine wpAny_bind (wpAny_fieldsOf ho hd ?_)
 dsimp only [rawInt]
 refine wpAny_bind ?_
 unfold setEntries
 refine wpAny_bind (state_ok x hf (wpAny_pure ?_))
 dsimp only
 rw [if_neg (by simp)]
 rcases y with ⟨b1,rfl,b2⟩ | ⟨b1,b2,rfl,ps,⟨ot,nt,hot,hdt⟩,pp,b3⟩ | ⟨b1,b2,b3,rfl,b4⟩
 ·have hi:(pickOrder (w.params.setOrder a ep) es)[i]?.map (·.2)=some v:=by
   rw [b2,List.getElem?_map,Array.getElem?_toList] at hv
   exact hv
  cases e:(pickOrder (w.params.setOrder a ep) es)[i]? with
  | none=>rw [e] at hi;cases hi
  | some q =>
    rw [e] at hi
    have hq:q.2=v:=Option.some.inj hi
    refine wpAny_bind (show wpAny _ _ (setNext a 0 i ep) _ _ s from next_text b1 x hf ?_)
    rw [e]
    show wpAny _ _ (setField (Value.ref I) 0 (Value.int (0:Nat) 0) >>= fun _=>setField (Value.ref I) 1 (Value.int ((i:Int)+1) 0) >>= fun _=>ret q.2) _ _ s
    refine wpAny_bind (put_field ho hd (by simp) fun h1 o1 g1 g2 g3 s1=>?_)
    refine wpAny_bind (put_field (s:={ s with heap:=h1 }) g1 g3 (by simp) fun h2 o2 k1 k2 k3 s2=>?_)
    rw [hq]
    exact wpAny_pure ⟨_,rfl,wpAny_pure (h h2 ⟨rawInt 0,⟨o2,k1,k2.trans (g2.trans hc),by rw [k3];simp [rawInt]⟩,.inl ⟨b1,rfl,b2⟩⟩ (s1.trans s2))⟩
 ·have hl:ps.length=es.size:=by rw [pp.length_eq,List.length_range]
  have hi:i < ps.length:=by
   rw [b3,List.getElem?_map] at hv
   cases e:ps[i]? with
   | none=>rw [e] at hv;cases hv
   | some q=>exact (List.getElem?_eq_some_iff.mp e).1
  have hv':v=(es.getD ps[i] (0,Value.none)).2:=by
   rw [b3,List.getElem?_map,List.getElem?_eq_getElem hi] at hv
   exact (Option.some.inj hv).symm
  have hlt:ps[i] < es.size:=List.mem_range.mp (pp.mem_iff.mp (List.getElem_mem hi))
  refine wpAny_bind (m:=seqItems? (Value.ref tp)) (wpAny_seqItems hot hdt ?_)
  dsimp only
  have e:(List.toArray (ps.map fun (p:Nat)=>rawInt (p:Int)))[(i:Int).toNat]?=some (Value.int (ps[i]:Nat) 0):=by simp [hi,rawInt]
  rw [e]
  refine wpAny_bind (show wpAny _ _ (setNextDrawn a ps[i] ep) _ _ s from next_drawn x hf hlt ?_)
  refine wpAny_bind (put_field ho hd (by simp) fun h1 o1 g1 g2 g3 s1=>?_)
  rw [<- hv']
  refine wpAny_pure ⟨_,rfl,wpAny_pure ?_⟩
  exact h h1 ⟨.ref tp,⟨o1,g1,g2.trans hc,by rw [g3];simp [rawInt]⟩,.inr (.inl ⟨b1,b2,rfl,ps,⟨ot,nt,(s1.2 tp n2).trans hot,hdt⟩,pp,b3⟩)⟩ s1
 ·have hi:i < es.size:=by
   rw [b4,List.getElem?_map] at hv
   cases e:es.toList[i]? with
   | none=>rw [e] at hv;cases hv
   | some q =>
     have:=(List.getElem?_eq_some_iff.mp e).1
     simpa using this
  have hv':v=(es[i]).2:=by
   rw [b4,List.getElem?_map,List.getElem?_eq_getElem (by simpa using hi)] at hv
   simpa using (Option.some.inj hv).symm
  have hpl:t.place.size=es.size:=by
   unfold SetTable.fits at hf
   simp at hf
   exact hf.1
  have hb:SetTable.below t.place (stand t i)=i:=by
   cases i with
   | zero=>exact below_zero b3.1
   | succ i=>exact below_next b3.1 (by omega)
  refine wpAny_bind (show wpAny _ _ (setNext a (stand t i) i ep) _ _ s from next_led b1 b2 b3 x hf ?_)
  rw [hb,Array.getElem?_eq_getElem hi,Array.getElem?_eq_getElem (by omega)]
  show wpAny _ _ (setField (Value.ref I) 0 (Value.int ((t.place[i]'(by omega)+1:Nat)) 0) >>= fun _=>setField (Value.ref I) 1 (Value.int ((i:Int)+1) 0) >>= fun _=>ret (es[i]).2) _ _ s
  refine wpAny_bind (put_field ho hd (by simp) fun h1 o1 g1 g2 g3 s1=>?_)
  refine wpAny_bind (put_field (s:={ s with heap:=h1 }) g1 g3 (by simp) fun h2 o2 k1 k2 k3 s2=>?_)
  rw [<- hv']
  have es':stand t (i+1)=t.place[i]'(by omega)+1:=by
   show t.place.getD i 0+1=_
   rw [Array.getD_eq_getD_getElem?,Array.getElem?_eq_getElem (by omega)]
   rfl
  refine wpAny_pure ⟨_,rfl,wpAny_pure (h h2 ⟨rawInt (stand t (i+1)),⟨o2,k1,k2.trans (g2.trans hc),?_⟩,.inr (.inr ⟨b1,b2,b3,rfl,b4⟩)⟩ (s1.trans s2))⟩
  rw [k3,es']
  simp [rawInt]
theorem stop_iter {Q:Option Value->Shared->Prop} {I:Addr} {h0:Heap} (hh:A.handled=none) (ex:Heap.ExtBut I h0 s.heap) (h:∀h',Heap.ExtBut I h0 h'->Q none { s with heap:=h' }) :
 wpAny (model prog w) A.in1 (newExc (.type "StopIteration") [] >>= fun e=>(raiseNew e:Sem PySem.Fin)) (fun fin s'=>∃v,fin=Fin.done (Flow.ret v)/\wpAny (model prog w) A (pure (some v)) Q E s')
  (fun e s'=>wpAny (model prog w) A (isInstance e (.type "StopIteration") >>= fun b=>if b=true then pure none else throw e) Q E s') s:=by
 refine wpAny_bind ?_
 simp only [newExc,newTuple]
 refine wpAny_bind (wpAny_newObj_type ?_ (by size_fits))
 refine wpAny_bind (m:=firstArgMember _ _) (wpAny_of_eq (a:=Value.none) (by first | rfl | (simp only [firstArgMember];rfl)) ?_)
 refine wpAny_newObj_type ?_ (by size_fits)
 simp only [raiseNew]
 refine wpAny_bind (wpAny_handled ?_)
 rw [show A.in1.handled=none from hh]
 refine wpAny_bind (wpAny_pure (wpAny_throw ?_))
 refine wpAny_bind (wpAny_isInstance (T:="StopIteration") (b:=true) ⟨_,Heap.get?_push_size _ rfl,rfl⟩ isSubtype_stop ?_)
 exact wpAny_pure (h _ ((ex.push _).push _))
theorem set_end {I tp:Addr} {out:List Value} {Q:Option Value->Shared->Prop} (hh:A.handled=none) (x:SetRaw s.heap a es ep t) (hf:t.fits es.size=true) (y:SIt w s.heap I tp a es ep t out es.size)
 (h:∀h',Heap.ExtBut I s.heap h'->Q none { s with heap:=h' }):wpAny (model prog w) A (pyNext (.ref I)) Q E s:=by
 obtain ⟨first,⟨o,ho,hc,hd⟩,y⟩:=y
 have hT:s.TypeIs (.ref I) "set_iterator":=⟨o,ho,hc⟩
 unfold pyNext
 refine wpAny_bind (wpAny_attempt (wpAny_callSpecial?_slot (name:=Str.ofString "__next__") hT set_next_slot (wpAny_call_entry set_next_slot hT set_next_entry ?_ (set_next_args _))))
 unfold Builtin.«set_iterator.__next__»
 refine wpAny_bind (wpAny_of_eq (a:=(Value.ref I,[])) rfl ?_)
 refine wpAny_bind (wpAny_fieldsOf ho hd ?_)
 dsimp only [rawInt]
 refine wpAny_bind ?_
 unfold setEntries
 refine wpAny_bind (state_ok x hf (wpAny_pure ?_))
 dsimp only
 rw [if_neg (by simp)]
 rcases y with ⟨b1,rfl,b2⟩ | ⟨b1,b2,rfl,ps,⟨ot,nt,hot,hdt⟩,pp,b3⟩ | ⟨b1,b2,b3,rfl,b4⟩
 ·have hz:(pickOrder (w.params.setOrder a ep) es).size=es.size:=by
   have:=(pick_perm (w.params.setOrder a ep) es).length_eq
   simpa using this
  refine wpAny_bind (show wpAny _ _ (setNext a 0 es.size ep) _ _ s from next_text b1 x hf ?_)
  rw [Array.getElem?_eq_none (by omega)]
  show wpAny _ _ (setField (Value.ref I) 2 Value.none >>= fun _=>newExc (.type "StopIteration") [] >>= fun e=>raiseNew e) _ _ s
  refine wpAny_bind (put_field ho hd (by simp) fun h1 o1 g1 g2 g3 s1=>?_)
  exact stop_iter (s:={ s with heap:=h1 }) hh s1.extBut fun h' e=>h h' e
 ·have hl:ps.length=es.size:=by rw [pp.length_eq,List.length_range]
  refine wpAny_bind (m:=seqItems? (Value.ref tp)) (wpAny_seqItems hot hdt ?_)
  dsimp only
  have e:(List.toArray (ps.map fun (p:Nat)=>rawInt (p:Int)))[(es.size:Int).toNat]?=none:=by simp [hl]
  rw [e]
  refine wpAny_bind (put_field ho hd (by simp) fun h1 o1 g1 g2 g3 s1=>?_)
  refine wpAny_bind (put_field (s:={ s with heap:=h1 }) g1 g3 (by simp) fun h2 o2 k1 k2 k3 s2=>?_)
  exact stop_iter (s:={ s with heap:=h2 }) hh (s1.trans s2).extBut fun h' e=>h h' e
 ·have hpl:t.place.size=es.size:=by
   unfold SetTable.fits at hf
   simp at hf
   exact hf.1
  have hb:SetTable.below t.place (stand t es.size)=es.size:=by
   cases e:es.size with
   | zero=>exact below_zero b3.1
   | succ i=>exact below_next b3.1 (by omega)
  refine wpAny_bind (show wpAny _ _ (setNext a (stand t es.size) es.size ep) _ _ s from next_led b1 b2 b3 x hf ?_)
  rw [hb,Array.getElem?_eq_none (Nat.le_refl _)]
  show wpAny _ _ (setField (Value.ref I) 2 Value.none >>= fun _=>newExc (.type "StopIteration") [] >>= fun e=>raiseNew e) _ _ s
  refine wpAny_bind (put_field ho hd (by simp) fun h1 o1 g1 g2 g3 s1=>?_)
  exact stop_iter (s:={ s with heap:=h1 }) hh s1.extBut fun h' e=>h h' e
theorem SIt.at {h h':Heap} {I tp:Addr} {out:List Value} {i:Nat} (x:SIt w h I tp a es ep t out i) (e1:∀o,h.get? I=some o->h'.get? I=some o) (e2:∀o,h.get? tp=some o->h'.get? tp=some o):SIt w h' I tp a es ep t out i:=by
 obtain ⟨f,⟨o,ho,hc⟩,⟨b1,b2⟩ | ⟨b1,b2,b3,ps,⟨ot,nt,hot,hdt⟩,b4⟩ | ⟨b1,b2⟩⟩:=x
 ·exact ⟨f,⟨o,e1 o ho,hc⟩,.inl ⟨b1,b2⟩⟩
 ·exact ⟨f,⟨o,e1 o ho,hc⟩,.inr (.inl ⟨b1,b2,b3,ps,⟨ot,nt,e2 ot hot,hdt⟩,b4⟩)⟩
 ·exact ⟨f,⟨o,e1 o ho,hc⟩,.inr (.inr ⟨b1,b2⟩)⟩
theorem SIt.typeIs {s:Shared} {I tp:Addr} {out:List Value} {i:Nat} (x:SIt w s.heap I tp a es ep t out i):s.TypeIs (.ref I) "set_iterator":=by
 obtain ⟨f,⟨o,ho,hc,_⟩,_⟩:=x
 exact ⟨o,ho,hc⟩
theorem seti_iter_slot:Slot "set_iterator" "__iter__" "set_iterator.__iter__" :=
 .of (owner:="set_iterator") (n:="__iter__") (by rw [typeLookup_type,builtinLookup_eq_fast];kernel_rfl) (by decide +kernel) (by decide +kernel) (by decide +kernel)
  (by first | exact .inl (by decide +kernel) | exact .inr (by decide +kernel)) (by rw [isSubtype_type];kernel_rfl)
theorem seti_iter_entry:entryFor table "set_iterator.__iter__"=some Builtin.«dict_keyiterator.__iter__» :=
 entryFor_alias (id':="dict_keyiterator.__iter__") (by kernel_rfl) (by first | rfl | decide +kernel | (unfold String.splitOn;simp +decide [String.splitOnAux])) (by decide +kernel) (by kernel_rfl)
theorem seti_iter_args (a:Value):argsOk "set_iterator.__iter__" ⟨[a],[]⟩:=by
 unfold argsOk
 kernel_rfl
theorem set_walks {I tp:Addr} {out:List Value} (hh:A.handled=none) (hf:t.fits es.size=true) (n1:a≠I) (n2:tp≠I) :
 Walks prog w A I [I,a,tp] [I] es.size (fun i v=>out[i]?=some v) (fun i h=>SIt w h I tp a es ep t out i/\SetRaw h a es ep t) where
 sub:=fun b hb=>by simp at hb;simp [hb]
 frame:=fun _ _ _ st hk=>⟨st.1.at (fun o e=>hk I (by simp) o e) (fun o e=>hk tp (by simp) o e),st.2.at fun o e=>hk a (by simp) o e⟩
 item:=fun i s Q E hi st hQ=>by
  have hl:out.length=es.size:=by rw [st.1.perm.length_eq];simp
  refine set_next (v:=out[i]) st.2 hf st.1 (by simp [hl,hi]) n1 n2 fun h' it' hs'=>?_
  exact hQ _ h' s.toks (by simp [hl,hi]) ⟨it',st.2.at fun o q=>hs'.extBut a o n1 q⟩ fun b o hb q=>hs'.extBut b o (fun h=>hb (by simp [h])) q
 done:=fun s Q E st hQ=>set_end hh st.2 hf st.1 fun h' he'=>hQ h' s.toks fun b o hb q=>he' b o (fun h=>hb (by simp [h])) q
 self:=fun i s Q E st hQ=>by
  refine wpAny_pyIter_slot st.1.typeIs seti_iter_slot (wpAny_call_entry seti_iter_slot st.1.typeIs seti_iter_entry ?_ (seti_iter_args _))
  show wpAny _ _ (ret (.ref I)) _ _ s
  exact wpAny_pure ⟨_,rfl,"set_iterator",_,st.1.typeIs,set_next_slot.lookup,hQ⟩
theorem set_hint {r:Addr} {Q:Bool->Shared->Prop} (hT:s.TypeIs (.ref r) "set") (h:Q false s):wpAny (model prog w) A (Builtin.List.listLengthHint (.ref r)) Q E s:=by
 unfold Builtin.List.listLengthHint
 refine wpAny_bind (wpAny_specialOf hT PySem.F.slot_set_len.lookup ?_)
 generalize hid:("set.__len__":String)=id0
 wp_delta
 rw [show splitId id0=some ("set","__len__") from by subst hid;decide +kernel]
 subst hid
 refine wpAny_bind (wpAny_isInstance (T:="set") (b:=true) hT (by rw [isSubtype_type];kernel_rfl) ?_)
 refine wpAny_ite_split (fun hab=>absurd hab (by decide)) (fun _=>?_)
 refine wpAny_ite_split (fun _=>?_) (fun hab=>absurd (by decide +kernel) hab)
 refine wpAny_bind (wpAny_typeOf hT ?_)
 exact wpAny_pure h
theorem items_out {out:List Value} {acc:Array Value} (hl:out.length=es.size) (h:ItemsOf (fun i v=>out[i]?=some v) acc es.size):acc.toList=out:=by
 obtain ⟨h1,h2⟩:=h
 apply List.ext_getElem?
 intro i
 by_cases hi:i < acc.size
 ·have:=h2 i acc[i] (by simp [hi])
  rw [this]
  simp [hi]
 ·rw [List.getElem?_eq_none (by simpa using Nat.le_of_not_lt hi),List.getElem?_eq_none (by omega)]
theorem set_collect {l:List Int} {R:List Value->Shared->Prop} (x:SetI prog w s.heap a l) (hh:A.handled=none)
 (h:∀(h':Heap) (tk:Nat) (d:Drawn) (vs:List Value) (ms:List Int),IntsAre vs ms->ms.Perm l->(∀b o,s.heap.get? b=some o->h'.get? b=some o)->s.heap.objs.size < h'.objs.size->R vs { s with heap:=h',toks:=tk,drawn:=d }) :
 wpAny (model prog w) A (collect (.ref a)) R E s:=by
 obtain ⟨o,es,ep,t,ms,ho,hex,hd,hel,hi,hp,hb,hf,hw⟩:=x
 have raw:SetRaw s.heap a es ep t:=⟨o,ho,hex,hd⟩
 have hz:=fits_of_scanBound hb
 have hlt:a < s.heap.objs.size:=Heap.lt_size ho
 unfold collect
 refine wpAny_bind (wpAny_runValue (codeAny_builtin entry_proto_collect' ?_))
 rw [Around.under_plainId PySem.F.plain_proto_collect _]
 show wpAny _ A.in1 (newList [] >>= fun l=>again (.builtin "list.__iadd__" ⟨[l,.ref a],[]⟩)) _ _ s
 refine wpAny_bind (wpAny_newObj_type ?_)
 refine wpAny_pure ⟨plainId_quiet PySem.F.plain_list_iadd _,codeAny_builtin entry_list_iadd' ?_⟩
 rw [Around.under_plainId PySem.F.plain_list_iadd _]
 have hS₁:(s.heap.push { cls:=.type "list",data:=.seq ([]:List Value).toArray }).get? s.heap.objs.size=some { cls:=.type "list",data:=.seq #[] }:=Heap.get?_push_size _ rfl
 show wpAny _ A.in1 (Builtin.List.listExtendWith (.ref s.heap.objs.size) (.ref a) (.ref s.heap.objs.size)) _ _ _
 have raw1:SetRaw (s.heap.push { cls:=.type "list",data:=.seq ([]:List Value).toArray }) a es ep t:=raw.at fun o e=>Heap.get?_push_of_some _ e
 unfold Builtin.List.listExtendWith
 refine wpAny_bind (wpAny_typeOf (T:="set") (SetRaw.typeIs (s:={ s with heap:=s.heap.push { cls:=.type "list",data:=.seq ([]:List Value).toArray } }) raw1) ?_)
 have h1:Builtin.List.listSameRef (.ref s.heap.objs.size) (.ref a)=false:=by simp [Builtin.List.listSameRef,Nat.ne_of_gt hlt]
 simp only [h1,show (Value.type "set" == Value.type "list")=false by decide,show (Value.type "set" == Value.type "tuple")=false by decide,Bool.or_false,Bool.false_eq_true,if_false]
 refine wpAny_bind (set_iter (s:={ s with heap:=s.heap.push { cls:=.type "list",data:=.seq ([]:List Value).toArray } }) raw1 hf hz hw fun h2 d I tp out k2 gI gtp n2 ltI it=>?_)
 have sz1:(s.heap.push { cls:=.type "list",data:=.seq ([]:List Value).toArray }).objs.size=s.heap.objs.size+1:=size_push' _ _
 have gI':s.heap.objs.size+1<=I:=by rw [<- sz1];exact gI
 have gtp':s.heap.objs.size+1<=tp:=by rw [<- sz1];exact gtp
 have raw2:SetRaw h2 a es ep t:=raw1.at fun o e=>k2 a o e
 have hS₂:=k2 _ _ hS₁
 have hSf:s.heap.objs.size ∉ [I,a,tp]:=by
  simp only [List.mem_cons,List.not_mem_nil,or_false,not_or]
  exact ⟨Nat.ne_of_lt (Nat.lt_of_lt_of_le (Nat.lt_succ_self _) gI'),Nat.ne_of_gt hlt,Nat.ne_of_lt (Nat.lt_of_lt_of_le (Nat.lt_succ_self _) gtp')⟩
 have n1:a≠I:=Nat.ne_of_lt (Nat.lt_of_lt_of_le (Nat.lt_succ_of_lt hlt) gI')
 have hl:out.length=es.size:=by rw [it.perm.length_eq];simp
 obtain ⟨ms',i',p'⟩:=ints_perm it.perm hi
 have W:=(set_walks (prog:=prog) (w:=w) (A:=A.in1) (out:=out) (ep:=ep) hh hf n1 n2).toS
 have key:∀(h3:Heap) (c₁ tk:Nat),SIt w h3 I tp a es ep t out 0->SetRaw h3 a es ep t->(∀b o,b≠s.heap.objs.size->h2.get? b=some o->h3.get? b=some o)->h3.get? s.heap.objs.size=some { cls:=.type "list",data:=.seq #[] c₁ } ->
  codeAny (model prog w) A (.builtin "list.extend.loop" ⟨[.ref s.heap.objs.size,.ref I,.ref s.heap.objs.size],[]⟩)
   (wants (fun v s'=>v=.ref s.heap.objs.size/\∃h' tk' c',s'={ s with heap:=h',toks:=tk',drawn:=d }/\(∀b o,s.heap.get? b=some o->h'.get? b=some o)/\h'.get? s.heap.objs.size=some { cls:=.type "list",dict:=none,data:=.seq out.toArray c',slots:=#[] }) (fun _ _=>False))
   { s with heap:=h3,toks:=tk,drawn:=d }:=by
  intro h3 c₁ tk it3 raw3 k3 hS₃
  refine codeAny_extend_loopS W hz _ hSf _ es.size 0 _ #[] c₁ rfl (Nat.zero_le _) ⟨it3,raw3⟩ hS₃ (ItemsOf.nil _) fun s' acc' c' hm hS' hacc=>?_
  have ea:acc'=out.toArray:=by rw [<- items_out hl hacc]
  refine ⟨rfl,s'.heap,s'.toks,c',?_,fun b o e=>?_,by rw [<- ea];exact hS'⟩
  ·have:=Moved.eq_with (wr:=s.heap.objs.size :: [I]) hm
   rw [this]
  ·have lb:b < s.heap.objs.size:=Heap.lt_size e
   refine hm.heap b o ?_ (k3 b o (Nat.ne_of_lt lb) (k2 b o (Heap.get?_push_of_some _ e)))
   simp only [List.mem_cons,List.not_mem_nil,or_false,not_or]
   exact ⟨Nat.ne_of_lt lb,Nat.ne_of_lt (Nat.lt_of_lt_of_le (Nat.lt_succ_of_lt lb) gI')⟩
 refine wpAny_bind (wpAny_holding (set_hint (SetRaw.typeIs (s:={ s with heap:=h2,drawn:=d }) raw2) ?_))
 have oth:∀(h3:Heap) (g:Obj->Obj) b o,b≠s.heap.objs.size->h3.get? b=some o->(h3.update s.heap.objs.size g).get? b=some o:=fun h3 g b o hb e=>(Heap.get?_update_other _ _ (Ne.symm hb)).trans e
 refine wpAny_ite_split (fun _=>?_) (fun _=>wpAny_pure ⟨plainId_quiet PySem.F.plain_extend_loop _,codeAny_mono (key h2 0 _ it raw2 (fun b o _ e=>e) hS₂) ?_⟩)
 ·refine wpAny_bind (wpAny_rule ?_)
  refine wpAny_bind ?_
  show wpAny _ _ (updateSeq s.heap.objs.size (·.push .none) >>= fun _=>updateSeq s.heap.objs.size (·.pop)) _ _ _
  refine wpAny_bind (wpAny_updateSeq hS₂ rfl ?_)
  have hS₃:=Heap.get?_update_self (Obj.mapSeq (·.push Value.none)) hS₂ rfl
  refine wpAny_updateSeq (hz:=by seq_fits) hS₃ rfl ?_
  have hS₄:=Heap.get?_update_self (Obj.mapSeq (·.pop)) hS₃ rfl
  have k4:∀b o,b≠s.heap.objs.size->h2.get? b=some o->((h2.update s.heap.objs.size (Obj.mapSeq (·.push Value.none))).update s.heap.objs.size (Obj.mapSeq (·.pop))).get? b=some o:=fun b o hb e=>oth _ _ b o hb (oth _ _ b o hb e)
  have nI:I≠s.heap.objs.size:=Nat.ne_of_gt (Nat.lt_of_lt_of_le (Nat.lt_succ_self _) gI')
  have ntp:tp≠s.heap.objs.size:=Nat.ne_of_gt (Nat.lt_of_lt_of_le (Nat.lt_succ_self _) gtp')
  refine wpAny_pure ⟨plainId_quiet PySem.F.plain_extend_loop _,codeAny_mono (key _ _ _ (it.at (fun o e=>k4 I o nI e) (fun o e=>k4 tp o ntp e)) (raw2.at fun o e=>k4 a o (Nat.ne_of_lt hlt) e) k4 hS₄) ?_⟩
  intro q s₂ y
  cases q with
  | error e=>exact y.elim
  | ok fl =>
    cases fl with
    | ret v =>
      obtain ⟨rfl,h',tk',c',rfl,hk,hS'⟩:=y
      show wpAny _ A (load s.heap.objs.size >>= _) _ _ _
      refine wpAny_bind (wpAny_load hS' ?_)
      exact wpAny_pure (h h' tk' d out ms' i' (p'.trans hp) hk (Heap.lt_size hS'))
    | _=>exact y.elim
 ·intro q s₂ y
  cases q with
  | error e=>exact y.elim
  | ok fl =>
    cases fl with
    | ret v =>
      obtain ⟨rfl,h',tk',c',rfl,hk,hS'⟩:=y
      show wpAny _ A (load s.heap.objs.size >>= _) _ _ _
      refine wpAny_bind (wpAny_load hS' ?_)
      exact wpAny_pure (h h' tk' d out ms' i' (p'.trans hp) hk (Heap.lt_size hS'))
    | _=>exact y.elim
theorem sorted_set {l:List Int} {R:Value->Shared->Prop} (x:SetI prog w s.heap a l) (hh:A.handled=none) (h64:l.length < 64)
 (h:∀(h':Heap) (tk:Nat) (d:Drawn) (L:Addr) (c:Nat) (out:Array Value) (ns:List Int),IntsAre out.toList ns->ns.Perm l->ns.Pairwise (·<=·)->(∀b o,s.heap.get? b=some o->h'.get? b=some o)->s.heap.objs.size<=L ->
  h'.get? L=some (seqObj "list" out c)->R (.ref L) { s with heap:=h',toks:=tk,drawn:=d }) :
 wpAny (model prog w) A (call (.builtin "sorted") [.ref a]) R E s:=by
 refine Calls.call_function_entry kind_sorted plain_sorted entry_sorted (args_sorted1 _) ?_
 unfold Builtin.«sorted»
 refine wpAny_bind (m:=checkCount "sorted" 1 1 _) (wpAny_pure ?_)
 refine wpAny_bind (set_collect (A:=A.in1) x hh fun h' tk d vs ms iv pm hk ge=>?_)
 have hl:vs.length < 64:=by rw [iv.length,pm.length_eq];exact h64
 refine wpAny_bind (wpAny_newList ?_ (by rw [sizeLine_eq];omega))
 have ho:(h'.push (seqObj "list" vs.toArray 0)).get? h'.objs.size=some (seqObj "list" vs.toArray 0):=Heap.get?_push_size _ rfl
 refine wpAny_bind (wpAny_holding (wpAny_call_entry slot_list_sort ⟨_,ho,rfl⟩ entry_list_sort (list_sort_tree (s:={ s with heap:=h'.push (seqObj "list" vs.toArray 0),toks:=tk,drawn:=d }) ho iv hl fun out ns i1 i2 i3=>⟨_,rfl,?_⟩) (args_list_sort _)))
 obtain ⟨e,he⟩:=sortedHeap_at (out:=out) ho
 refine wpAny_pure ⟨_,rfl,h _ tk d _ e out ns i1 (i2.trans pm) i3 (fun b o q=>?_) (Nat.le_of_lt ge) he⟩
 have k1:(h'.push (seqObj "list" vs.toArray 0)).get? b=some o:=Heap.get?_push_of_some _ (hk b o q)
 rw [sortedHeap_old (Nat.ne_of_lt (Heap.lt_size (hk b o q))) (Heap.lt_size k1)]
 exact k1
end
end L2
namespace L2
open PySem PySem.W PySem.Spec PyProof.Rows
theorem fm_nodup (val:Nat->Int):∀i,(firstMet val i).Nodup
 | 0=>by rw [firstMet_zero];exact List.nodup_nil
 | i+1=>by
   rw [firstMet_succ]
   unfold step_dedup
   have ih:=fm_nodup val i
   split
   ·exact ih
   ·rename_i c
    refine List.nodup_append.mpr ⟨ih,by simp,fun a ha b hb e=>?_⟩
    have:b=val i:=by simpa using hb
    subst this
    exact c (List.any_eq_true.mpr ⟨a,ha,by simp [e]⟩)
theorem range_getD (ns:List Int):(List.range ns.length).map (fun i=>ns.getD i 0)=ns:=by
 apply List.ext_getElem
 ·simp
 ·intro i h1 h2
  simp [h2]
theorem fm_mem {ns:List Int} {z:Int}:z∈firstMet (fun i=>ns.getD i 0) ns.length↔z∈ns:=by
 have e:=firstMet_any (fun i=>ns.getD i 0) ns.length z
 rw [range_getD] at e
 constructor
 ·intro h
  have a:(firstMet (fun i=>ns.getD i 0) ns.length).any (· == z)=true:=List.any_eq_true.mpr ⟨z,h,by simp⟩
  rw [e] at a
  obtain ⟨y,hy,ey⟩:=List.any_eq_true.mp a
  have:y=z:=by simpa using ey
  exact this ▸ hy
 ·intro h
  have a:ns.any (· == z)=true:=List.any_eq_true.mpr ⟨z,h,by simp⟩
  rw [<- e] at a
  obtain ⟨y,hy,ey⟩:=List.any_eq_true.mp a
  have:y=z:=by simpa using ey
  exact this ▸ hy
theorem lt_of_le_nodup:∀{l:List Int},l.Pairwise (·<=·)->l.Nodup->l.Pairwise (· < ·)
 | [],_,_=>.nil
 | x :: l,h,n=>by
   rw [List.pairwise_cons] at h ⊢
   rw [List.nodup_cons] at n
   exact ⟨fun y hy=>by
    have a:=h.1 y hy
    have b:x≠y:=fun e=>n.1 (e ▸ hy)
    omega,lt_of_le_nodup h.2 n.2⟩
section
variable {X:Cx} {e:Expr} {te:TE} {p p2 pos pos2:Pos}
theorem Inv.draw {pins:List (Addr × Obj)} {σ:St} {H:Hp} {s:Shared} (I:Inv X pins σ H s) (d:Drawn):Inv X pins σ H { s with drawn:=d } :=
 ⟨I.ok,I.os,I.bare,I.base,I.loc,I.cell,I.free,I.freeC,I.pin,I.hok,I.len⟩
noncomputable def tSortedSet (K:PySem.W.Frag) (te:TE):TE:=fun σ H Q=>te σ H fun x H1=>∃(a:Addr) (ns:List Int),x=.ref a/\SqL K H1 a (ns.map V.int)/\ns.length < 64 /\
 ∀(l:Addr) (ms:List Int),ms.Pairwise (· < ·)->(∀z,z∈ms↔z∈ns)->H1 l=none->Q (.ref l) (upd H1 l (.lst (ms.map V.int)))
theorem pe_sortedset (hc:X.calm=true) (hg:Gl X "sorted") (hm:X.mg "sorted"=none) (hg2:Gl X "set") (hm2:X.mg "set"=none) (he:PE X e te)
 (hs:starEach [e] X.env=[(false,eval e X.env)]:=by rfl)
 (hs2:starEach [(.Call (.Name "set" p2) [e] [] pos2:Expr)] X.env=[(false,eval (.Call (.Name "set" p2) [e] [] pos2) X.env)]:=by rfl) :
 PE X (.Call (.Name "sorted" p) [.Call (.Name "set" p2) [e] [] pos2] [] pos) (tSortedSet X.K te):=by
 intro pins s σ H Q I h
 refine wpAny_Call_Name_kw (ld_blt I hg hm boot_sorted ?_ (by decide) (by decide))
 refine callWith_builtin1 ?_ hs2 rfl
 rw [hs2]
 refine Calls.spliced_cons ?_
 refine wpAny_Call_Name_kw (ld_blt I hg2 hm2 boot_set ?_ (by decide) (by decide))
 refine callWith_type1 ?_ hs rfl
 rw [hs]
 refine Calls.spliced_cons (thn (he pins s σ H _ I h) fun u s1 ⟨x,H1,I1,r1,a,ns,hx,hq,h64,q⟩=>?_)
 subst hx
 cases r1
 refine Calls.spliced_nil ?_
 obtain ⟨its,rv,pl,hz⟩:=I1.list hq
 have hi:=intsAre_of rv
 have hlen:its.length=ns.length:=hi.length
 refine set_of_list (items:=its.toArray) (ns:=ns) (I1.ok.hd hc) pl.isList (by simpa using hi) (by rw [List.size_toArray,hlen];unfold scanBound;omega) fun h2 tk2 hS k2=>?_
 refine Calls.spliced_nil ?_
 have ez:its.toArray.size=ns.length:=by rw [List.size_toArray];exact hlen
 rw [ez] at hS
 have l64:(firstMet (fun i=>ns.getD i 0) ns.length).length < 64:=by
  have:=firstMet_length_le (fun i=>ns.getD i 0) ns.length
  omega
 have lt2:s1.heap.objs.size < h2.objs.size:=by
  obtain ⟨o,_,_,_,_,ho,_⟩:=hS
  exact Heap.lt_size ho
 refine sorted_set (s:={ s1 with heap:=h2,toks:=tk2 }) hS (I1.ok.hd hc) l64 fun h3 tk3 d L c out ms i1 i2 i3 k3 gL hL=>?_
 have kp:∀b o,s1.heap.get? b=some o->h3.get? b=some o:=fun b o q=>k3 b o (k2 b o (Heap.lt_size q) q)
 have ge:s1.heap.objs.size<=L:=Nat.le_trans (Nat.le_of_lt lt2) gL
 refine ⟨.ref L,_,(I1.laid (t':=tk3) kp ge (show ObjOk X.prog X.w _ h3 _ (.lst (ms.map V.int)) from ⟨?_,out.toList,c,vals_ints i1,hL⟩)).draw d,rfl,q L ms (lt_of_le_nodup i3 (i2.nodup_iff.mpr (fm_nodup _ _))) (fun z=>i2.mem_iff.trans fm_mem) (I1.hok.fresh ge)⟩
 rw [List.length_map,i2.length_eq,sizeLine_eq]
 omega
end
end L2
namespace L2
open PySem PySem.Spec PyProof.Rows
section
variable {X:Cx} {pins:List (Addr × Obj)} {σ:St} {H:Hp} {s:Shared} {h':Heap}
theorem Inv.laidTurned {t':Nat} {fp:List Addr} {a:Addr} {o:HO} (I:Inv X pins σ H s) (k:∀b u,b ∉ fp->s.heap.get? b=some u->h'.get? b=some u) (hf:∀b∈fp,FpOk X pins H b) (hp:s.heap.objs.size<=a)
 (new:ObjOk X.prog X.w (upd H a o) h' a o):Inv X pins σ (upd H a o) { s with heap:=h',toks:=t' }:=by
 have nin:∀b u,H b=some u->b ∉ fp:=fun b u e z=>by rw [(hf b z).1] at e;cases e
 have hn:H a=none:=I.hok.fresh hp
 refine I.step (g':=s.gens) (d':=s.drawn) (ch:=fp) (fun b hb=>?_) (fun b o _ _ hc e _=>k b o hc e) (fun b o _ _ hc e _=>⟨o.slots,k b o hc e⟩)
  (fun b u _ q n=>by rw [upd_ne (Nat.ne_of_lt (Nat.lt_of_lt_of_le (Heap.lt_size q) hp))];exact n)
  (fun b o hc e=>⟨o,k b o hc e⟩) (fun b xs q=>by rw [upd_ne (ne_of_none q hn)];exact q) (fun b u xs q=>by rw [upd_ne (ne_of_none q hn)];exact q) (fun b ps q=>⟨#[],by rw [upd_ne (ne_of_none q hn),q];simp⟩) (fun m hm=>?_) (fun b u e=>?_) I.bare
 ·obtain ⟨_,f1,_,f3,f4,f5⟩:=hf b hb
  exact ⟨f3,f1,f4,f5⟩
 ·obtain ⟨o,es,ep,ho,r⟩:=hm
  exact ⟨o,es,ep,k _ o (fun z=>(hf _ z).2.1 rfl) ho,r⟩
 ·by_cases hb:b=a
  ·subst hb;rw [upd_same] at e;cases e;exact new
  ·rw [upd_ne hb] at e
   refine (I.hok b u e).stay (fun c v hc q=>k c v ?_ q) (fun c q=>by rw [upd_ne (ne_of_none q hn)];exact q) fun c xs q=>by rw [upd_ne (ne_of_none q hn)];exact q
   rcases hc with z | z
   ·rw [z];exact nin b u e
   ·exact nin c _ z
end
noncomputable def Ite (K:PySem.W.Frag) (a:Addr):It :=
 ⟨fun i H=>∃xs x,SqL K H a xs/\xs[i]?=some x,fun i H x H'=>∃T y,x=.ref T/\H T=none/\H'=upd H T (.tup [.int (i:Int),y])/\∀xs,SqL K H a xs->xs[i]?=some y,fun i H=>∃xs,SqL K H a xs/\xs.length<=i⟩
theorem turn_enum {P:Program} {w:World} {K:PySem.W.Frag} {es:List Expr} {k:Nat} {pos:Pos} (a e it:Addr) (hne:e≠it) :
 Turn P w K (.Tuple es k pos) (Ite K a) [e,it] e (fun i h=>(∃old,IsEnum h e it (i:Nat) old)/\h.IsListIter it a i) where
 mem:=by simp
 obj:=fun i h st b hb=>by
  obtain ⟨⟨old,he⟩,o,e1,c,d⟩:=st
  rcases List.mem_cons.mp hb with z | z
  ·subst z
   exact ⟨_,he,fun v z=>by cases (show Data.fields _=Data.cell v from z)⟩
  ·have z':b=it:=by simpa using z
   subst z'
   exact ⟨o,e1,fun v z=>by rw [d] at z;cases z⟩
 keep:=fun i h h' st kk=>by
  obtain ⟨⟨old,he⟩,st⟩:=st
  exact ⟨⟨old,kk e (by simp) _ he⟩,st.at fun o q=>kk it (by simp) o q⟩
 item:=by
  intro X hP hw hK hc i pins s σ H E I hf st hg
  subst hP hw hK
  obtain ⟨xs,x,hq,hx⟩:=hg
  obtain ⟨its,rv,p,hz⟩:=I.list hq
  obtain ⟨u,hu,ru⟩:=rv.get hx
  obtain ⟨⟨old,he⟩,hit⟩:=st
  refine wpAny_pyNext_enum_item he hit p.isList (x:=u) (by simpa using hu) hne fun h1 ho hit1 hT hsz hk=>⟨_,rfl,?_⟩
  refine wpAny_letOwnedTupleGo_enum ho fun h2 he2 sb=>?_
  have fr:H s.heap.objs.size=none:=I.hok.fresh (Nat.le_refl _)
  have lte:e < s.heap.objs.size:=Heap.lt_size he
  have lti:it < s.heap.objs.size:=by obtain ⟨o,q,_⟩:=id hit;exact Heap.lt_size q
  refine ⟨.ref s.heap.objs.size,upd H s.heap.objs.size (.tup [.int (i:Int),x]),?_,rfl,⟨_,x,rfl,fr,rfl,fun ys hy=>by rw [I.list_inj hy hq];exact hx⟩,⟨⟨_,by simpa using he2⟩,hit1.at fun o q=>(sb.2 it (Ne.symm hne)).trans q⟩,fun b hb=>?_⟩
  ·refine I.laidTurned (fp:=[e,it]) (t':=s.toks+1) (fun b o hb q=>(sb.2 b (fun z=>hb (by simp [z]))).trans (hk b o (fun z=>hb (by simp [z])) (fun z=>hb (by simp [z])) q)) hf (Nat.le_refl _) ?_
   refine ⟨by show 2<=sizeLine;decide,[.int i s.toks,u],.cons ⟨_,rfl⟩ (.cons ru .nil),⟨_,(sb.2 _ (Nat.ne_of_gt lte)).trans hT,rfl,_,rfl⟩⟩
  ·rw [upd_ne (fun z=>?_)]
   ·exact (hf b hb).1
   ·rcases List.mem_cons.mp hb with q | q
    ·rw [q] at z;exact absurd lte (by rw [z];exact Nat.lt_irrefl _)
    ·have q':b=it:=by simpa using q
     rw [q'] at z;exact absurd lti (by rw [z];exact Nat.lt_irrefl _)
 done:=by
  intro X hP hw hK hc i pins s σ H E I hf st hg
  subst hP hw hK
  obtain ⟨xs,hq,hx⟩:=hg
  obtain ⟨its,rv,p,hz⟩:=I.list hq
  obtain ⟨f0,f1,f2,f3,f4,f5⟩:=hf it (by simp)
  obtain ⟨⟨old,he⟩,hit⟩:=st
  have hl:=rv.length
  exact wpAny_pyNext_enum_end (I.ok.hd hc) he hit p.isList (by simp;omega) fun h' eb=>⟨rfl,I.turned (t':=s.toks) (fun b o hb e=>eb b o hb e) f0 f1 f3 f4 f5⟩
 self:=fun _ _ _ _ _ st h=>by
  obtain ⟨⟨old,he⟩,_⟩:=st
  exact wpAny_pyIter_enum he h
section
variable {X:Cx}
noncomputable def iEnum (K:PySem.W.Frag) (ta:TA):TI:=fun σ H R=>ta σ H fun vs H1=>∃a,vs=[.ref a]/\(∃xs,SqL K H1 a xs)/\R (Ite K a) H1
theorem pi_enum {l:Expr} {ta:TA} {p pos pt:Pos} {es:List Expr} {k:Nat} (hg:Gl X "enumerate") (hm:X.mg "enumerate"=none) (ha:PA X [l] ta) (hs:starEach [l] X.env=[(false,eval l X.env)]:=by rfl) :
 PI X (.Tuple es k pt) (.Call (.Name "enumerate" p) [l] [] pos) (iEnum X.K ta):=by
 intro pins s σ H R I h
 refine Call_ (ld_blt I hg hm boot_enumerate (PyProof.Rows.callWith_type1 (thn (ha pos pins s σ H _ I h) fun us s1 ⟨vs,H1,I1,r1,q1⟩=>?_) hs rfl))
 obtain ⟨a,e,⟨xs,hq⟩,q⟩:=q1
 subst e
 cases r1 with
 | cons r rr =>
   cases rr
   cases r
   obtain ⟨its,rv,pl,hz⟩:=I1.list hq
   refine call_enumerate_list pl.isList fun h' he hit hsz hk=>?_
   refine wpAny_pyIter_enum (s:={ s1 with heap:=h' }) he ?_
   refine ⟨s1.heap.objs.size+1,[s1.heap.objs.size+1,s1.heap.objs.size],_,_,H1,rfl,I1.kept (t':=s1.toks) hk,turn_enum a _ _ (Nat.succ_ne_self _),⟨⟨_,he⟩,hit⟩,fun b hb=>?_,q⟩
   have ge:s1.heap.objs.size<=b:=by
    rcases List.mem_cons.mp hb with z | z
    ·rw [z];exact Nat.le_succ _
    ·have z':b=s1.heap.objs.size:=by simpa using z
     rw [z'];exact Nat.le_refl _
   exact I1.fpOk ge (I1.hok.fresh ge)
end
theorem for_enum {K:PySem.W.Frag} {a:Addr} {xs:List V} {g:TG} {tb:TS} {D:Ends} {σ:St} {H:Hp} (Pv:Nat->St->Hp->Prop) (h0:Pv 0 σ H) (hl:∀i σ H,i<=xs.length->Pv i σ H->SqL K H a xs)
 (hs:∀i x T σ H,xs[i]?=some x->Pv i σ H->H T=none->g (.ref T) σ (upd H T (.tup [.int (i:Int),x])) fun σ2 H2=>tb { D with nx:=Pv (i+1),ct:=Pv (i+1),bk:=D.nx } σ2 H2) (hd:∀σ H,Pv xs.length σ H->D.nx σ H) :
 ∃W:Nat->Nat->St->Hp->Prop,(∃m,W 0 m σ H)/\∀i m σ H,W i m σ H ->
  ((Ite K a).stop i H/\D.nx σ H)\/((Ite K a).go i H/\∃N:St->Hp->Prop,(∀σ' H',N σ' H'->∃m',m' < m/\W (i+1) m' σ' H')/\∀x H',(Ite K a).yld i H x H'->g x σ H' fun σ2 H2=>tb { D with nx:=N,ct:=N,bk:=D.nx } σ2 H2):=by
 refine ⟨fun i m σ H=>m=xs.length - i/\i<=xs.length/\Pv i σ H,⟨xs.length,by simp,Nat.zero_le _,h0⟩,?_⟩
 rintro i m σ H ⟨rfl,hi,p⟩
 have q:=hl i σ H hi p
 by_cases hlt:i < xs.length
 ·refine .inr ⟨⟨xs,xs[i],q,by simp [hlt]⟩,Pv (i+1),fun σ' H' p'=>⟨xs.length - (i+1),by omega,rfl,hlt,p'⟩,fun x H' y=>?_⟩
  obtain ⟨T,y,rfl,hT,rfl,hy⟩:=y
  exact hs i y T σ H (hy xs q) p hT
 ·have e:i=xs.length:=by omega
  subst e
  exact .inl ⟨⟨xs,q,Nat.le_refl _⟩,hd σ H p⟩
section
variable {X:Cx}
theorem vals_bools:∀{bs:List Bool} {us:List Value},Vals (bs.map V.bl) us->us=bs.map Value.bool
 | [],_,.nil=>rfl
 | _ :: _,_,.cons r rr=>by
   cases r
   rw [vals_bools rr]
   rfl
theorem all_range (bs:List Bool):(List.range bs.length).all (fun i=>bs.getD i false)=bs.all id:=by
 rw [Bool.eq_iff_iff,List.all_eq_true,List.all_eq_true]
 constructor
 ·intro h b hb
  obtain ⟨i,hi,rfl⟩:=List.mem_iff_getElem.mp hb
  have:=h i (List.mem_range.mpr hi)
  simpa [List.getD_eq_getElem?_getD,hi] using this
 ·intro h i hi
  have hi':=List.mem_range.mp hi
  have:=h _ (List.getElem_mem hi')
  simpa [List.getD_eq_getElem?_getD,hi'] using this
theorem truth_bools {P:Program} {w:World} {A:Around} {bs:List Bool}:TruthOf P w A (fun i v=>(bs.map Value.bool).toArray[i]?=some v) (fun i=>bs.getD i false):=by
 intro i v s Q E hP hQ
 have hP':(bs.map Value.bool)[i]?=some v:=by simpa using hP
 rw [List.getElem?_map] at hP'
 cases e:bs[i]? with
 | none=>rw [e] at hP';cases hP'
 | some b =>
   rw [e] at hP'
   have:Value.bool b=v:=Option.some.inj hP'
   subst this
   refine wpAny_truthy_bool ?_
   have e2:bs.getD i false=b:=by rw [List.getD_eq_getElem?_getD,e];rfl
   dsimp only at hQ
   rw [e2] at hQ
   exact hQ
theorem call_all (hc:X.calm=true) {K:PySem.W.Frag} (hK:X.K=K:=by rfl):CallR X (.builtin "all") (fun xs H Q=>∃(a:Addr) (bs:List Bool),xs=[.ref a]/\SqL K H a (bs.map V.bl)/\Q (.bl (bs.all id)) H):=by
 subst hK
 intro pins s σ H xs us Q I r h
 obtain ⟨a,bs,rfl,hq,q⟩:=h
 obtain ⟨u,rfl,rx⟩:=vals1 r
 cases rx
 obtain ⟨its,rv,pl,hz⟩:=I.list hq
 have ei:=vals_bools rv
 subst ei
 have lt:a < s.heap.objs.size:=by obtain ⟨o,q,_⟩:=pl.isList;exact Heap.lt_size q
 refine call_all_walk (wpAny_pyIter_list pl.isList ?_)
 refine ⟨_,_,_,_,_,_,_,rfl,Walks.list (A:=X.A.in1) (I.ok.hd hc) s.heap.objs.size a (Nat.ne_of_lt lt) (bs.map Value.bool).toArray,⟨⟨_,Heap.get?_push_size _ rfl,rfl,rfl⟩,pl.isList.at fun o q=>Heap.get?_push_of_some _ q⟩,truth_bools,fun h' tk hk=>?_⟩
 rw [List.size_toArray,List.length_map,all_range]
 exact ⟨.bl _,H,I.kept (t':=tk) fun b o q=>hk b o (by simpa using Nat.ne_of_lt (Heap.lt_size q)) (Heap.get?_push_of_some _ q),rfl,q⟩
end
end L2
namespace L2
open PySem PySem.Spec PyProof.Rows
section
variable {X:Cx} {elt iter:Expr} {xs:List Str} {tg:Expr} {g:TG} {pos:Pos} {ifs:List Expr} {sc fsc:Scope} {N Nc:List Str} {wi:TI} {tt:TT} {te:TE}
end
section
variable {X:Cx} {elt iter:Expr} {x1 x2 x3:Str} {p1 p2 p3 pt pos:Pos} {k:Nat} {ifs:List Expr} {sc fsc:Scope} {N Nc:List Str} {wi:TI} {tt:TT} {te:TE}
end
end L2
namespace L2
open PySem PySem.Spec PyProof.Rows
section
variable {X:Cx}
end
section
variable {X:Cx}
theorem pe_bmK {o e:Expr} {es:List Expr} {to:TE} {t:TA} {name:Str} {apos cpos:Pos} {T id:String} {r:V->List V->Hp->VK->Prop} (K:PySem.W.Frag) (pa:PlainAttrs T) (slot:Slot T name id) (hty:typeOf (.builtin id)=pure (.type "method_descriptor")) (hm:MtR X id r) (ho:PE X o to) (ha:PA X (e :: es) t)
 (hK:X.K=K:=by rfl) (hbase:attributeBase o name X.env (eval o X.env)=eval o X.env:=by rfl)
 (hfew:((backTo cpos (starEach (e :: es) X.env)).all (fun x=>!x.1) && (backToKw cpos (keywordEach [] X.env)).all (fun x=>x.1.isSome)
  && decide ((e :: es).length+([]:List Keyword).length+(if ([]:List Keyword).isEmpty then 0 else 1) < 30))=true:=by rfl)
 (hline:(apos.endLine == cpos.line)=true:=by rfl) (hs:starEach (e :: es) X.env=(false,eval e X.env) :: starEach es X.env:=by rfl) (hplain:(backTo cpos (starEach es X.env)).any (·.1)=false:=by rfl) :
 PE X (.Call (.Attribute o name apos) (e :: es) [] cpos) (tBM K T r to t):=by
 subst hK
 exact pe_bm pa slot hty hm ho ha hbase hfew hline hs hplain
theorem mt_index {K:PySem.W.Frag} (hK:X.K=K:=by rfl):MtR X "list.index" (fun x vs H Q=>∃(a:Addr) (ns:List Int) (k:Int),x=.ref a/\vs=[.int k]/\SqL K H a (ns.map V.int)/\k∈ns/\Q (.int (ns.idxOf k:Nat)) H):=by
 subst hK
 intro pins s σ H x vs v us Q I rx rv h
 obtain ⟨a,ns,k,rfl,rfl,hq,hk,q⟩:=h
 cases rx
 obtain ⟨u,rfl,t,rfl⟩:=vals1 rv
 obtain ⟨its,rv,pl,hz⟩:=I.list hq
 have hi:=intsAre_of rv
 have hl:=hi.length
 have hj:ns.idxOf k < ns.length:=List.idxOf_lt_length_iff.mpr hk
 have hb:ns.length<=sizeLine:=by rw [List.length_map] at hz;exact hz
 rw [sizeLine_eq] at hb
 obtain ⟨⟨cls,dd,data,sl⟩,ho,hc,n,hd⟩:=pl.isList
 replace hc:cls=.type "list":=hc
 replace hd:data=.seq its.toArray n:=hd
 subst hc hd
 refine call_meets PySem.F.slot_list_index ⟨_,ho,rfl⟩ PySem.F.entry_list_index (PySem.F.args_list_index_2 _ _) (PySem.SeqAt.list_indexAt a its.toArray n dd sl (.int k t) (isInt k) (ns.idxOf k) (by rw [List.size_toArray];omega) (by omega) ?_ ?_) ⟨ho,fun y hy=>(eq_isInt k t hi y (by simpa using hy)).at _ _,?_⟩
 ·have:isInt k its[ns.idxOf k]=true:=by rw [isInt_at k hi _ (by omega) hj];simpa using List.getElem_idxOf hj
  exact this
 ·intro j hjs hlt
  have:isInt k its[j]=false:=by rw [isInt_at k hi j (by simpa using hjs) (by omega)];exact ne_of_lt_idxOf hlt _
  exact this
 ·exact ⟨.int _,H,I.tok _,⟨_,rfl⟩,q⟩
end
theorem eqv_ints:∀ns ms:List Int,PyData.eqvAll (ns.map .int) (ms.map .int)=decide (ns=ms)
 | [],[]=>rfl
 | [],_ :: _=>rfl
 | _ :: _,[]=>rfl
 | n :: ns,m :: ms=>by
   show ((n == m) && PyData.eqvAll (ns.map .int) (ms.map .int))=_
   rw [eqv_ints ns ms]
   by_cases h:n=m
   ·by_cases k:ns=ms
    ·subst h;subst k;simp
    ·simp [h,k]
   ·simp [h]
theorem lay_ints:∀ns:List Int,PyData.canLayAll0 (ns.map .int)=true/\PyData.depthAll (ns.map .int)<=0
 | []=>⟨rfl,Nat.le_refl _⟩
 | n :: ns=>by
   obtain ⟨h1,h2⟩:=lay_ints ns
   refine ⟨?_,?_⟩
   ·show (true && PyData.canLayAll0 (ns.map .int))=true
    rw [h1];rfl
   ·show max 0 (PyData.depthAll (ns.map .int))<=0
    omega
theorem shape_ints (ns:List Int):SeqAt.shaped (.tuple (ns.map .int))=true/\SeqAt.shaped (.list (ns.map .int))=true:=by
 obtain ⟨h1,h2⟩:=lay_ints ns
 constructor
 ·unfold SeqAt.shaped
  rw [Bool.and_eq_true]
  refine ⟨h1,decide_eq_true ?_⟩
  show PyData.depthAll (ns.map .int)+1<=64
  omega
 ·unfold SeqAt.shaped
  rw [Bool.and_eq_true]
  refine ⟨h1,decide_eq_true ?_⟩
  show PyData.depthAll (ns.map .int)+1<=64
  omega
section
variable {X:Cx}
end
end L2
namespace L2
open PySem PySem.Spec PyProof.Rows
namespace CutT
open HT
section
variable {prog:Program} {w:World} {A:Around} {E:Value->Shared->Prop} {s:Shared}
end
end CutT
theorem comp_tup {K:PySem.W.Frag} {a:Addr} {xs:List V} {tt:TT} {te:TE} {σ:St} {H1:Hp} {Q:Addr->Hp->Prop} (hn:xs.length<=sizeLine) (Pv:Addr->Nat->List V->Hp->Prop)
 (h0:∀D,H1 D=none->Pv D 0 [] (upd H1 D (.lst []))) (hD:∀D i ys H,Pv D i ys H->H D=some (.lst ys)/\ys.length<=i) (hl:∀D i ys H,H1 D=none->Pv D i ys H->SqT K H a xs)
 (hs:∀D i x ys H (K1:VK) (K2:Hp->Prop),H1 D=none->xs[i]?=some x->Pv D i ys H->(∀y H5,H5 D=some (.lst ys)->Pv D (i+1) (ys++[y]) (upd H5 D (.lst (ys++[y])))->K1 y H5)->(∀H4,Pv D (i+1) ys H4->K2 H4) ->
  tt (σ++[some x]) H fun b H4=>if b=true then te (σ++[some x]) H4 K1 else K2 H4)
 (hd:∀D ys H,H1 D=none->Pv D xs.length ys H->Q D H) :
 ∀D,H1 D=none->∃W:Nat->Nat->List V->Hp->Prop,(∃m,W 0 m [] (upd H1 D (.lst [])))/\∀i m ys H2,W i m ys H2 ->
  H2 D=some (.lst ys)/\(((Itt K a).stop i H2/\Q D H2)\/((Itt K a).go i H2/\ys.length < sizeLine/\∀x H3,(Itt K a).yld i H2 x H3->tt (σ++[some x]) H3 fun b H4=>if b=true then te (σ++[some x]) H4 fun y H5=>H5 D=some (.lst ys)/\∃m',m' < m/\W (i+1) m' (ys++[y]) (upd H5 D (.lst (ys++[y])))
   else ∃m',m' < m/\W (i+1) m' ys H4)):=by
 intro D hDn
 refine ⟨fun i m ys H=>m=xs.length - i/\i<=xs.length/\Pv D i ys H,⟨xs.length,rfl,Nat.zero_le _,h0 D hDn⟩,?_⟩
 rintro i m ys H2 ⟨rfl,hi,p⟩
 obtain ⟨e,l⟩:=hD D i ys H2 p
 have q:=hl D i ys H2 hDn p
 refine ⟨e,?_⟩
 by_cases hlt:i < xs.length
 ·refine .inr ⟨⟨xs,xs[i],q,by simp [hlt]⟩,Nat.lt_of_le_of_lt l (Nat.lt_of_lt_of_le hlt hn),fun x H3 y=>?_⟩
  obtain ⟨e1,y⟩:=y
  subst e1
  exact hs D i x ys _ _ _ hDn (y xs q) p (fun y H5 h5 p5=>⟨h5,xs.length - (i+1),by omega,rfl,hlt,p5⟩) fun H4 p4=>⟨xs.length - (i+1),by omega,rfl,hlt,p4⟩
 ·have ei:i=xs.length:=by omega
  subst ei
  exact .inl ⟨⟨xs,q,Nat.le_refl _⟩,hd D ys H2 hDn p⟩
end L2
namespace L2
open PySem PySem.Spec PyProof.Rows
section
variable {prog:Program} {w:World} {A:Around} {E:Value->Shared->Prop} {s:Shared}
theorem init_kw {T newId:String} {self a:Value} {rest:List Value} {kw:List (Str × Value)} (fl:typeLookup (.type T) "__init__"=pure (some (.builtin "object.__init__")))
 (fm:Bind.madeBy (.type T)=pure (some newId)) (fn:(some newId != some "object.__new__")=true) :
 Meets (Builtin.«object.__init__» ⟨self :: a :: rest,kw⟩) (fun _ R s=>s.TypeIs self T/\R (.ok (.ret .none)) s):=by
 refine Meets.of_wp fun prog w A R s y=>?_
 obtain ⟨hT,fq⟩:=y
 repeat (any_goals (first | assumption | wp_step))
 exact ⟨_,rfl,fq⟩
theorem type_kw {T newId initId:String} {Bn Bi:Builtin} {args:List Value} {kw:List (Str × Value)} {S:PySem.Spec} {Q Q₁:Value->Shared->Prop} (ft:TypeCalled T newId initId)
 (ct:checkTypeCall T ⟨args,kw⟩=pure ()) (cn:checkBuiltinCall newId ⟨.type T :: args,kw⟩=pure ()) (eN:entryFor table newId=some Bn) (eI:entryFor table initId=some Bi) (g:Meets (Bn ⟨.type T :: args,kw⟩) S)
 (h:S A.in1 (wants Q₁ E) s)
 (nxt:∀o z,Q₁ o z->z.TypeIs o T/\argsOk initId ⟨o :: args,kw⟩/\∃Si,Meets (Bi ⟨o :: args,kw⟩) Si/\Si A.in1 (wants (fun r s₂=>r=.none/\Q o s₂) E) z) :
 wpAny (model prog w) A (call (.type T) args kw) Q E s:=by
 obtain ⟨c,tl,hmro⟩:=ft.mro
 have hmade:=ft.made
 have hsub:=ft.sub
 refine wpAny_call (codeAny_of_tree ?_)
 show wpAny _ _ (callAny (.type T) _) _ _ _
 refine wpAny_pure ⟨Code.quiet_builtin _ (by decide +kernel),codeAny_builtin F.entry_type_call ?_⟩
 rw [Around.under_plain (weight_type_call_type T args kw) (units_type_call_type T args kw)]
 have h1:=ft.notType
 have h2:=ft.canCreate
 repeat (any_goals (first | assumption | wp_step))
 refine codeAny_mono (codeAny_call_builtin ft.plain eN (wpAny_of_eq cn (g prog w A.in1 _ s h))) fun r z hr=>?_
 cases r with
 | error e=>exact hr
 | ok fl =>
   cases fl with
   | ret obj =>
     obtain ⟨hT,hok,Si,gi,hsi⟩:=nxt _ _ hr
     have hli:=ft.init.lookup
     have hbi:=ft.init.bind obj
     repeat (any_goals (first | assumption | wp_step))
     refine codeAny_mono (codeAny_call_builtin ft.init.plain eI (ft.init.check _ _ _ _ _ _ _ _ hT hok (gi prog w A.in1 _ z hsi))) fun r₂ s₂ hr₂=>?_
     cases r₂ with
     | error e=>exact hr₂
     | ok fl₂ =>
       cases fl₂ with
       | ret r =>
         obtain ⟨rfl,hq⟩:=hr₂
         repeat (any_goals (first | assumption | wp_step))
       | _=>exact hr₂.elim
   | _=>exact hr.elim
theorem start_new (l:Addr) (items:Array Value) (n:Nat) (dct:Option Addr) (sl:Array (Option Value)) (t:Tok) :
 Meets (Builtin.«enumerate.__new__» ⟨[.type "enumerate",.ref l],[("start",.int 1 t)]⟩) (fun _ R s=>s.heap.get? l=some { cls:=.type "list",dict:=dct,data:=.seq items n,slots:=sl } /\
  R (.ok (.ret (.ref (s.heap.push { cls:=.type "list_iterator",data:=.fields #[.ref l,.int 0 0] }).objs.size)))
    { s with heap:=(s.heap.push { cls:=.type "list_iterator",data:=.fields #[.ref l,.int 0 0] }).push { cls:=.type "enumerate",data:=.fields #[.none,.bool false,.ref s.heap.objs.size,rawInt 1,.none,.none] } }) :=
 .of_wp fun prog w A R s y=>by
  obtain ⟨hp,g,d,tk,os⟩:=s
  obtain ⟨hl,y⟩:=y
  have fs:=sub_enumerate
  have fL:Heap.IsList (Shared.heap ⟨hp,g,d,tk,os⟩) l items:=⟨_,hl,rfl,n,rfl⟩
  wp_walk using AutoSeq1.wpAny_loadPart' hl
  refine wpAny_stack_any fun st=>wpAny_pure ?_
  have fx:Builtin.SmallTypes.indexObject "enumerate.__new__" (.int 1 t)=pure (.int 1 t):=rfl
  split
  ·rename_i c _ _ _ _ _
   cases (c == Value.type "enumerate")
   ·wp_walk using wpAny_of_eq fx,wpAny_pyIter_list fL
    exact ⟨_,rfl,y⟩
   ·wp_walk using wpAny_of_eq fx,wpAny_pyIter_list fL
    exact ⟨_,rfl,y⟩
  ·wp_walk using wpAny_of_eq fx,wpAny_pyIter_list fL
   exact ⟨_,rfl,y⟩
theorem typeCall_start (a:Value) (t:Tok):checkTypeCall "enumerate" ⟨[a],[("start",.int 1 t)]⟩=pure ():=by kernel_rfl
theorem newCall_start (a:Value) (t:Tok):checkBuiltinCall "enumerate.__new__" ⟨[.type "enumerate",a],[("start",.int 1 t)]⟩=pure ():=by kernel_rfl
theorem initArgs_start (o a:Value) (t:Tok):argsOk "object.__init__" ⟨[o,a],[("start",.int 1 t)]⟩:=by
 first | exact trivial | kernel_rfl | (unfold argsOk;kernel_rfl)
theorem call_start {l:Addr} {items:Array Value} {t:Tok} {Q:Value->Shared->Prop} (hL:s.heap.IsList l items)
 (h:∀h',IsEnum h' (s.heap.objs.size+1) s.heap.objs.size 1 .none->h'.IsListIter s.heap.objs.size l 0->h'.objs.size=s.heap.objs.size+2->(∀b o,s.heap.get? b=some o->h'.get? b=some o)->Q (.ref (s.heap.objs.size+1)) { s with heap:=h' }) :
 wpAny (model prog w) A (call (.type "enumerate") [.ref l] [("start",.int 1 t)]) Q E s:=by
 obtain ⟨⟨c,dct,dt,sl⟩,hl,hc,n,hd⟩:=hL
 replace hc:c=.type "list":=hc
 replace hd:dt=.seq items n:=hd
 subst hc hd
 refine type_kw (Q₁:=fun o z=>z.TypeIs o "enumerate"/\Q o z) F.called_enumerate (typeCall_start _ _) (newCall_start _ _) F.entry_enumerate_new F.entry_object_init (start_new l items n dct sl t) ⟨hl,?_⟩
  fun o z y=>⟨y.1,initArgs_start o _ _,_,init_kw F.called_enumerate.init.lookup F.called_enumerate.made (by decide),y.1,rfl,y.2⟩
 have hz:(s.heap.push { cls:=.type "list_iterator",data:=.fields #[.ref l,.int 0 0] }).objs.size=s.heap.objs.size+1:=Heap.size_push ..
 show _/\_
 rw [hz]
 have he:IsEnum ((s.heap.push { cls:=.type "list_iterator",data:=.fields #[.ref l,.int 0 0] }).push { cls:=.type "enumerate",data:=.fields #[.none,.bool false,.ref s.heap.objs.size,rawInt 1,.none,.none] }) (s.heap.objs.size+1) s.heap.objs.size 1 .none:=by
  have e:=Heap.get?_push_size (s.heap.push { cls:=.type "list_iterator",data:=.fields #[.ref l,.int 0 0] }) (o:={ cls:=.type "enumerate",data:=.fields #[.none,.bool false,.ref s.heap.objs.size,rawInt 1,.none,.none] }) rfl
  rw [hz] at e
  exact e
 exact ⟨⟨_,he,rfl⟩,h _ he ⟨_,Heap.get?_push_of_some _ (Heap.get?_push_size _ rfl),rfl,rfl⟩ (by rw [Heap.size_push,hz]) fun b o x=>Heap.get?_push_of_some _ (Heap.get?_push_of_some _ x)⟩
end
section
variable {M:Model} {A:Around} {E:Value->Shared->Prop} {s:Shared} {env:Env}
theorem with_kw {pos:Pos} {T:String} {e:Expr} {kws:List Keyword} {Q:Value->Shared->Prop}
 (h:wpAny M A (spliced (backTo pos (starEach [e] env))) (fun vs z=>wpAny M A (evalAll ((backToKw pos (keywordEach kws env)).map (·.2))) (fun us y=>wpAny M A (call (.type T) vs (((backToKw pos (keywordEach kws env)).filterMap (·.1)).zip us)) Q E y) E z) E s)
 (he:backTo pos (starEach [e] env)=(false,eval e env) :: backTo pos (starEach [] env)) (hp:(backTo pos (starEach [e] env)).any (·.1)=false)
 (ha:(backToKw pos (keywordEach kws env)).all (·.1.isSome)=true) (hk:(backToKw pos (keywordEach kws env)).any (·.1.isNone)=false) :
 wpAny M A (callWith pos (.type T) [] (backTo pos (starEach [e] env)) (backToKw pos (keywordEach kws env))) Q E s:=by
 unfold callWith
 have y:wpAny M A (evalArgs (.type T) true (backTo pos (starEach [e] env)) (backToKw pos (keywordEach kws env))) (fun a z=>wpAny M A (call (.type T) ([]++a.pos) a.kw) Q E z) E s:=by
  rw [he] at h ⊢
  exact evalArgs_kwB ha h
 refine wpAny_bind (wpAny_holding (wpAny_mono y (fun a z q=>wpAny_bind (wpAny_standAt ?_)) fun _ _ x=>x))
 simp only [hp,hk,Bool.or_false]
 refine wpAny_bind (wpAny_pure (wpAny_bind ?_))
 exact wpAny_mono q (fun r z hr=>wpAny_bind (wpAny_holding (wpAny_point (wpAny_pure hr)))) fun _ _ x=>x
end
noncomputable def Ite1 (K:PySem.W.Frag) (a:Addr):It :=
 ⟨fun i H=>∃xs x,SqL K H a xs/\xs[i]?=some x,fun i H x H'=>∃T y,x=.ref T/\H T=none/\H'=upd H T (.tup [.int ((i:Int)+1),y])/\∀xs,SqL K H a xs->xs[i]?=some y,fun i H=>∃xs,SqL K H a xs/\xs.length=i⟩
theorem draws1 {prog:Program} {w:World} {A:Around} (hh:A.handled=none) (it l:Addr) (hne:l≠it) (items:Array Value) :
 Draws prog w A it [it,l] (items.size+1) (fun i v=>items[i - 1]?=some v) (fun i h=>1<=i/\h.IsListIter it l (i - 1)/\h.IsList l items) where
 live:=fun _ _ st=>let ⟨o,ho,_⟩:=st.2.1;⟨o,ho⟩
 frame:=fun _ _ _ st hk=>⟨st.1,st.2.1.at fun o e=>hk it (by simp) o e,st.2.2.at fun o e=>hk l (by simp) o e⟩
 item:=fun i s Q E hi st hQ=>by
  obtain ⟨h1,h2,h3⟩:=st
  have lt:i - 1 < items.size:=by omega
  refine wpAny_nextOf_list_item h2 h3 (x:=items[i - 1]) (by simp [lt]) fun h' hit' hs'=>?_
  have e:i+1 - 1=i - 1+1:=by omega
  exact hQ _ h' s.toks (by simp [lt]) ⟨by omega,by rw [e];exact hit',h3.extBut hs'.extBut hne⟩ hs'
 done:=fun s Q E st hE=>wpAny_nextOf_list_end hh st.2.1 st.2.2 (by simp) hE
theorem turn_enum1 {P:Program} {w:World} {K:PySem.W.Frag} {es:List Expr} {k:Nat} {pos:Pos} (a e it:Addr) (hne:e≠it) (hea:e≠a) (hai:a≠it) :
 Turn P w K (.Tuple es k pos) (Ite1 K a) [e,it] e (fun i h=>(∃old,IsEnum h e it ((i+1:Nat):Int) old)/\h.IsListIter it a i) where
 mem:=by simp
 obj:=fun i h st b hb=>by
  obtain ⟨⟨old,he⟩,o,e1,c,d⟩:=st
  rcases List.mem_cons.mp hb with z | z
  ·subst z
   exact ⟨_,he,fun v z=>by cases (show Data.fields _=Data.cell v from z)⟩
  ·have z':b=it:=by simpa using z
   subst z'
   exact ⟨o,e1,fun v z=>by rw [d] at z;cases z⟩
 keep:=fun i h h' st kk=>by
  obtain ⟨⟨old,he⟩,st⟩:=st
  exact ⟨⟨old,kk e (by simp) _ he⟩,st.at fun o q=>kk it (by simp) o q⟩
 item:=by
  intro X hP hw hK hc i pins s σ H E I hf st hg
  subst hP hw hK
  obtain ⟨xs,x,hq,hx⟩:=hg
  obtain ⟨its,rv,p,hz⟩:=I.list hq
  obtain ⟨u,hu,ru⟩:=rv.get hx
  obtain ⟨⟨old,he⟩,hit⟩:=st
  have hlt:i+1 < its.toArray.size+1:=by
   have:=(List.getElem?_eq_some_iff.mp hu).1
   rw [List.size_toArray]
   omega
  refine wpAny_pyNext_enum_itemD (draws1 (A:=X.A.in1) (I.ok.hd hc) it a hai its.toArray) (i:=i+1) he ⟨by omega,hit,p.isList⟩ hlt hne (by simp [hne,hea]) fun v h1 tk pv ho st1 hT hsz hk=>⟨_,rfl,?_⟩
  have ev:v=u:=by
   have pv':its.toArray[i+1 - 1]?=some v:=pv
   rw [Nat.add_sub_cancel] at pv'
   have:its[i]?=some v:=by simpa using pv'
   rw [hu] at this
   exact (Option.some.inj this).symm
  subst ev
  refine wpAny_letOwnedTupleGo_enum ho fun h2 he2 sb=>?_
  have fr:H s.heap.objs.size=none:=I.hok.fresh (Nat.le_refl _)
  have lte:e < s.heap.objs.size:=Heap.lt_size he
  have lti:it < s.heap.objs.size:=by obtain ⟨o,q,_⟩:=id hit;exact Heap.lt_size q
  have hit1:h1.IsListIter it a (i+1):=st1.2.1
  refine ⟨.ref s.heap.objs.size,upd H s.heap.objs.size (.tup [.int ((i:Int)+1),x]),?_,rfl,⟨_,x,rfl,fr,rfl,fun ys hy=>by rw [I.list_inj hy hq];exact hx⟩,⟨⟨_,by simpa using he2⟩,hit1.at fun o q=>(sb.2 it (Ne.symm hne)).trans q⟩,fun b hb=>?_⟩
  ·refine I.laidTurned (fp:=[e,it]) (t':=tk+1) (fun b o hb q=>(sb.2 b (fun z=>hb (by simp [z]))).trans (hk b o (fun z=>hb (by simp [z])) (fun z=>hb (by simp [z])) q)) hf (Nat.le_refl _) ?_
   refine ⟨by show 2<=sizeLine;decide,[.int ((i+1:Nat):Int) tk,v],.cons ⟨tk,by simp⟩ (.cons ru .nil),⟨_,(sb.2 _ (Nat.ne_of_gt lte)).trans hT,rfl,_,rfl⟩⟩
  ·rw [upd_ne (fun z=>?_)]
   ·exact (hf b hb).1
   ·rcases List.mem_cons.mp hb with q | q
    ·rw [q] at z;exact absurd lte (by rw [z];exact Nat.lt_irrefl _)
    ·have q':b=it:=by simpa using q
     rw [q'] at z;exact absurd lti (by rw [z];exact Nat.lt_irrefl _)
 done:=by
  intro X hP hw hK hc i pins s σ H E I hf st hg
  subst hP hw hK
  obtain ⟨xs,hq,hx⟩:=hg
  obtain ⟨its,rv,p,hz⟩:=I.list hq
  obtain ⟨f0,f1,f2,f3,f4,f5⟩:=hf it (by simp)
  obtain ⟨⟨old,he⟩,hit⟩:=st
  have hl:=rv.length
  have ei:i=its.toArray.size:=by rw [List.size_toArray];omega
  subst ei
  exact wpAny_pyNext_enum_endD (draws1 (A:=X.A.in1) (I.ok.hd hc) it a hai its.toArray) he ⟨by omega,hit,p.isList⟩ fun h' eb=>⟨rfl,I.turned (t':=s.toks) (fun b o hb e=>eb b o hb e) f0 f1 f3 f4 f5⟩
 self:=fun _ _ _ _ _ st h=>by
  obtain ⟨⟨old,he⟩,_⟩:=st
  exact wpAny_pyIter_enum he h
section
variable {X:Cx}
noncomputable def iEnum1 (K:PySem.W.Frag) (te:TE):TI:=fun σ H R=>te σ H fun v H1=>∃a,v=.ref a/\(∃xs,SqL K H1 a xs)/\R (Ite1 K a) H1
theorem pi_enum1 {l:Expr} {te:TE} {p pos pt kp:Pos} {cst:Expr} {es:List Expr} {k:Nat} (hg:Gl X "enumerate") (hm:X.mg "enumerate"=none) (he:PE X l te) (hc:PE X cst (tC (.int 1)))
 (h1:backTo pos (starEach [l] X.env)=(false,eval l X.env) :: backTo pos (starEach [] X.env):=by rfl) (h2:(backTo pos (starEach [l] X.env)).any (·.1)=false:=by rfl)
 (h3:(backToKw pos (keywordEach [⟨some "start",cst,kp⟩] X.env)).all (·.1.isSome)=true:=by rfl) (h4:(backToKw pos (keywordEach [⟨some "start",cst,kp⟩] X.env)).any (·.1.isNone)=false:=by rfl)
 (h5:(backToKw pos (keywordEach [⟨some "start",cst,kp⟩] X.env)).filterMap (·.1)=[("start":Str)]:=by rfl) :
 PI X (.Tuple es k pt) (.Call (.Name "enumerate" p) [l] [⟨some "start",cst,kp⟩] pos) (iEnum1 X.K te):=by
 intro pins s σ H R I h
 refine wpAny_Call_Name_kw (ld_blt I hg hm boot_enumerate ?_ (by decide) (by decide))
 refine with_kw ?_ h1 h2 h3 h4
 rw [h1]
 refine Calls.spliced_cons (thn (he pins s σ H _ I h) fun u s1 ⟨x,H1,I1,r1,a,hx,⟨xs,hq⟩,q⟩=>?_)
 subst hx
 cases r1
 refine Calls.spliced_nil ?_
 refine kws_cons (thn (hc pins s1 σ H1 (fun v H'=>v=.int 1/\H'=H1) I1 ⟨rfl,rfl⟩) fun v s2 ⟨y,H2,I2,r2,e1,e2⟩=>kws_nil ?_)
 subst e1 e2
 obtain ⟨t,rfl⟩:=r2
 rw [h5]
 show wpAny (model X.prog X.w) X.A (call (.type "enumerate") [.ref a] [("start",.int 1 t)]) _ _ s2
 obtain ⟨its,rv,pl,hz⟩:=I2.list hq
 have lta:a < s2.heap.objs.size:=by obtain ⟨o,q,_⟩:=pl.isList;exact Heap.lt_size q
 refine call_start pl.isList fun h' hen hit hsz hk=>?_
 refine wpAny_pyIter_enum (s:={ s2 with heap:=h' }) hen ?_
 refine ⟨s2.heap.objs.size+1,[s2.heap.objs.size+1,s2.heap.objs.size],_,_,H2,rfl,I2.kept (t':=s2.toks) hk,turn_enum1 a _ _ (Nat.succ_ne_self _) (Nat.ne_of_gt (Nat.lt_succ_of_lt lta)) (Nat.ne_of_lt lta),⟨⟨_,hen⟩,hit⟩,fun b hb=>?_,q⟩
 have ge:s2.heap.objs.size<=b:=by
  rcases List.mem_cons.mp hb with z | z
  ·rw [z];exact Nat.le_succ _
  ·have z':b=s2.heap.objs.size:=by simpa using z
   rw [z'];exact Nat.le_refl _
 exact I2.fpOk ge (I2.hok.fresh ge)
end
theorem for_enum1 {K:PySem.W.Frag} {a:Addr} {xs:List V} {g:TG} {tb:TS} {D:Ends} {σ:St} {H:Hp} (Pv:Nat->St->Hp->Prop) (h0:Pv 0 σ H) (hl:∀i σ H,i<=xs.length->Pv i σ H->SqL K H a xs)
 (hs:∀i x T σ H,xs[i]?=some x->Pv i σ H->H T=none->g (.ref T) σ (upd H T (.tup [.int ((i:Int)+1),x])) fun σ2 H2=>tb { D with nx:=Pv (i+1),ct:=Pv (i+1),bk:=D.nx } σ2 H2) (hd:∀σ H,Pv xs.length σ H->D.nx σ H) :
 ∃W:Nat->Nat->St->Hp->Prop,(∃m,W 0 m σ H)/\∀i m σ H,W i m σ H ->
  ((Ite1 K a).stop i H/\D.nx σ H)\/((Ite1 K a).go i H/\∃N:St->Hp->Prop,(∀σ' H',N σ' H'->∃m',m' < m/\W (i+1) m' σ' H')/\∀x H',(Ite1 K a).yld i H x H'->g x σ H' fun σ2 H2=>tb { D with nx:=N,ct:=N,bk:=D.nx } σ2 H2):=by
 refine ⟨fun i m σ H=>m=xs.length - i/\i<=xs.length/\Pv i σ H,⟨xs.length,by simp,Nat.zero_le _,h0⟩,?_⟩
 rintro i m σ H ⟨rfl,hi,p⟩
 have q:=hl i σ H hi p
 by_cases hlt:i < xs.length
 ·refine .inr ⟨⟨xs,xs[i],q,by simp [hlt]⟩,Pv (i+1),fun σ' H' p'=>⟨xs.length - (i+1),by omega,rfl,hlt,p'⟩,fun x H' y=>?_⟩
  obtain ⟨T,y,rfl,hT,rfl,hy⟩:=y
  exact hs i y T σ H (hy xs q) p hT
 ·have e:i=xs.length:=by omega
  subst e
  exact .inl ⟨⟨xs,q,rfl⟩,hd σ H p⟩
end L2
namespace L2
open PySem PySem.Spec PyProof.Rows
section
variable {prog:Program} {w:World} {A:Around} {E:Value->Shared->Prop} {s:Shared}
theorem tn_item {j t:Addr} {i:Nat} {xs:Array Value} {x:Value} {Q:Value->Shared->Prop} (ji:s.heap.IsTupleIter j t i) (jt:s.heap.IsTuple t xs) (jx:xs[i]?=some x)
 (q:∀h',h'.IsTupleIter j t (i+1)->Heap.SameBut j s.heap h'->Q x { s with heap:=h' }):wpAny (model prog w) A (Builtin.SmallTypes.nextOf (.ref j)) Q E s:=by
 obtain ⟨o,jo,jc,jd⟩:=id ji
 obtain ⟨u,ju,_,n,je⟩:=jt
 unfold Builtin.SmallTypes.nextOf;refine wpAny_bind (wpAny_callSpecial?_slot (name:=Str.ofString "__next__") ji.typeIs F.slot_tuple_iterator_next (wpAny_call_entry F.slot_tuple_iterator_next ji.typeIs F.entry_tuple_iterator_next ?_ (F.args_tuple_iterator_next_1 _)))
 refine wpAny_bind (m:=field (.ref j) 0) (wpAny_field jo jd (x:=.ref t) rfl ?_)
 show wpAny _ _ (if (Value.ref t == .none)=true then _ else _) _ _ s;rw [if_neg (show ¬ (Value.ref t == .none)=true from Bool.false_ne_true)]
 refine wpAny_bind (m:=field (.ref j) 1) (wpAny_field jo jd (x:=.int i 0) rfl ?_)
 refine wpAny_bind (m:=seqItems? (.ref t)) (wpAny_seqItems ju je ?_)
 simp only [jx,Int.toNat_natCast]
 refine wpAny_bind (wpAny_setField jo jd (by simp) (wpAny_pure ⟨x,rfl,wpAny_pure (q _ ⟨_,Heap.get?_update_self _ jo (Obj.isFreed_of_fields (Obj.data_mapFields jd _)),(Obj.cls_mapFields ..).trans jc,?_⟩ (Heap.SameBut.update ..))⟩))
 rw [Obj.data_mapFields jd];simp [rawInt]
theorem tn_end {j t:Addr} {i:Nat} {xs:Array Value} {Q:Value->Shared->Prop} (hn:A.handled=none) (ji:s.heap.IsTupleIter j t i) (jt:s.heap.IsTuple t xs) (jx:xs[i]?=none)
 (q:∀h' e,Heap.ExtBut j s.heap h'->(∃o,h'.get? e=some o/\o.cls=.type "StopIteration")->E (.ref e) { s with heap:=h' }):wpAny (model prog w) A (Builtin.SmallTypes.nextOf (.ref j)) Q E s:=by
 obtain ⟨o,jo,jc,jd⟩:=id ji
 obtain ⟨u,ju,_,n,je⟩:=jt
 unfold Builtin.SmallTypes.nextOf;refine wpAny_bind (wpAny_callSpecial?_slot (name:=Str.ofString "__next__") ji.typeIs F.slot_tuple_iterator_next (wpAny_call_entry F.slot_tuple_iterator_next ji.typeIs F.entry_tuple_iterator_next ?_ (F.args_tuple_iterator_next_1 _)))
 refine wpAny_bind (m:=field (.ref j) 0) (wpAny_field jo jd (x:=.ref t) rfl ?_)
 show wpAny _ _ (if (Value.ref t == .none)=true then _ else _) _ _ s;rw [if_neg (show ¬ (Value.ref t == .none)=true from Bool.false_ne_true)]
 refine wpAny_bind (m:=field (.ref j) 1) (wpAny_field jo jd (x:=.int i 0) rfl ?_)
 refine wpAny_bind (m:=seqItems? (.ref t)) (wpAny_seqItems ju je ?_)
 simp only [jx,Int.toNat_natCast]
 refine wpAny_bind (wpAny_rule (wpAny_bind (wpAny_setField jo jd (by simp) (wpAny_bind (m:=newExc (.type "StopIteration") []) ?_))))
 simp only [newExc,newTuple];refine wpAny_bind (wpAny_newObj_type (wpAny_bind (m:=firstArgMember _ _) (wpAny_of_eq (a:=Value.none) (by first | rfl | (simp only [firstArgMember];rfl)) (wpAny_newObj_type ?_ (by size_fits)))) (by size_fits))
 simp only [raiseNew];refine wpAny_bind (wpAny_handled ?_)
 first | rw [show A.in1.handled=none from hn] | rw [hn]
 exact wpAny_bind (wpAny_pure (wpAny_throw (q _ _ (((Heap.SameBut.update ..).extBut.push _).push _) ⟨_,Heap.get?_push_size _ rfl,rfl⟩)))
theorem te_end {e j t:Addr} {i:Nat} {k:Int} {old:Value} {xs:Array Value} {Q:Option Value->Shared->Prop} (hn:A.handled=none) (je:IsEnum s.heap e j k old) (ji:s.heap.IsTupleIter j t i) (jt:s.heap.IsTuple t xs) (jx:xs[i]?=none)
 (q:∀h',Heap.ExtBut j s.heap h'->Q none { s with heap:=h' }):wpAny (model prog w) A (pyNext (.ref e)) Q E s:=by
 have ty:s.TypeIs (.ref e) "enumerate":=⟨_,je,rfl⟩
 unfold pyNext;refine wpAny_bind (wpAny_attempt (wpAny_callSpecial?_slot (name:=Str.ofString "__next__") ty F.slot_enumerate_next (wpAny_call_entry F.slot_enumerate_next ty F.entry_enumerate_next ?_ (F.args_enumerate_next_1 _))))
 refine wpAny_bind (m:=field (.ref e) 2) (wpAny_field je rfl (x:=.ref j) rfl (wpAny_bind (tn_end (by simp [hn]) ji jt jx fun h' x y ⟨o,z,c⟩=>?_)))
 exact wpAny_bind (wpAny_isInstance (T:="StopIteration") (b:=true) ⟨o,z,c⟩ isSubtype_stop (wpAny_pure (q _ y)))
theorem tdraws (hn:A.handled=none) (j t:Addr) (hne:t≠j) (xs:Array Value):Draws prog w A j [j,t] xs.size (fun i v=>xs[i]?=some v) (fun i h=>h.IsTupleIter j t i/\h.IsTuple t xs) where
 live:=fun _ _ z=>let ⟨o,e,_⟩:=z.1;⟨o,e⟩
 frame:=fun _ _ _ z k=>⟨let ⟨o,e,r⟩:=z.1;⟨o,k j (by simp) o e,r⟩,let ⟨o,e,r⟩:=z.2;⟨o,k t (by simp) o e,r⟩⟩
 item:=fun i s Q E hi z q=>tn_item z.1 z.2 (x:=xs[i]) (by simp [hi]) fun h' a b=>q _ h' s.toks (by simp [hi]) ⟨a,z.2.extBut b.extBut hne⟩ b
 done:=fun s Q E z q=>tn_end hn z.1 z.2 (by simp) q
theorem tup_enum (t:Addr) (xs:Array Value) (n:Nat) (dct:Option Addr) (sl:Array (Option Value)) :
 Meets (Builtin.«enumerate.__new__» ⟨[.type "enumerate",.ref t],[]⟩) (fun _ R s=>s.heap.get? t=some { cls:=.type "tuple",dict:=dct,data:=.seq xs n,slots:=sl } /\
  R (.ok (.ret (.ref (s.heap.push { cls:=.type "tuple_iterator",data:=.fields #[.ref t,.int 0 0] }).objs.size)))
    { s with heap:=(s.heap.push { cls:=.type "tuple_iterator",data:=.fields #[.ref t,.int 0 0] }).push { cls:=.type "enumerate",data:=.fields #[.none,.bool false,.ref s.heap.objs.size,rawInt 0,.none,.none] } }) :=
 .of_wp fun prog w A R s y=>by
  obtain ⟨hp,g,d,tk,os⟩:=s
  obtain ⟨jl,y⟩:=y
  have fs:=sub_enumerate
  have fL:Heap.IsTuple (Shared.heap ⟨hp,g,d,tk,os⟩) t xs:=⟨_,jl,rfl,n,rfl⟩
  wp_walk using AutoSeq1.wpAny_loadPart' jl
  refine wpAny_stack_any fun st=>wpAny_pure ?_
  split
  ·rename_i c _ _ _ _ _
   cases (c == Value.type "enumerate") <;> (wp_walk using AutoSeq1.wpAny_loadPart' jl,wpAny_pyIter_tuple fL;exact ⟨_,rfl,y⟩)
  ·wp_walk using AutoSeq1.wpAny_loadPart' jl,wpAny_pyIter_tuple fL;exact ⟨_,rfl,y⟩
theorem call_enumT {t:Addr} {xs:Array Value} {Q:Value->Shared->Prop} (jt:s.heap.IsTuple t xs)
 (q:∀h',IsEnum h' (s.heap.objs.size+1) s.heap.objs.size 0 .none->h'.IsTupleIter s.heap.objs.size t 0->h'.objs.size=s.heap.objs.size+2->(∀b o,s.heap.get? b=some o->h'.get? b=some o)->Q (.ref (s.heap.objs.size+1)) { s with heap:=h' }) :
 wpAny (model prog w) A (call (.type "enumerate") [.ref t]) Q E s:=by
 obtain ⟨⟨c,dct,dt,sl⟩,jl,jc,n,jd⟩:=jt
 cases (show c=.type "tuple" from jc)
 cases (show dt=.seq xs n from jd)
 refine callType_new F.called_enumerate (by decide) (F.typeCall_enumerate_1 _) (F.newCall_enumerate_1 _) (fun o=>F.args_object_init_2 o _) F.entry_enumerate_new (tup_enum t xs n dct sl) ⟨jl,?_⟩
 have z1:(s.heap.push { cls:=.type "tuple_iterator",data:=.fields #[.ref t,.int 0 0] }).objs.size=s.heap.objs.size+1:=Heap.size_push ..
 generalize eh:s.heap.push { cls:=.type "tuple_iterator",data:=.fields #[.ref t,.int 0 0] }=g1 at z1 ⊢
 have e1:IsEnum (g1.push { cls:=.type "enumerate",data:=.fields #[.none,.bool false,.ref s.heap.objs.size,rawInt 0,.none,.none] }) (s.heap.objs.size+1) s.heap.objs.size 0 .none:=by
  rw [<- z1];exact Heap.get?_push_size g1 rfl
 show _/\_;rw [z1]
 refine ⟨⟨_,e1,rfl⟩,q _ e1 ⟨_,Heap.get?_push_of_some _ (by rw [<- eh];exact Heap.get?_push_size _ rfl),rfl,rfl⟩ (by rw [Heap.size_push,z1]) fun b o x=>Heap.get?_push_of_some _ (by rw [<- eh];exact Heap.get?_push_of_some _ x)⟩
end
noncomputable def IteT (K:PySem.W.Frag) (a:Addr):It :=
 ⟨fun i H=>∃xs x,SqT K H a xs/\xs[i]?=some x,fun i H x H'=>∃T y,x=.ref T/\H T=none/\H'=upd H T (.tup [.int (i:Int),y])/\∀xs,SqT K H a xs->xs[i]?=some y,fun i H=>∃xs,SqT K H a xs/\xs.length<=i⟩
theorem turn_enumT {P:Program} {w:World} {K:PySem.W.Frag} {es:List Expr} {k:Nat} {pos:Pos} (a e it:Addr) (hne:e≠it) (hea:e≠a) (hia:a≠it) :
 Turn P w K (.Tuple es k pos) (IteT K a) [e,it] e (fun i h=>(∃old,IsEnum h e it (i:Nat) old)/\h.IsTupleIter it a i) where
 mem:=by simp
 obj:=fun i h st b hb=>by
  obtain ⟨⟨old,he⟩,o,e1,c,d⟩:=st
  rcases List.mem_cons.mp hb with z | z
  ·subst z
   exact ⟨_,he,fun v z=>by cases (show Data.fields _=Data.cell v from z)⟩
  ·have z':b=it:=by simpa using z
   subst z'
   exact ⟨o,e1,fun v z=>by rw [d] at z;cases z⟩
 keep:=fun i h h' st kk=>by
  obtain ⟨⟨old,he⟩,o,q,r⟩:=st
  exact ⟨⟨old,kk e (by simp) _ he⟩,o,kk it (by simp) o q,r⟩
 item:=by
  intro X hP hw hK hc i pins s σ H E I hf st hg
  subst hP hw hK
  obtain ⟨xs,x,hq,hx⟩:=hg
  obtain ⟨its,rv,p,hz⟩:=I.tuple hq
  obtain ⟨u,hu,ru⟩:=rv.get hx
  obtain ⟨⟨old,he⟩,hit⟩:=st
  have pT:s.heap.IsTuple a its.toArray:=p
  have hi:i < its.toArray.size:=by
   have:=(List.getElem?_eq_some_iff.mp hu).1
   simpa using this
  refine wpAny_pyNext_enum_itemD (tdraws (by simp [I.ok.hd hc]) it a hia its.toArray) he ⟨hit,pT⟩ hi hne (by simp [hne,hea]) fun x' h1 tk hPx ho hit1 hT hsz hk=>⟨_,rfl,?_⟩
  have ex:x'=u:=by
   have:its.toArray[i]?=some u:=by simpa using hu
   rw [this] at hPx
   exact (Option.some.inj hPx).symm
  subst ex
  refine wpAny_letOwnedTupleGo_enum ho fun h2 he2 sb=>?_
  have fr:H s.heap.objs.size=none:=I.hok.fresh (Nat.le_refl _)
  have lte:e < s.heap.objs.size:=Heap.lt_size he
  have lti:it < s.heap.objs.size:=by obtain ⟨o,q,_⟩:=id hit;exact Heap.lt_size q
  refine ⟨.ref s.heap.objs.size,upd H s.heap.objs.size (.tup [.int (i:Int),x]),?_,rfl,⟨_,x,rfl,fr,rfl,fun ys hy=>by rw [I.tuple_inj hy hq];exact hx⟩,⟨⟨_,by simpa using he2⟩,?_⟩,fun b hb=>?_⟩
  ·refine I.laidTurned (fp:=[e,it]) (t':=tk+1) (fun b o hb q=>(sb.2 b (fun z=>hb (by simp [z]))).trans (hk b o (fun z=>hb (by simp [z])) (fun z=>hb (by simp [z])) q)) hf (Nat.le_refl _) ?_
   refine ⟨by show 2<=sizeLine;decide,[.int i tk,x'],.cons ⟨_,rfl⟩ (.cons ru .nil),⟨_,(sb.2 _ (Nat.ne_of_gt lte)).trans hT,rfl,_,rfl⟩⟩
  ·obtain ⟨o,q,r⟩:=hit1.1
   exact ⟨o,(sb.2 it (Ne.symm hne)).trans q,r⟩
  ·rw [upd_ne (fun z=>?_)]
   ·exact (hf b hb).1
   ·rcases List.mem_cons.mp hb with q | q
    ·rw [q] at z;exact absurd lte (by rw [z];exact Nat.lt_irrefl _)
    ·have q':b=it:=by simpa using q
     rw [q'] at z;exact absurd lti (by rw [z];exact Nat.lt_irrefl _)
 done:=by
  intro X hP hw hK hc i pins s σ H E I hf st hg
  subst hP hw hK
  obtain ⟨xs,hq,hx⟩:=hg
  obtain ⟨its,rv,p,hz⟩:=I.tuple hq
  obtain ⟨f0,f1,f2,f3,f4,f5⟩:=hf it (by simp)
  obtain ⟨⟨old,he⟩,hit⟩:=st
  have hl:=rv.length
  exact te_end (I.ok.hd hc) he hit (show s.heap.IsTuple a its.toArray from p) (by simp;omega) fun h' eb=>⟨rfl,I.turned (t':=s.toks) (fun b o hb e=>eb b o hb e) f0 f1 f3 f4 f5⟩
 self:=fun _ _ _ _ _ st h=>by
  obtain ⟨⟨old,he⟩,_⟩:=st
  exact wpAny_pyIter_enum he h
section
variable {X:Cx}
noncomputable def iEnumT (K:PySem.W.Frag) (ta:TA):TI:=fun σ H R=>ta σ H fun vs H1=>∃a,vs=[.ref a]/\(∃xs,SqT K H1 a xs)/\R (IteT K a) H1
theorem pi_enumT {l:Expr} {ta:TA} {p pos pt:Pos} {es:List Expr} {k:Nat} (hg:Gl X "enumerate") (hm:X.mg "enumerate"=none) (ha:PA X [l] ta) (hs:starEach [l] X.env=[(false,eval l X.env)]:=by rfl) :
 PI X (.Tuple es k pt) (.Call (.Name "enumerate" p) [l] [] pos) (iEnumT X.K ta):=by
 intro pins s σ H R I h
 refine Call_ (ld_blt I hg hm boot_enumerate (PyProof.Rows.callWith_type1 (thn (ha pos pins s σ H _ I h) fun us s1 ⟨vs,H1,I1,r1,q1⟩=>?_) hs rfl))
 obtain ⟨a,e,⟨xs,hq⟩,q⟩:=q1
 subst e
 cases r1 with
 | cons r rr =>
   cases rr
   cases r
   obtain ⟨its,rv,pl,hz⟩:=I1.tuple hq
   have pT:s1.heap.IsTuple a its.toArray:=pl
   have la:a < s1.heap.objs.size:=by obtain ⟨o,z,_⟩:=id pT;exact Heap.lt_size z
   refine call_enumT pT fun h' he hit hsz hk=>?_
   refine wpAny_pyIter_enum (s:={ s1 with heap:=h' }) he ?_
   refine ⟨s1.heap.objs.size+1,[s1.heap.objs.size+1,s1.heap.objs.size],_,_,H1,rfl,I1.kept (t':=s1.toks) hk,turn_enumT a _ _ (Nat.succ_ne_self _) (Nat.ne_of_gt (Nat.lt_succ_of_lt la)) (Nat.ne_of_lt la),⟨⟨_,he⟩,hit⟩,fun b hb=>?_,q⟩
   have ge:s1.heap.objs.size<=b:=by
    rcases List.mem_cons.mp hb with z | z
    ·rw [z];exact Nat.le_succ _
    ·have z':b=s1.heap.objs.size:=by simpa using z
     rw [z'];exact Nat.le_refl _
   exact I1.fpOk ge (I1.hok.fresh ge)
end
theorem for_enumT {K:PySem.W.Frag} {a:Addr} {xs:List V} {g:TG} {tb:TS} {D:Ends} {σ:St} {H:Hp} (Pv:Nat->St->Hp->Prop) (h0:Pv 0 σ H) (hl:∀i σ H,i<=xs.length->Pv i σ H->SqT K H a xs)
 (hs:∀i x T σ H,xs[i]?=some x->Pv i σ H->H T=none->g (.ref T) σ (upd H T (.tup [.int (i:Int),x])) fun σ2 H2=>tb { D with nx:=Pv (i+1),ct:=Pv (i+1),bk:=D.nx } σ2 H2) (hd:∀σ H,Pv xs.length σ H->D.nx σ H) :
 ∃W:Nat->Nat->St->Hp->Prop,(∃m,W 0 m σ H)/\∀i m σ H,W i m σ H ->
  ((IteT K a).stop i H/\D.nx σ H)\/((IteT K a).go i H/\∃N:St->Hp->Prop,(∀σ' H',N σ' H'->∃m',m' < m/\W (i+1) m' σ' H')/\∀x H',(IteT K a).yld i H x H'->g x σ H' fun σ2 H2=>tb { D with nx:=N,ct:=N,bk:=D.nx } σ2 H2):=by
 refine ⟨fun i m σ H=>m=xs.length - i/\i<=xs.length/\Pv i σ H,⟨xs.length,by simp,Nat.zero_le _,h0⟩,?_⟩
 rintro i m σ H ⟨rfl,hi,p⟩
 have q:=hl i σ H hi p
 by_cases hlt:i < xs.length
 ·refine .inr ⟨⟨xs,xs[i],q,by simp [hlt]⟩,Pv (i+1),fun σ' H' p'=>⟨xs.length - (i+1),by omega,rfl,hlt,p'⟩,fun x H' y=>?_⟩
  obtain ⟨T,y,rfl,hT,rfl,hy⟩:=y
  exact hs i y T σ H (hy xs q) p hT
 ·have e:i=xs.length:=by omega
  subst e
  exact .inl ⟨⟨xs,q,Nat.le_refl _⟩,hd σ H p⟩
end L2
namespace L2
open PySem PySem.Spec PyProof.Rows
structure RoomH (k:Nat) (A:Around):Prop where
 dp:A.depth+3*k+5 < recursionLimit
 un:A.units+16*k+200 < cLine
theorem Room.toH {j k:Nat} {A:Around} (r:Room k A) (h:j<=k):RoomH j A:=⟨by have:=r.dp;omega,by have:=r.un;omega⟩
theorem RoomH.mark {k:Nat} {A:Around} (r:RoomH k A) (v:Option Value):RoomH k (A.mark v):=⟨r.dp,r.un⟩
noncomputable def cxH (P:Program) (w:World) (K:PySem.W.Frag) (mg:Str->Option Value) (base:Heap) (N:List Str) (qual:Str) (scope:Scope) (f:Addr) (cd:Value) (A:Around) (outer:List Env) (s:Shared) (H:Hp) (E:XK):Cx :=
 { cxOf CX0 P w K mg base N qual scope f cd A outer s H E with calm:=false }
section
variable {P:Program} {w:World} {K:PySem.W.Frag} {mg:Str->Option Value} {base:Heap}
theorem invH {N ps:List Str} {qual:Str} {scope:Scope} {f:Addr} {cd:Value} {A:Around} {outer:List Env} {s s1:Shared} {H:Hp} {E:XK} {us:List Value} {vs:List V}
 (S:FnScope N ps scope) (e0:Env0 P w K mg base A outer s H) (hl:vs.length=ps.length) (r:Vals vs us)
 (x:InCallC s s.heap.objs.size (bindL (envOfC qual scope s.heap.objs.size f cd).kindOf (ps.zip us) fun _=>none) (cellsFrom (s.heap.objs.size+1) scope.names []) (bindC (envOfC qual scope s.heap.objs.size f cd).kindOf (ps.zip us) fun _=>none) s1) :
 Inv (cxH P w K mg base N qual scope f cd A outer s H E) [] (start N vs) H s1:=by
 have e1:Env0 P w K mg base { A with handled:=none } outer s H:=⟨e0.frames,e0.mod,e0.bs,e0.bsz,e0.funs,e0.frf,e0.hok,e0.bare⟩
 have I:=inv_start (CX:=CX0) (A:={ A with handled:=none }) (E:=E) S rfl e1 hl r x
 have k:=I.ok
 exact ⟨⟨k.mod,k.kind,k.glob,k.blt,k.above,k.inj,k.has,k.cab,(fun z=>absurd (show false=true from z) Bool.false_ne_true),Around.frames_deeper e0.frames,k.stk,k.exf,k.bs,k.bsz,k.noex,k.exfs,k.funs,k.frf⟩,I.os,I.bare,I.base,I.loc,I.cell,I.free,I.freeC,I.pin,I.hok,I.len⟩
end
section
variable {X:Cx} {k:Nat} {f:Addr} {fd:FuncData} {ps:List Str} {sp:Sp} {x:Str} {p pos:Pos} {e:Expr} {es:List Expr} {t:TA}
end
section
variable {X:Cx}
end
end L2
namespace L2
open PySem PySem.Spec PyProof.Rows
section
variable {prog:Program} {w:World} {A:Around} {E:Value->Shared->Prop} {s:Shared}
end
section
variable {X:Cx} {pins:List (Addr × Obj)} {σ:St} {H:Hp}
end
end L2
namespace L2
open PySem PySem.Spec PyProof.Rows
section
variable {prog:Program} {w:World} {A:Around} {E:Value->Shared->Prop} {s:Shared}
end
section
variable {X:Cx}
end
end L2
namespace L2
open PySem PySem.Spec PyProof.Rows
section
variable {P:Program} {w:World} {K:PySem.W.Frag} {mg:Str->Option Value} {base:Heap}
end
section
variable {X:Cx} {CX:CXT} {W:St->XK} {k:Nat} {f C:Addr} {fd:FuncData} {ps:List Str} {sp:Sp} {dvs:List V} {ds:List Value} {E:XK} {x m:Str} {p pos apos:Pos} {e o:Expr} {es:List Expr} {ta:TE} {t:TA}
theorem pe_fldK (K:PySem.W.Frag) {g:Str} (he:PE X o ta) (hb:attributeBase o g X.env (eval o X.env)=eval o X.env) (hK:X.K=K:=by rfl):PE X (.Attribute o g pos) (tFld K ta g):=by
 subst hK
 exact pe_fld he hb
end
end L2
namespace L2
open PySem PySem.Spec PyProof.Rows
section
variable {X:Cx} {elt iter:Expr} {x:Str} {px pos:Pos} {ifs:List Expr} {sc fsc:Scope} {N Nc:List Str} {wi:TI} {tt:TT} {te:TE}
end
section
variable {X:Cx} {elt iter:Expr} {x y:Str} {py pos:Pos} {ifs:List Expr} {sc sc2 fsc:Scope} {Nc Nd:List Str} {wi:TI} {tt:TT} {te:TE} {cl:List (Str × Addr)} {s:Shared} {H:Hp} {ex:List Addr}
end
end L2
namespace L2
open PySem PySem.W PySem.Spec PyProof.Rows
section
variable {X:Cx} {pins:List (Addr × Obj)} {σ:St} {H:Hp} {s:Shared} {c P:Addr} {pos:Pos} {params:Arguments} {body:Expr} {sc:Scope} {cl:List (Str × Addr)} {q:Str} {M:Model} {A:Around} {E:Value->Shared->Prop} {Q:Value->Shared->Prop}
end
section
variable {X:Cx} {pins:List (Addr × Obj)} {σ:St} {H:Hp} {s:Shared} {params:Arguments} {body:Expr} {sc fsc:Scope} {cl:List (Str × Addr)} {q x:Str} {A:Around} {N Nc:List Str} {f c':Addr} {te:TE} {E:Value->Shared->Prop}
end
section
variable {X:Cx} {pins:List (Addr × Obj)} {σ:St} {H:Hp}
variable {xs:List V} {l f I S:Addr}
end
section
variable {M:Model} {A:Around} {E:Value->Shared->Prop} {s:Shared} {env:Env}
end
section
variable {X:Cx} {c P:Addr} {e body:Expr} {tl tb:TE} {sc fsc:Scope} {N Nc:List Str} {x:Str} {params:Arguments} {lpos kp p pos:Pos}
end
end L2
namespace L2
open PySem PySem.W PySem.Spec PyProof.Rows
section
variable {prog:Program} {w:World} {A:Around} {E:Value->Shared->Prop} {s:Shared}
end
section
variable {prog:Program} {w:World} {A:Around} {E:Value->Shared->Prop} {s:Shared}
end
section
variable {X:Cx} {e e2:Expr} {te te2:TE} {p p2 p3 pos pos2 pos3 pos4:Pos}
end
end L2
namespace L2
open PySem PySem.Spec PyProof.Rows
noncomputable def tMakeW (C:Addr) (sp:Sp) (dvs:List V) (W:St->XK) (t:TA):TE:=fun σ H Q=>t σ H fun vs H1=>∀x dx,H1 x=none->H1 dx=none->dx≠x ->
 sp (.ref x :: (vs++dvs)) (upd (upd H1 dx (.own x)) x (.ins C dx [])) (fun v H2=>v=.non/\Q (.ref x) H2) (W σ)
noncomputable def tMethW (C:Addr) (m:Str) (sp:Sp) (dvs:List V) (W:St->XK) (ta:TE) (t:TA):TE:=fun σ H Q=>ta σ H fun x H1=>∃a dx fs,x=.ref a/\H1 a=some (.ins C dx fs)/\fs.lookup m=none /\
 t σ H1 fun vs H2=>sp (x :: (vs++dvs)) H2 Q (W σ)
section
variable {X:Cx} {W:St->XK} {k:Nat} {f C:Addr} {fd:FuncData} {ps:List Str} {sp:Sp} {dvs:List V} {ds:List Value} {x m:Str} {p pos apos:Pos} {e o:Expr} {es:List Expr} {ta:TE} {t:TA}
theorem run_makeW {pins:List (Addr × Obj)} {σ:St} {H:Hp} {s:Shared} {Q:VK} {us:List Value} {vs:List V} (B:Body X) (M:Mk X.K C f) (F:FnOk X.prog X.w X.K X.mg X.base (CX1 X.prog X.w) k f fd ps sp) (hr:Room (k+1) X.A) (hb:Binds X.K fd ps ds) (hd:Vals dvs ds)
 (I:Inv (X.wants W) pins σ H s) (r:Vals vs us)
 (h:∀x dx,H x=none->H dx=none->dx≠x->sp (.ref x :: (vs++dvs)) (upd (upd H dx (.own x)) x (.ins C dx [])) (fun v H2=>v=.non/\Q (.ref x) H2) (W σ)) :
 wpAny (model X.prog X.w) X.A (call (.ref C) us) (EP (X.wants W) pins σ Q) (Wish X W) s:=by
 have hq:=h (s.heap.objs.size+1) s.heap.objs.size (I.hok.fresh (Nat.le_succ _)) (I.hok.fresh (Nat.le_refl _)) (Nat.ne_of_lt (Nat.lt_succ_self _))
 have I2:=Inv.made (C:=C) I
 have r2:Vals (V.ref (s.heap.objs.size+1) :: (vs++dvs)) (Value.ref (s.heap.objs.size+1) :: (us++ds)):=.cons rfl (r.append hd)
 have hl:(Value.ref (s.heap.objs.size+1) :: us++ds).length=ps.length:=by
  have e:=r2.length
  rw [F.len _ _ _ _ hq] at e
  exact e.symm
 refine wpAny_call (make_map (f:=f) I.kIn M.makes M.init (beq_iff_eq.mp M.fn) (codeAny_mono (F.run _ X.stack _ _ ⟨Value.ref (s.heap.objs.size+1) :: us,[]⟩ (Value.ref (s.heap.objs.size+1) :: (us++ds)) _ _ (W σ) (hr.make C us [])
  (I2.unwish.env0.make C us []) (hb _ (Value.ref (s.heap.objs.size+1) :: us) I2.kIn hl) r2 hq) fun r s' hq'=>?_))
 cases r with
 | error ev =>
   obtain ⟨e,cls,od,H',rfl,I',F',q⟩:=I2.unwish.flew B hq'
   exact ⟨σ,H',e,cls,od,rfl,I'.nopins,F'.less,q⟩
 | ok fl =>
   cases fl with
   | ret u =>
     obtain ⟨v,H',I3,rv,ev,q3⟩:=I2.after hq'
     subst ev
     exact ⟨rv,⟨V.ref (s.heap.objs.size+1),H',I3,rfl,q3⟩⟩
   | next=>exact False.elim hq'
   | brk=>exact False.elim hq'
   | cont=>exact False.elim hq'
theorem pe_makeW (B:Body X) (M:Mk X.K C f) (F:FnOk X.prog X.w X.K X.mg X.base (CX1 X.prog X.w) k f fd ps sp) (hr:Room (k+1) X.A) (hg:Gl X x) (hm:X.mg x=some (.ref C)) (hb:Binds X.K fd ps ds) (hd:Vals dvs ds)
 (ha:PA (X.wants W) (e :: es) t) (hdb:(x == ("__debug__":Str))=false:=by decide) (he:starEach (e :: es) X.env=(false,eval e X.env) :: starEach es X.env:=by rfl) (hpl:(backTo pos (starEach es X.env)).any (·.1)=false:=by rfl) :
 PE (X.wants W) (.Call (.Name x p) (e :: es) [] pos) (tMakeW C sp dvs W t):=by
 intro pins s σ H Q I h
 refine wpAny_Call_Name_kw (ld_glob I hg hm ?_ hdb)
 refine PySem.W.callWith_K (h₀:=X.base) I.ok.mod.kin M.kp (thn (ha pos pins s σ H _ I h) fun us s1 ⟨vs,H1,I1,r,q⟩=>⟨I1.kIn,?_⟩) he hpl
 exact run_makeW B M F hr hb hd I1 r q
theorem pe_methW {pl:Sem Bool} (B:Body X) (he:PE (X.wants W) o ta) (c:Cls X.K C) (hm:Meth X.K C m f) (F:FnOk X.prog X.w X.K X.mg X.base (CX1 X.prog X.w) k f fd ps sp) (hr:Room k X.A) (hb:Binds X.K fd ps ds) (hd:Vals dvs ds) (ha:PA (X.wants W) (e :: es) t)
 (hst:starEach (e :: es) X.env=(false,eval e X.env) :: starEach es X.env:=by rfl) (hpl:(backTo pos (starEach es X.env)).any (·.1)=false:=by rfl)
 (ht:eval (.Call (.Attribute o m apos) (e :: es) [] pos) X.env=(do
  let ov <- eval o X.env
  standAt apos.atName
  let (f,first) <- holding [ov] (getMethod ov m pl)
  callWith pos f first (backTo pos (starEach (e :: es) X.env)) (backToKw pos (keywordEach [] X.env))):=by rfl) :
 PE (X.wants W) (.Call (.Attribute o m apos) (e :: es) [] pos) (tMethW C m sp dvs W ta t):=by
 intro pins s σ H Q I h
 refine PySem.W.methodCall_KW (pl:=pl) (thn (he pins s σ H _ I h) fun u s1 ⟨x,H1,I1,rx,a,dx,fs,ex,ea,l,q⟩=>?_) ht
 subst ex
 obtain rfl:u=Value.ref a:=rx
 refine getmeth_ok I1 ea c hm l ?_
 refine PySem.W.callWith_K (first:=[.ref a]) (h₀:=X.base) I.ok.mod.kin hm.kp (thn (ha pos pins s1 σ H1 _ I1 q) fun us s2 ⟨vs,H2,I2,r,q2⟩=>⟨I2.kIn,?_⟩) hst hpl
 exact run_fnW (us:=.ref a :: us) (vs:=.ref a :: vs) B F hr hb hd I2 (.cons rfl r) q2
end
end L2
namespace L2
open PySem PySem.W PySem.Spec PyProof.Rows
section
variable {prog:Program} {w:World} {A:Around} {E:Value->Shared->Prop} {s:Shared} {Q:Bool->Shared->Prop}
end
section
variable {X:Cx}
end
end L2
namespace L2
open PySem PySem.Spec PyProof.Rows
section
variable {prog:Program} {w:World} {A:Around} {E:Value->Shared->Prop} {s:Shared} {d:Addr} {es:Array DictEntry} {ep:Nat}
end
section
variable {X:Cx}
end
section
variable {prog:Program} {w:World} {A:Around} {E:Value->Shared->Prop} {s:Shared}
end
section
variable {X:Cx}
end
end L2
namespace PySem
open Sem (wp)
section
variable {prog:Program} {w:World} {K:Type} [DecidableEq K] (knd:KeyKind prog w K)
variable {knd}
variable {A:Around} {E:Value->Shared->Prop} {s:Shared}
end
end PySem
namespace L2
open PySem PySem.Spec PyProof.Rows
section
variable {P:Program} {w:World} {H:Hp} {h:Heap} {a:Addr}
end
section
variable {X:Cx} {o i e value:Expr} {pos pos' tpos:Pos} {td ty tv:TE}
end
end L2
namespace L2
open PySem PySem.Spec PyProof.Rows
section
variable {prog:Program} {w:World} {A:Around} {E:Value->Shared->Prop} {s:Shared}
end
section
variable {prog:Program} {w:World} {A:Around} {E:Value->Shared->Prop} {s:Shared}
end
section
variable {X:Cx} {pins:List (Addr × Obj)} {σ:St} {H:Hp}
end
section
variable {X:Cx} {e:Expr} {te:TE} {p p2 pos pos2:Pos}
end
end L2
namespace L2
open PySem PySem.Spec PyProof.Rows
section
variable {X:Cx} {pins:List (Addr × Obj)} {σ:St} {H:Hp}
end
end L2
namespace L2
open PySem PySem.Spec PyProof.Rows
end L2
namespace L2
open PySem PySem.W PySem.Spec PyProof.Rows
section
variable {O:KeyOrd} {ky:Nat->O.α} {n:Nat} {cmp:Nat->Nat->(Bool->Shared->Prop)->Shared->Prop} {J:Shared->Prop}
end
end L2
namespace L2
open PySem PySem.Spec PyProof.Rows
noncomputable def WishC (Y:Cx) (E:XK) (ev:Value) (s':Shared):Prop:=∃pins σ H s,Inv Y pins σ H s/\CX1 Y.prog Y.w Y.stack H s E ev s'
abbrev Cx.wantsC (Y:Cx) (E:XK):Cx:=Y.wish (WishC Y E)
section
variable {X:Cx} {E:XK} {k:Nat} {f:Addr} {fd:FuncData} {ps:List Str} {sp:Sp} {dvs:List V} {ds:List Value} {x:Str} {p pos:Pos} {e:Expr} {es:List Expr} {t:TA}
theorem pe_callWC (F:FnOk X.prog X.w X.K X.mg X.base (CX1 X.prog X.w) k f fd ps sp) (hr:Room k X.A) (hg:Gl X x) (hm:X.mg x=some (.ref f)) (hk:PySem.W.keepIn X.K (.ref f)=true) (hb:Binds X.K fd ps ds) (hd:Vals dvs ds)
 (ha:PA (X.wantsC E) (e :: es) t) (hdb:(x == ("__debug__":Str))=false:=by decide) (he:starEach (e :: es) X.env=(false,eval e X.env) :: starEach es X.env:=by rfl) (hpl:(backTo pos (starEach es X.env)).any (·.1)=false:=by rfl) :
 PE (X.wantsC E) (.Call (.Name x p) (e :: es) [] pos) (tCallW sp dvs (fun _=>E) t):=by
 intro pins s σ H Q I h
 refine wpAny_Call_Name_kw (ld_glob I hg hm ?_ hdb)
 refine PySem.W.callWith_K (h₀:=X.base) I.ok.mod.kin hk (thn (ha pos pins s σ H _ I h) fun us s1 ⟨vs,H1,I1,r,q⟩=>⟨I1.kIn,?_⟩) he hpl
 have r2:Vals (vs++dvs) (us++ds):=r.append hd
 have hl:(us++ds).length=ps.length:=by rw [<- r2.length];exact F.len _ _ _ _ q
 refine wpAny_call (codeAny_mono (F.run X.A X.stack s1 H1 ⟨us,[]⟩ (us++ds) (vs++dvs) Q E hr I1.unwish.env0 (hb s1 us I1.kIn hl) r2 q) fun r s' hq=>?_)
 cases r with
 | error ev=>exact ⟨pins,σ,H1,s1,I1.unwish,hq⟩
 | ok fl =>
   cases fl with
   | ret u=>exact I1.after hq
   | next=>exact False.elim hq
   | brk=>exact False.elim hq
   | cont=>exact False.elim hq
end
structure TurnA (c:Bool) (A:Around) (P:Program) (w:World) (K:PySem.W.Frag) (tg:Expr) (J:It) (fp:List Addr) (it:Addr) (tn:Nat->Heap->Prop):Prop where
 obj:∀i h,tn i h->∀b∈fp,∃o,h.get? b=some o/\∀v,o.data≠.cell v
 keep:∀i h h',tn i h->(∀b∈fp,∀o,h.get? b=some o->h'.get? b=some o)->tn i h'
 item:∀(X:Cx),X.prog=P->X.w=w->X.K=K->X.A=A->X.calm=c->∀(i:Nat) (pins:List (Addr × Obj)) (s:Shared) (σ:St) (H:Hp) (E:Value->Shared->Prop),Inv X pins σ H s->(∀b∈fp,FpOk X pins H b)->tn i s.heap->J.go i H ->
  wpAny (model P w) X.A (pyNext (.ref it)) (fun r s1=>∃u,r=some u /\
   wpAny (model P w) X.A (letOwnedTupleGo tg (.ref it) u) (fun _ s2=>∃x H',Inv X pins σ H' s2/\RelV x u/\J.yld i H x H'/\tn (i+1) s2.heap/\∀b∈fp,H' b=none) E s1) E s
 done:∀(X:Cx),X.prog=P->X.w=w->X.K=K->X.A=A->X.calm=c->∀(i:Nat) (pins:List (Addr × Obj)) (s:Shared) (σ:St) (H:Hp) (E:Value->Shared->Prop),Inv X pins σ H s->(∀b∈fp,FpOk X pins H b)->tn i s.heap->J.stop i H ->
  wpAny (model P w) X.A (pyNext (.ref it)) (fun r s1=>r=none/\Inv X pins σ H s1) E s
 self:∀(A:Around) (i:Nat) (s:Shared) (Q:Value->Shared->Prop) (E:Value->Shared->Prop),tn i s.heap->Q (.ref it) s->wpAny (model P w) A (pyIter (.ref it)) Q E s
theorem Turn.toA {A:Around} {P:Program} {w:World} {K:PySem.W.Frag} {tg:Expr} {J:It} {fp:List Addr} {it:Addr} {tn:Nat->Heap->Prop} (T:Turn P w K tg J fp it tn):TurnA true A P w K tg J fp it tn :=
 ⟨T.obj,T.keep,fun X a b c _ d=>T.item X a b c d,fun X a b c _ d=>T.done X a b c d,T.self⟩
noncomputable def CompR (X:Cx) (pins:List (Addr × Obj)) (σ:St) (Q:VK) (E:XK) (acc:Value) (C:Addr) (r:Result) (s':Shared):Prop :=
 (r=.ok .next/\∃D H',acc=.ref D/\Inv X pins σ H' s'/\Q (.ref D) H'/\CLoc X pins H' C/\∃m,s'.heap.Ns C m) \/
 ∃e cls od fl H' t,r=.error (.ref e)/\Inv X pins σ H' s'/\Rec s'.heap e cls od (some t) fl/\(∀b∈[e,t],Mine X pins H' b/\b≠C)/\E cls od H'/\CLoc X pins H' C/\∃m,s'.heap.Ns C m
section
variable {X:Cx} {elt iter:Expr} {x:Str} {px pos:Pos} {ifs:List Expr} {sc fsc:Scope} {N Nc:List Str} {wi:TI} {tt:TT} {te:TE}
theorem comp_coreW {E':XK} {c:Bool} (B:Body X) (hE:X.env.scope=fsc) (hXN:X.N=N) (cn:CompN N Nc x sc fsc) (hc:X.calm=c)
 (ht:∀cl s H ex,PIfs (X.inComp Nc sc cl s H ex) ifs tt) (he:∀cl s H ex,PE ((X.inComp Nc sc cl s H ex).wantsC E') elt te)
 {cl:List (Str × Addr)} (clS:∀y c,cl.lookup y=some c->X.env.cells.lookup y=some c) (clH:∀y∈sc.names,y.2=.free->∃c,cl.lookup y.1=some c)
 {pins:List (Addr × Obj)} {σ:St} {H2:Hp} {s2:Shared} {it:Addr} {fp:List Addr} {tn:Nat->Heap->Prop} {J:It} {Q:VK} {E:Value->Shared->Prop}
 (I2:Inv X pins σ H2 s2) (T:TurnA c X.A X.prog X.w X.K (.Name x px) J fp it tn) (st2:tn 0 s2.heap) (f2:∀b∈fp,FpOk X pins H2 b)
 (h2:∀D,H2 D=none->∃W:Nat->Nat->List V->Hp->Prop,(∃m,W 0 m [] (upd H2 D (.lst [])))/\∀i m ys H2,W i m ys H2 ->
  H2 D=some (.lst ys)/\((J.stop i H2/\Q (.ref D) H2)\/(J.go i H2/\ys.length < sizeLine/\∀x H3,J.yld i H2 x H3->tt (σ++[some x]) H3 fun b H4=>if b=true then te (σ++[some x]) H4 fun y H5=>H5 D=some (.lst ys)/\∃m',m' < m/\W (i+1) m' (ys++[y]) (upd H5 D (.lst (ys++[y])))
   else ∃m',m' < m/\W (i+1) m' ys H4))) :
 wpAny (model X.prog X.w) X.A (newList []) (fun acc s₃=>wpAny (model X.prog X.w) X.A (newFunctionEnv sc X.env.globals cl [] X.env.qual none .none (some X.env)) (fun cenv s₄ =>
  codeAny (model X.prog X.w) X.A (.compStart (.ListComp elt [⟨.Name x px,iter,ifs,0⟩] sc pos) 0 (.ref it) acc { cenv with scope:=relabel sc X.env })
   (CompR X pins σ Q E' acc cenv.locals) s₄) E s₃) E s2:=by
 refine wpAny_newObj_type (wpAny_newFunctionEnv cn.cell (by intro y hy;simp at hy) (fun h₁ hns₁ hsb₁=>?_) cn.kind)
 dsimp only at hns₁ hsb₁ ⊢
 have hD:H2 s2.heap.objs.size=none:=I2.hok.fresh (Nat.le_refl _)
 obtain ⟨W,⟨m0,w0⟩,turn⟩:=h2 s2.heap.objs.size hD
 have I3:Inv X pins σ (upd H2 s2.heap.objs.size (.lst [])) { s2 with heap:=s2.heap.push { cls:=.type "list",dict:=none,data:=.seq ([]:List Value).toArray } } :=
  I2.laid (t':=s2.toks) (fun b u e=>Heap.get?_push_of_some _ e) (Nat.le_refl _) ⟨Nat.zero_le _,[],0,.nil,Heap.get?_push_size _ rfl⟩
 generalize hs3:({ s2 with heap:=s2.heap.push { cls:=.type "list",dict:=none,data:=.seq ([]:List Value).toArray } }:Shared)=s3 at I3
 have eh:s3.heap=s2.heap.push { cls:=.type "list",dict:=none,data:=.seq ([]:List Value).toArray }:=by rw [<- hs3]
 have e2:({ s2 with heap:=h₁,toks:=s2.toks+([]:List (Str × Value)).length }:Shared)={ s3 with heap:=h₁,toks:=s3.toks }:=by rw [<- hs3];rfl
 generalize hH3:upd H2 s2.heap.objs.size (.lst [])=H3 at I3 w0
 rw [<- eh] at hns₁ hsb₁ ⊢
 rw [e2]
 have below2:∀b,b∈fp->b < s3.heap.objs.size:=fun b hb=>by
  obtain ⟨o,e,_⟩:=T.obj _ _ st2 b hb
  have:s2.heap.objs.size<=s3.heap.objs.size:=by rw [eh,Heap.size_push];exact Nat.le_succ _
  exact Nat.lt_of_lt_of_le (Heap.lt_size e) this
 have old:∀b o,s3.heap.get? b=some o->h₁.get? b=some o:=fun b o e=>(hsb₁.2 b (Nat.ne_of_lt (Heap.lt_size e))).trans (Heap.get?_push_of_some _ e)
 have old2:∀b o,s2.heap.get? b=some o->s3.heap.get? b=some o:=fun b o e=>by rw [eh];exact Heap.get?_push_of_some _ e
 have hsz3:s2.heap.objs.size < s3.heap.objs.size:=by rw [eh,Heap.size_push];exact Nat.lt_succ_self _
 have fpFree:∀b∈fp,H3 b=none:=fun b hb=>by
  rw [<- hH3,upd_ne (fun z=>?_)]
  ·exact (f2 b hb).1
  ·obtain ⟨o,e,_⟩:=T.obj _ _ st2 b hb
   have:=Heap.lt_size e
   rw [z] at this
   exact Nat.lt_irrefl _ this
 have rl:∀y,(relabel sc X.env).names.lookup y=(sc.names.lookup y).map fun k=>if (k == NameKind.free && X.env.scope.kind == .function && X.env.kindOf y == some .cell) then NameKind.cell else k:=fun y=>lookup_relabel X.env sc.names y
 have freeOf:∀y,sc.names.lookup y=some .free->∃c,cl.lookup y=some c:=fun y e=>clH (y,.free) (PySem.mem_of_lookup e) rfl
 have noCell:∀y,sc.names.lookup y≠some .cell:=fun y e=>cn.cell (y,.cell) (PySem.mem_of_lookup e) rfl
 have isFree:∀y,((relabel sc X.env).names.lookup y=some .cell\/(relabel sc X.env).names.lookup y=some .free)->sc.names.lookup y=some .free:=fun y h=>by
  rw [rl y] at h
  cases e:sc.names.lookup y with
  | none=>rw [e] at h;rcases h with z | z <;> exact absurd z (by simp)
  | some k =>
    rw [e] at h
    cases k with
    | free=>rfl
    | cell=>exact absurd e (noCell y)
    | «local»=>rcases h with z | z <;> exact absurd z (by simp)
    | _=>rcases h with z | z <;> exact absurd z (by simp)
 have ownLoc:(relabel sc X.env).names.lookup x=some .local:=by rw [rl x,cn.own];rfl
 have exOk:∀b∈fp,b≠s3.heap.objs.size/\(∀y c,X.env.cells.lookup y=some c->c≠b)/\b ∉ frs X.stack:=fun b hb=>by
  obtain ⟨g0,g1,g2,g3,g4,g5⟩:=f2 b hb
  refine ⟨Nat.ne_of_lt (below2 b hb),g4,fun z=>?_⟩
  rcases List.mem_cons.mp (I2.stkSub b z) with z | z
  ·exact g1 z
  ·exact g2 z
 have hCnew:X.s₀.heap.objs.size<=s3.heap.objs.size:=I3.sz
 have hCcell:∀y c,X.env.cells.lookup y=some c->c≠s3.heap.objs.size:=fun y c e z=>by
  obtain ⟨v,q⟩:=I3.cell y c e
  have:=q.lt
  rw [z] at this
  exact Nat.lt_irrefl _ this
 have hCpin:∀p∈X.pn++pins,p.1≠s3.heap.objs.size:=fun p hp z=>by
  have:=Heap.lt_size (I3.pin p hp).1
  rw [z] at this
  exact Nat.lt_irrefl _ this
 have okc:(X.inComp Nc sc cl s3 H3 fp).Ok:=by
  refine ⟨I3.ok.mod,cn.kind,I3.ok.glob,I3.ok.blt,Nat.le_refl _,fun y z c h1 h2=>I3.ok.inj y z c (clS y c h1) (clS z c h2),fun y hy=>freeOf y (isFree y hy),fun y c hf=>absurd (show false=true from hf) Bool.false_ne_true,I3.ok.hd,I3.ok.frames,.inl rfl,
   fun b hb=>⟨(exOk b hb).1,fun y c e=>(exOk b hb).2.1 y c (clS y c e)⟩,fun b o e=>I3.bs b o e,Nat.le_trans I3.ok.bsz I3.sz,fun b o e hb=>?_,fun b hb=>(exOk b hb).2.2,I3.stack,I3.stkFree⟩
  obtain ⟨g0,g1,g2,g3,g4,g5⟩:=f2 b hb
  rcases g3 with z | z
  ·exact I3.ok.noex b o e z
  ·exact absurd (Heap.lt_size (I3.ok.bs b o e).1) (Nat.not_lt.mpr z)
 have hlen:σ.length=N.length:=by rw [I3.len,hXN]
 have Ic:Inv (X.inComp Nc sc cl s3 H3 fp) [] (σ++[none]) H3 { s3 with heap:=h₁,toks:=s3.toks }:=by
  refine ⟨okc,rfl,I3.bare,Un.kept old,⟨_,hns₁,fun i y v h1 h2 h3=>?_⟩,fun y c e=>?_,I3.hok.fresh (Nat.le_refl _),fun y c e=>I3.freeC y c (clS y c e),fun p hp=>absurd (show p∈([]:List (Addr × Obj)) from hp) (by simp),I3.hok.kept old,?_⟩
  ·have hi:i < σ.length:=by
    by_cases hi:i < σ.length
    ·exact hi
    ·rw [List.getElem?_append_right (Nat.not_lt.mp hi)] at h2
     cases e:i - σ.length with
     | zero=>rw [e] at h2;cases h2
     | succ k=>rw [e] at h2;simp at h2
   rw [List.getElem?_append_left hi] at h2
   have hi':i < N.length:=by rw [<- hlen];exact hi
   obtain ⟨n1,n2,n3⟩:=cn.at hi' h1
   have hf:sc.names.lookup y=some .free:=by
    rcases h3 with z | z
    ·exfalso
     have z':(relabel sc X.env).names.lookup y=some .local:=z
     rw [rl y] at z'
     cases e:sc.names.lookup y with
     | none=>rw [e] at z';simp at z'
     | some k =>
       rw [e] at z'
       cases k with
       | «local»=>exact n1 e
       | cell=>exact n2 e
       | free =>
         simp only [Option.map_some,Option.some.injEq] at z'
         split at z' <;> cases z'
       | _=>simp at z'
    ·exact isFree y z
   have hN:X.N[i]?=some y:=by rw [hXN];exact n3 hf
   obtain ⟨m,hn,hl⟩:=I3.loc
   have hv:fsc.names.lookup y=some .cell\/fsc.names.lookup y=some .free:=cn.fr (y,.free) (PySem.mem_of_lookup hf) rfl
   have hv':X.env.scope.names.lookup y=some .cell\/X.env.scope.names.lookup y=some .free:=by rw [hE];exact hv
   obtain ⟨u,ru,lk⟩:=hl i y v hN h2 (.inr hv')
   refine ⟨u,ru,.inr ⟨?_,?_⟩⟩
   ·show (relabel sc X.env).names.lookup y=some .cell\/(relabel sc X.env).names.lookup y=some .free
    rw [rl y,hf]
    simp only [Option.map_some,Option.some.injEq]
    split
    ·exact .inl rfl
    ·exact .inr rfl
   ·rcases lk with ⟨kl,_⟩ | ⟨_,c,hc,hcell⟩
    ·exfalso
     have kl':X.env.scope.names.lookup y=some .local:=kl
     rw [kl'] at hv'
     rcases hv' with z | z <;> cases z
    ·obtain ⟨d,hd⟩:=freeOf y hf
     have ed:=clS y d hd
     rw [hc] at ed
     cases ed
     exact ⟨c,hd,hcell.keeps old⟩
  ·obtain ⟨v,q⟩:=I3.cell y c (clS y c e)
   exact ⟨v,q.keeps old⟩
  ·show (σ++[none]).length=Nc.length
   rw [List.length_append,hlen,cn.len]
   rfl
 have stc:tn 0 ({ s3 with heap:=h₁,toks:=s3.toks }:Shared).heap:=T.keep _ _ _ st2 fun b _ o e=>old b o (old2 b o e)
 have hDf:s2.heap.objs.size ∉ fp:=fun hm=>by
  obtain ⟨o,e,_⟩:=T.obj _ _ st2 _ hm
  exact Nat.lt_irrefl _ (Heap.lt_size e)
 have fpc:∀{pins':List (Addr × Obj)} {H':Hp},pins'=[]->(∀b∈fp,H' b=none)->∀b∈fp,FpOk (X.inComp Nc sc cl s3 H3 fp) pins' H' b:=fun {pins' H'} hp hn b hb=>by
  subst hp
  exact ⟨hn b hb,(exOk b hb).1,(exOk b hb).2.2,.inl hb,fun y c e=>(exOk b hb).2.1 y c (clS y c e),fun p hp=>absurd (show p∈([]:List (Addr × Obj)) from hp) (by simp)⟩
 have hg:PG (X.inComp Nc sc cl s3 H3 fp) (.Name x px) (gName σ.length):=pg_name (X:=X.inComp Nc sc cl s3 H3 fp) cn.nd (by show Nc[σ.length]?=some x;rw [hlen];exact cn.last) (.inl ownLoc) (.inr ownLoc)
 have hCne:s3.heap.objs.size≠X.env.locals:=fun z=>Nat.lt_irrefl _ (by have:=I3.lt;rw [<- z] at this;exact this)
 have fail:∀{ev:Value} {s5:Shared},WishC (X.inComp Nc sc cl s3 H3 fp) E' ev s5->notedBy (model X.prog X.w) X.A (compEnvC sc cl s3.heap.objs.size X.env) (fun e s'=>CompR X pins σ Q E' (.ref s2.heap.objs.size) s3.heap.objs.size (.error e) s') ev s5:=by
  rintro ev s5 ⟨pins1,σ1,Hc,s1,I1,e,cls,od,H',t,rfl,os,bare,un,hok,R,hm,q⟩
  have Iy:Inv (X.inComp Nc sc cl s3 H3 fp) pins1 σ1 H' s5:=I1.call' (ch:=[]) os un hok bare fun _ z=>absurd z (by simp)
  have Ix:Inv X pins σ H' s5:=I3.call' (ch:=fp) Iy.os Iy.base Iy.hok Iy.bare fun b hb=>by
   obtain ⟨g0,g1,g2,g3,g4,g5⟩:=f2 b hb
   exact ⟨g3,g1,g4,g5⟩
  have hCf:H' s3.heap.objs.size=none:=Iy.free
  obtain ⟨m,⟨oC,es,ep,hoC,hdC,hn⟩,_⟩:=Iy.loc
  have hoC':s5.heap.get? s3.heap.objs.size=some oC:=hoC
  have nsC:s5.heap.Ns s3.heap.objs.size m:=⟨oC,es,ep,hoC,hdC,hn⟩
  have mine:∀b∈[e,t],Mine X pins H' b/\b≠s3.heap.objs.size:=fun b hb=>by
   obtain ⟨m1,m2⟩:=hm b hb
   have gone:∀o,s3.heap.get? b=some o->b∈fp:=fun o z=>by
    by_cases hf:b∈fp
    ·exact hf
    ·obtain ⟨o',z'⟩:=I1.base.there b o z hf
     rw [m2] at z'
     cases z'
   refine ⟨⟨m1,?_,fun z=>?_,fun x c y z=>?_,fun p hp z=>?_⟩,fun z=>?_⟩
   ·cases z:X.s₀.heap.get? b with
    | none=>rfl
    | some o =>
      obtain ⟨o',z'⟩:=I3.base.there b o z (by rw [B.ex];simp)
      rcases (f2 b (gone o' z')).2.2.2.1 with y | y
      ·rw [B.ex] at y
       exact absurd y (by simp)
      ·exact absurd (Heap.lt_size z) (Nat.not_lt.mpr y)
   ·obtain ⟨m,⟨o,_,_,y,_⟩,_⟩:=I3.loc
    exact (f2 b (gone o (by rw [z];exact y))).2.1 z
   ·obtain ⟨v,o,ho,_⟩:=I3.cell x c y
    exact (f2 b (gone o (by rw [<- z];exact ho))).2.2.2.2.1 x c y z
   ·exact (f2 b (gone _ (by rw [<- z];exact (I3.pin p hp).1))).2.2.2.2.2 p hp z
   ·obtain ⟨m,⟨o,_,_,y,_⟩,_⟩:=I1.loc
    have y':s1.heap.get? s3.heap.objs.size=some o:=y
    rw [<- z,m2] at y'
    cases y'
  have fpC:∀b∈[s3.heap.objs.size],FpOk X pins H' b:=fun b hb=>by
   rw [List.mem_singleton.mp hb]
   refine ⟨hCf,hCne,fun z=>?_,.inr hCnew,hCcell,hCpin⟩
   obtain ⟨_,o,ho,_⟩:=I3.ok.funs.mem z
   exact absurd (Heap.lt_size ho) (Nat.not_lt.mpr hCnew)
  have Ip:=Ix.pinned fpC fun b hb=>by
   rw [List.mem_singleton.mp hb]
   exact ⟨oC,hoC',fun v z=>by rw [hdC] at z;cases z⟩
  have pC:(s3.heap.objs.size,oC)∈X.pn++(pins++pinsAt [s3.heap.objs.size] s5.heap):=List.mem_append_right _ (List.mem_append_right _ (mem_pinsAt (List.mem_singleton.mpr rfl) hoC'))
  have F:Fly X (pins++pinsAt [s3.heap.objs.size] s5.heap) H' e cls od s5:=⟨some t,.none,R,fun b hb=>by
   obtain ⟨k,n⟩:=mine b hb
   refine ⟨k.un,k.new,k.loc,k.cel,fun p hp=>?_⟩
   rw [<- List.append_assoc] at hp
   rcases List.mem_append.mp hp with z | z
   ·exact k.pin p z
   ·obtain ⟨c,hc,z⟩:=List.mem_filterMap.mp z
    rw [List.mem_singleton.mp hc,hoC'] at z
    cases z
    exact Ne.symm n⟩
  show wpAny _ _ (noteFrame (.ref e) X.env) _ _ _
  refine Ip.note B Ip.ok.frames F fun s6 I6 Hd=>?_
  obtain ⟨t',R',hm'⟩:=Hd
  refine .inr ⟨e,cls,od,_,H',t',rfl,I6.unpinned,R',fun b hb=>?_,q,⟨hCf,hCne,hCnew,hCcell,hCpin⟩,m,nsC.at' fun o z=>?_⟩
  ·have k:=hm' b hb
   exact ⟨⟨k.un,k.new,k.loc,k.cel,fun p hp=>k.pin p (by rw [<- List.append_assoc];exact List.mem_append_left _ hp)⟩,fun z=>k.pin _ pC z.symm⟩
  ·rw [hoC'] at z
   cases z
   exact (I6.pin _ pC).1
 have loop:∀s₄:Shared,s₄={ s3 with heap:=h₁,toks:=s3.toks } ->
  codeAny (model X.prog X.w) X.A (.compLoop (.ListComp elt [⟨.Name x px,iter,ifs,0⟩] sc pos) 0 (.ref it) (.ref s2.heap.objs.size) (compEnvC sc cl s3.heap.objs.size X.env))
   (CompR X pins σ Q E' (.ref s2.heap.objs.size) s3.heap.objs.size) s₄:=by
  rintro s₄ rfl
  refine codeAny_compLoop_tests (fun n s'=>∃(i:Nat) (o:Option V) (H':Hp) (ys:List V),Inv (X.inComp Nc sc cl s3 H3 fp) [] (σ++[o]) H' s'/\tn i s'.heap/\(∀b∈fp,H' b=none)/\W i n ys H') ?_ m0 ⟨0,none,H3,[],Ic,stc,fpFree,w0⟩
  rintro n s' ⟨i,o,H',ys,I',st',fr',w'⟩
  obtain ⟨hDl,tw⟩:=turn i n ys H' w'
  rcases tw with ⟨stop,q⟩ | ⟨go,hz,step⟩
  ·
   refine thn (T.done (X.inComp Nc sc cl s3 H3 fp) rfl rfl rfl rfl hc i [] s' _ H' _ I' (fpc rfl fr') st' stop) fun r s5 ⟨hr,I5⟩=>?_
   subst hr
   have Ix:Inv X pins σ H' s5:=I3.call' (ch:=fp) I5.os I5.base I5.hok I5.bare fun b hb=>by
    obtain ⟨g0,g1,g2,g3,g4,g5⟩:=f2 b hb
    exact ⟨g3,g1,g4,g5⟩
   have hCf:H' s3.heap.objs.size=none:=I5.free
   obtain ⟨m,hn,_⟩:=I5.loc
   exact .inl ⟨rfl,s2.heap.objs.size,H',rfl,Ix,q,⟨hCf,hCne,hCnew,hCcell,hCpin⟩,m,hn⟩
  ·
   refine thn (T.item (X.inComp Nc sc cl s3 H3 fp) rfl rfl rfl rfl hc i [] s' _ H' _ I' (fpc rfl fr') st' go) fun r s5 ⟨u,hr,h4⟩=>?_
   subst hr
   dsimp only
   have e0:letOwnedTupleGo (.Name x px) (.ref it) u=pure ():=rfl
   have e1:(letOwnedTupleGo (.Name x px) (.ref it) u >>= fun _=>assign (.Name x px) (compEnvC sc cl s3.heap.objs.size X.env) u)=assign (.Name x px) (compEnvC sc cl s3.heap.objs.size X.env) u:=by rw [e0,pure_bind]
   rw [<- e1]
   refine wpAny_bind (thn h4 fun _ s6 ⟨xv,H5,I5,r5,y5,st5,fr5⟩=>?_)
   have I5':=I5.pinned (fpc rfl fr5) (T.obj _ _ st5)
   have again:∀{H7:Hp} {s7:Shared} {m':Nat} {ys':List V},Inv (X.inComp Nc sc cl s3 H3 fp) ([]++pinsAt fp s6.heap) (σ++[some xv]) H7 s7->m' < n->W (i+1) m' ys' H7 ->
    ∃m,m < n/\∃(i:Nat) (o:Option V) (H':Hp) (ys:List V),Inv (X.inComp Nc sc cl s3 H3 fp) [] (σ++[o]) H' s7/\tn i s7.heap/\(∀b∈fp,H' b=none)/\W i m ys H':=fun {H7 s7 m' ys'} I7 hm w7=>by
    refine ⟨m',hm,i+1,some xv,H7,ys',I7.unpinned,T.keep _ _ _ st5 fun b hb o e=>(I7.pin (b,o) (List.mem_append_right _ (List.mem_append_right _ (mem_pinsAt hb e)))).1,fun b hb=>?_,w7⟩
    obtain ⟨o',e,d⟩:=T.obj _ _ st5 b hb
    exact (I7.pin (b,o') (List.mem_append_right _ (List.mem_append_right _ (mem_pinsAt hb e)))).2.1
   refine thnF (hg _ s6 _ H5 xv u (fun σ' H''=>σ'=σ++[some xv]/\H''=H5) I5' r5 ⟨set_last,rfl⟩) fun _ s7 ⟨σ7,H7,I7,e7,e7'⟩=>?_
   subst e7
   subst e7'
   refine thnF (ht cl s3 H3 fp _ s7 _ _ _ I7 (step xv _ y5)) fun b s8 ⟨H8,I8,q8⟩=>?_
   cases b with
   | false =>
     rw [if_neg Bool.false_ne_true] at q8 ⊢
     obtain ⟨m',hm,w8⟩:=q8
     exact again I8 hm w8
   | true =>
     rw [if_pos rfl] at q8 ⊢
     refine wpAny_mono (he cl s3 H3 fp _ s8 _ H8 _ (I8.wish _) q8) (fun y s9 ⟨yv,H9,I9',r9,hD9,m',hm,w9⟩=>?_) fun ev s9 z=>fail z
     have I9:=I9'.unwish
     refine thnF (mt_append _ s9 _ H9 (.ref s2.heap.objs.size) [yv] (.ref s2.heap.objs.size) [y] (fun v H=>v=.non/\H=upd H9 s2.heap.objs.size (.lst (ys++[yv]))) I9 rfl (.cons r9 .nil) ⟨_,ys,yv,rfl,rfl,hD9,hz,rfl,rfl⟩) fun _ s10 ⟨v10,H10,I10,r10,e10,e11⟩=>?_
     subst e11
     exact again I10 hm w9
 exact codeAny_compStart_list (loop _ rfl) (T.self _ 0 _ _ _ stc (loop _ rfl))
theorem comp_fly {E:XK} {pins:List (Addr × Obj)} {σ:St} {H':Hp} {s':Shared} {e t C:Addr} {cls:Value} {od:Option Addr} {fl:Value} (I:Inv (X.wants fun _=>E) pins σ H' s') (R:Rec s'.heap e cls od (some t) fl) (hm:∀b∈[e,t],Mine (X.wants fun _=>E) pins H' b/\b≠C) (q:E cls od H') (cloc:CLoc (X.wants fun _=>E) pins H' C)
 {h':Heap} (k:Heap.SameBut C s'.heap h') (cenv:Env):wpAny (model X.prog X.w) X.A (passOn "comprehension.variables-let-go" (.ref e) cenv:Sem Value) (fun _ _=>False) (Wish X fun _=>E) { s' with heap:=h' }:=by
 have I':=(I.sameBut cloc k).unwish
 obtain ⟨oe,vs,he,hc,ho,hd,h2,h1,ne,oT,ts,ht,hdt,h3⟩:=R
 have he':h'.get? e=some oe:=(k.2 e (hm e (by simp)).2).trans he
 have ht':h'.get? t=some oT:=(k.2 t (hm t (by simp)).2).trans ht
 have Hd:Held X pins H' e cls od fl { s' with heap:=h' }:=⟨t,⟨oe,vs,he',hc,ho,hd,h2,h1,ne,oT,ts,ht',hdt,h3⟩,fun b hb=>let m:=(hm b hb).1;⟨m.un,m.new,m.loc,m.cel,m.pin⟩⟩
 unfold PySem.passOn
 refine wpAny_bind (wpAny_field he' hd h1 ?_)
 rw [if_neg (show ¬ ((Value.ref t == Value.none)=true) from by simp)]
 exact wpAny_bind (I'.flight Hd fun s2 I2 F2=>wpAny_throw ⟨σ,H',e,cls,od,rfl,I2.nopins,F2.fly.less,q⟩)
theorem ps_setCW {E:XK} {j:Nat} {y:Str} {py spos:Pos} (B:Body X) (hE:X.env.scope=fsc) (hXN:X.N=N) (cn:CompN N Nc x sc fsc) (hc:X.calm=true) (hnd:X.N.Nodup) (hj:X.N[j]?=some y) (hy:X.env.scope.names.lookup y=some .local) (hi:PI (X.wants fun _=>E) (.Name x px) iter wi)
 (ht:∀cl s H ex,PIfs (X.inComp Nc sc cl s H ex) ifs tt) (he:∀cl s H ex,PE ((X.inComp Nc sc cl s H ex).wantsC E) elt te)
 (hsw:swapsWith (.ListComp elt [⟨.Name x px,iter,ifs,0⟩] sc pos) (some (.Name y py)) spos.line X.env=pure true)
 (hs:∀v,foldedSetIterable iter X.env v=pure v:=by intro _;rfl):PS (X.wants fun _=>E) (.Assign [.Name y py] (.ListComp elt [⟨.Name x px,iter,ifs,0⟩] sc pos) spos) (tAsg (tComp wi tt te) (gName j)):=by
 intro pins s σ H D I h
 obtain ⟨cl,hcl,clS,clH⟩:=closure_ok (env:=X.env) (sc:=sc) (comp_has I.ok.has hE cn)
 rw [exec_Assign_Name_used _ _ _ _ hsw]
 refine wpAny_bind (wpAny_standAt (wpAny_bind ?_))
 show wpAny _ X.A (do let _ <- comprehension (.ListComp elt [⟨.Name x px,iter,ifs,0⟩] sc pos) sc X.env _ (newList []) false (eval iter X.env) (some (assign (.Name y py) X.env))) _ _ s
 refine wpAny_bind (thn (wpAny_comprehension_free (Q:=fun _ s'=>SP (X.wants fun _=>E) pins D .next s') rfl hs hcl cn.kind cn.nm (thn (hi pins s σ H _ I h) fun v s1 h1=>thn h1 fun itv s2 h2=>?_)) fun _ s' hq=>wpAny_pure (wpAny_pure hq))
 obtain ⟨it,fp,tn,J,H2,rfl,I2,T,st2,f2,h2⟩:=h2
 refine thn (comp_coreW (X:=X.wants fun _=>E) (E':=E) (pos:=pos) (iter:=iter) (Q:=fun x H1=>gName j x σ H1 D.nx) ⟨B.stk,B.fr,B.ex⟩ hE hXN cn hc ht he clS clH I2 T.toA st2 f2 h2) fun acc s3 h3=>thn h3 fun cenv s4 h4=>codeAny_mono h4 fun r s' h5=>?_
 rcases h5 with ⟨rfl,D',H',rfl,I',q,cloc,m,hn⟩ | ⟨e,cls,od,fl,H',t,rfl,I',R,hm,q,cloc,m,hn⟩
 ·refine wpAny_assign_Name (store_ok2 (X:=X.wants fun _=>E) (v:=.ref D') I' hnd hj (.inl hy) rfl (fun s6 I6 sb=>?_) (.inr hy))
  obtain ⟨a,k,ha⟩:=sb
  refine ⟨m,hn.sameBut k (fun z=>?_),fun h' k'=>⟨_,H',I6.sameBut cloc k',q⟩⟩
  rcases ha with ha | ha
  ·exact cloc.ne (z.trans ha)
  ·exact cloc.cells _ _ ha z.symm
 ·exact ⟨m,hn,fun h' k cenv' _=>comp_fly I' R hm q cloc k cenv'⟩
end
end L2
namespace L2
open PySem PySem.Spec PyProof.Rows
theorem entry_unchain:entryFor table "proto.unchain"=some Builtin.«proto.unchain»:=entryFor_of_tree (by kernel_rfl)
section
variable {prog:Program} {w:World} {A:Around} {E:Value->Shared->Prop} {s:Shared}
theorem raise_in {α:Type} {a e:Addr} {oa oe:Obj} {va ve:Array Value} {Q:α->Shared->Prop} (hh:A.handled=some (.ref e)) (he:s.heap.get? e=some oe) (hd:oe.data=.fields ve) (h2:ve[2]?=some .none)
 (ha:s.heap.get? a=some oa) (hda:oa.data=.fields va) (sz:2 < va.size) (ne:e≠a) (k:E (.ref a) { s with heap:=s.heap.update a (Obj.mapFields (·.setIfInBounds 2 (.ref e))) }):wpAny (model prog w) A (raiseNew (.ref a):Sem α) Q E s:=by
 unfold raiseNew
 refine wpAny_bind (wpAny_handled ?_)
 rw [hh]
 dsimp only
 rw [if_pos (show (Value.ref e != Value.ref a)=true from by simpa using ne)]
 refine wpAny_bind (wpAny_holding (runValue_entry (id:="proto.unchain") (b:=Builtin.«proto.unchain») entry_unchain ?_))
 unfold Builtin.«proto.unchain»
 dsimp only
 refine wpAny_bind (wpAny_field he hd h2 ?_)
 rw [if_pos (by decide)]
 refine wpAny_bind (wpAny_pure (wpAny_pure ⟨_,rfl,?_⟩))
 refine wpAny_bind (wpAny_setField (i:=2) ha hda sz ?_)
 exact wpAny_throw k
theorem next_endH {it e:Addr} {x left step:Int} {oe:Obj} {ve:Array Value} {Q:Option Value->Shared->Prop} (hh:A.handled=some (.ref e)) (he:s.heap.get? e=some oe) (hd:oe.data=.fields ve) (h2:ve[2]?=some .none)
 (hit:IsRangeIter s.heap it x left step) (hleft:left<=0) (hQ:∀h',Heap.ExtBut it s.heap h'->Q none { s with heap:=h' }):wpAny (model prog w) A (pyNext (.ref it)) Q E s:=by
 have ty:s.TypeIs (.ref it) "range_iterator":=⟨_,hit,rfl⟩
 unfold pyNext
 refine wpAny_bind (wpAny_attempt (wpAny_callSpecial?_slot (name:=Str.ofString "__next__") ty F.slot_range_iterator_next (wpAny_call_entry F.slot_range_iterator_next ty F.entry_range_iterator_next ?_ (F.args_range_iterator_next_1 _))))
 refine wpAny_bind (m:=field (.ref it) 0) (wpAny_field hit rfl (x:=rawInt x) rfl (wpAny_bind (m:=field (.ref it) 1) (wpAny_field hit rfl (x:=rawInt left) rfl (wpAny_bind (m:=field (.ref it) 2) (wpAny_field hit rfl (x:=rawInt step) rfl ?_)))))
 refine (show ∀{c:Prop} [Decidable c] {u v:Sem Fin} {Q:Fin->Shared->Prop} {E:Value->Shared->Prop} {A:Around},c->wpAny (model prog w) A u Q E s->wpAny (model prog w) A (if c then u else v) Q E s from fun h k=>by rw [if_pos h];exact k) hleft ?_
 refine wpAny_bind (wpAny_rule (wpAny_bind (wpAny_bind (m:=newExc (.type "StopIteration") []) ?_)))
 simp only [newExc,newTuple]
 refine wpAny_bind (wpAny_newObj_type (wpAny_bind (m:=firstArgMember _ _) (wpAny_of_eq (a:=Value.none) (by first | rfl | (simp only [firstArgMember];rfl)) (wpAny_newObj_type ?_ (by size_fits)))) (by size_fits))
 have ne:e≠(s.heap.push { cls:=.type "tuple",dict:=none,data:=.seq #[] }).objs.size:=Nat.ne_of_lt (by rw [Heap.size_push];exact Nat.lt_succ_of_lt (Heap.lt_size he))
 refine raise_in (A:=A.in1) hh (Heap.get?_push_of_some _ (Heap.get?_push_of_some _ he)) hd h2 (Heap.get?_push_size _ rfl) rfl (by rw [Array.size_append];exact Nat.lt_of_lt_of_le (show 2 < 6 by decide) (Nat.le_add_right 6 _)) ne ?_
 refine wpAny_bind (wpAny_isInstance (T:="StopIteration") (b:=true) ⟨_,Heap.get?_update_self _ (Heap.get?_push_size _ rfl) rfl,rfl⟩ isSubtype_stop (wpAny_pure (hQ _ fun b o hb z=>?_)))
 have lt:=Heap.lt_size z
 rw [Heap.get?_update_other _ _ (by rw [Heap.size_push];exact Nat.ne_of_gt (Nat.lt_succ_of_lt lt))]
 exact Heap.get?_push_of_some _ (Heap.get?_push_of_some _ z)
end
noncomputable def ItrH (lo:Int) (n:Nat) (e:Addr):It:={ Itr lo n with stop:=fun i H=>(Itr lo n).stop i H/\∃cls od,H e=some (hoX e cls od) }
theorem turn_rangeH {P:Program} {w:World} {K:PySem.W.Frag} {tg:Expr} {A:Around} {e:Addr} (hh:A.handled=some (.ref e)) (it:Addr) (lo:Int) (n:Nat):TurnA false A P w K tg (ItrH lo n e) [it] it (fun i h=>IsRangeIter h it (lo+(i:Nat)*1) ((n:Int) - (i:Nat)) 1) where
 obj:=(turn_range (P:=P) (w:=w) (K:=K) (tg:=tg) it lo n).obj
 keep:=(turn_range (P:=P) (w:=w) (K:=K) (tg:=tg) it lo n).keep
 item:=by
  intro X hP hw hK hA hc i pins s σ H E I hf st hg
  subst hP hw hK hA
  obtain ⟨f0,f1,f2,f3,f4,f5⟩:=hf it (by simp)
  refine wpAny_pyNext_range_item st (by have:i < n:=hg;omega) fun h' st' sb=>?_
  have I1:Inv X pins σ H { s with heap:=h',toks:=s.toks+1 }:=I.turned (fun b o hb e=>(sb.2 b hb).trans e) f0 f1 f3 f4 f5
  have st2:IsRangeIter h' it (lo+((i+1:Nat):Int)*1) ((n:Int) - ((i+1:Nat):Int)) 1:=by
   rw [show lo+((i+1:Nat):Int)*1=lo+(i:Nat)*1+1 by omega,show (n:Int) - ((i+1:Nat):Int)=(n:Int) - (i:Nat) - 1 by omega]
   exact st'
  refine ⟨_,rfl,go_of (s:={ s with heap:=h',toks:=s.toks+1 }) (n:="range_iterator") st2 rfl rfl (by decide) ⟨.int (lo+i),H,I1,⟨s.toks,?_⟩,⟨rfl,rfl⟩,st2,fun b hb=>(hf b hb).1⟩⟩
  rw [Int.mul_one]
 done:=by
  intro X hP hw hK hA hc i pins s σ H E I hf st hg
  subst hP hw hK hA
  obtain ⟨hg,cls,od,he⟩:=hg
  obtain ⟨f0,f1,f2,f3,f4,f5⟩:=hf it (by simp)
  obtain ⟨⟨oe,ve,g1,_,_,g4,g5⟩,_,_⟩:=(show ObjOk X.prog X.w H s.heap e (hoX e cls od) from I.hok e _ he)
  exact next_endH hh g1 g4 g5 st (by have:n<=i:=hg;omega) fun h' eb=>⟨rfl,I.turned (t':=s.toks) (fun b o hb e=>eb b o hb e) f0 f1 f3 f4 f5⟩
 self:=(turn_range (P:=P) (w:=w) (K:=K) (tg:=tg) it lo n).self
noncomputable def iRngH (e:Addr) (ta:TA):TI:=fun σ H R=>ta σ H fun vs H1=>∃j:Int,vs=[.int j]/\-(2 ^ 62)<=j/\j < 2 ^ 62/\R (ItrH 0 j.toNat e) H1
section
variable {X:Cx} {elt a:Expr} {x:Str} {px pos rp rpos:Pos} {ifs:List Expr} {sc fsc:Scope} {N Nc:List Str} {ta:TA} {tt:TT} {te:TE} {e:Addr}
theorem PE.toC {E:XK} {cl:List (Str × Addr)} {s:Shared} {H:Hp} {ex:List Addr} (h:PE (X.inComp Nc sc cl s H ex) elt te):PE ((X.inComp Nc sc cl s H ex).wantsC E) elt te:=fun pins s1 σ H1 Q I q =>
 wpAny_mono (h pins s1 σ H1 Q I.unwish q) (fun _ _ ⟨v,H2,J,r⟩=>⟨v,H2,J.wish _,r⟩) fun _ _ z=>z.elim
theorem pe_compH (B:Body X) (hc:X.calm=false) (hh:X.A.handled=some (.ref e)) (hE:X.env.scope=fsc) (hXN:X.N=N) (cn:CompN N Nc x sc fsc) (hg:Gl X "range") (hm:X.mg "range"=none) (ha:PA X [a] ta)
 (ht:∀cl s H ex,PIfs (X.inComp Nc sc cl s H ex) ifs tt) (he:∀cl s H ex,PE (X.inComp Nc sc cl s H ex) elt te) (hst:starEach [a] X.env=[(false,eval a X.env)]:=by rfl)
 (hs:∀v,foldedSetIterable (.Call (.Name "range" rp) [a] [] rpos) X.env v=pure v:=by intro _;rfl):PE X (.ListComp elt [⟨.Name x px,.Call (.Name "range" rp) [a] [] rpos,ifs,0⟩] sc pos) (tComp (iRngH e ta) tt te):=by
 intro pins s σ H Q I h
 obtain ⟨cl,hcl,clS,clH⟩:=closure_ok (env:=X.env) (sc:=sc) (comp_has I.ok.has hE cn)
 rw [eval_ListComp]
 refine wpAny_comprehension_free (use:=none) rfl hs hcl cn.kind cn.nm (Call_ (ld_blt I hg hm boot_range (PyProof.Rows.callWith_type1 (thn (ha rpos pins s σ H _ I h) fun us s1 ⟨vs,H1,I1,r1,q1⟩=>?_) hst rfl)))
 obtain ⟨j,ej,q1,q2,q⟩:=q1
 subst ej
 cases r1 with
 | cons r rr =>
   cases rr
   obtain ⟨t,rfl⟩:=r
   refine call_range_1 (wpAny_pyIter_range (IsRange.new ..) (small_one (by omega) (by omega) q1 q2) ?_)
   generalize hs1:({ s1 with heap:=s1.heap.push { cls:=.type "range",data:=.fields #[.int 0 _,.int j t,.int 1 _] },toks:=_ }:Shared)=s2
   have I2:Inv X pins σ H1 s2:=by rw [<- hs1];exact I1.kept fun b o e=>Heap.get?_push_of_some _ e
   have I3:Inv X pins σ H1 { s2 with heap:=s2.heap.push { cls:=.type "range_iterator",data:=.fields #[rawInt 0,rawInt (Builtin.Range.rangeSize 0 j 1),rawInt 1] } }:=I2.kept (t':=s2.toks) fun b o e=>Heap.get?_push_of_some _ e
   refine thn (comp_coreW (c:=false) (E':=fun _ _ _=>False) (pos:=pos) (iter:=.Call (.Name "range" rp) [a] [] rpos) (Q:=Q) B hE hXN cn hc ht (fun cl s H ex=>(he cl s H ex).toC) clS clH I3 (turn_rangeH hh s2.heap.objs.size 0 j.toNat) ?_ (fun b hb=>?_) q) fun acc s3 h3=>thn h3 fun cenv s4 h4=>codeAny_mono h4 fun r s' h5=>?_
   ·rw [show (0:Int)+((0:Nat):Int)*1=0 by omega,show ((j.toNat:Nat):Int) - ((0:Nat):Int)=Builtin.Range.rangeSize 0 j 1 by rw [rangeSize_one];split <;> omega]
    exact Heap.get?_push_size _ rfl
   ·rw [List.mem_singleton.mp hb]
    exact I2.fpOk (Nat.le_refl _) (I2.hok.fresh (Nat.le_refl _))
   ·rcases h5 with ⟨rfl,D,H',rfl,I',q,cloc,m,hn⟩ | ⟨_,_,_,_,_,_,_,_,_,_,z,_⟩
    ·exact ⟨m,hn,fun h' k=>⟨.ref D,H',I'.sameBut cloc k,rfl,q⟩⟩
    ·exact z.elim
end
theorem comp_rangeH {e:Addr} {lo:Int} {n:Nat} {tt:TT} {te:TE} {σ:St} {H1:Hp} {Q:Addr->Hp->Prop} (hn:n<=sizeLine) (Pv:Addr->Nat->List V->Hp->Prop)
 (h0:∀D,H1 D=none->Pv D 0 [] (upd H1 D (.lst []))) (hD:∀D i ys H,Pv D i ys H->H D=some (.lst ys)/\ys.length<=i) (hx:∀D i ys H,Pv D i ys H->∃cls od,H e=some (hoX e cls od))
 (hs:∀D i ys H (K1:VK) (K2:Hp->Prop),H1 D=none->i < n->Pv D i ys H->(∀y H5,H5 D=some (.lst ys)->Pv D (i+1) (ys++[y]) (upd H5 D (.lst (ys++[y])))->K1 y H5)->(∀H4,Pv D (i+1) ys H4->K2 H4) ->
  tt (σ++[some (.int (lo+i))]) H fun b H4=>if b=true then te (σ++[some (.int (lo+i))]) H4 K1 else K2 H4)
 (hd:∀D ys H,H1 D=none->Pv D n ys H->Q D H) :
 ∀D,H1 D=none->∃W:Nat->Nat->List V->Hp->Prop,(∃m,W 0 m [] (upd H1 D (.lst [])))/\∀i m ys H2,W i m ys H2 ->
  H2 D=some (.lst ys)/\(((ItrH lo n e).stop i H2/\Q D H2)\/((ItrH lo n e).go i H2/\ys.length < sizeLine/\∀x H3,(ItrH lo n e).yld i H2 x H3->tt (σ++[some x]) H3 fun b H4=>if b=true then te (σ++[some x]) H4 fun y H5=>H5 D=some (.lst ys)/\∃m',m' < m/\W (i+1) m' (ys++[y]) (upd H5 D (.lst (ys++[y])))
   else ∃m',m' < m/\W (i+1) m' ys H4)):=by
 intro D hDn
 obtain ⟨W,h,k⟩:=comp_range (lo:=lo) (Q:=fun D H=>Q D H/\∃cls od,H e=some (hoX e cls od)) hn Pv h0 hD hs (fun D ys H a p=>⟨hd D ys H a p,hx _ _ _ _ p⟩) D hDn
 refine ⟨W,h,fun i m ys H2 w=>?_⟩
 obtain ⟨e1,z⟩:=k i m ys H2 w
 exact ⟨e1,z.imp (fun ⟨a,b,c⟩=>⟨⟨a,c⟩,b⟩) id⟩
structure FnOkE (P:Program) (w:World) (K:PySem.W.Frag) (mg:Str->Option Value) (base:Heap) (k:Nat) (f:Addr) (fd:FuncData) (ps:List Str) (sp:Addr->Sp):Prop where
 len:∀e vs H Q E,sp e vs H Q E->vs.length=ps.length
 run:∀(e:Addr) (A:Around) (outer:List Env) (s:Shared) (H:Hp) (args:Args) (us:List Value) (vs:List V) (Q:VK) (E:XK),RoomH k A->A.handled=some (.ref e)->Env0 P w K mg base A outer s H->BindsTo s fd args (ps.zip us)->Vals vs us->sp e vs H Q E ->
  codeAny (model P w) A (.call (.ref f) args) (CR CX0 outer P w H s Q E) s
section
variable {P:Program} {w:World} {K:PySem.W.Frag} {mg:Str->Option Value} {base:Heap}
theorem Fun.okE {x qual:Str} {st:Stmt} {f:Addr} {fd:FuncData} {N ps:List Str} {k:Nat} {sp:Addr->Sp} (F:Fun K x qual st f fd) (S:FnScope N ps (defScope st)) (len:∀e vs H Q E,sp e vs H Q E->vs.length=ps.length)
 (hbody:∀(e:Addr) (cdv:Value) (A:Around) (outer:List Env) (s:Shared) (H:Hp) (vs:List V) (Q:VK) (E:XK),RoomH k (A.deeper (envOfC qual (defScope st) s.heap.objs.size f cdv))->A.handled=some (.ref e)->sp e vs H Q E ->
  ∃t,PSs (cxH P w K mg base N qual (defScope st) f cdv A outer s H E).nox (defBody st) t/\t { nx:=fun _ H'=>Q .non H',rt:=Q } (start N vs) H):FnOkE P w K mg base (k+1) f fd ps sp:=by
 obtain ⟨oc,od,kV,doc,pm,an,cdv,ct,osl,rfl,lk,hcd⟩:=F.ex
 refine ⟨len,fun e A outer s H args us vs Q E hr hh e0 hb r hsp=>?_⟩
 have KX:K.In s.heap:=e0.mod.kin.keeps fun b o e=>(e0.bs b o e).1
 have lim:s.heap.NoLimit:=e0.mod.nolimit.keeps fun b o e=>(e0.bs b o e).1
 have kinds:∀y∈ps.zip us,(defScope st).names.lookup y.1=some .local\/((defScope st).names.lookup y.1=some .cell/\((cellsFrom (s.heap.objs.size+1) (defScope st).names []).lookup y.1).isSome=true) :=
  fun ⟨n,v⟩ hy=>(S.par n (List.of_mem_zip hy).1).imp id fun q=>⟨q,PySem.W.cellsFrom_some _ _ _ (.inl q)⟩
 have deep:A.depth < recursionLimit:=by have:=hr.dp;omega
 refine codeAny_call_function deep (KX _ _ lk) rfl S.co S.gen rfl (PySem.W.codeRec_of KX hcd) (hb _ _ _ _ ?_)
 refine wpAny_newFunctionEnv_cells S.kind kinds fun env he s1 x=>?_
 subst he
 refine ⟨lim.keeps x.toInCall.keep,codeAny_func ?_⟩
 have hr':RoomH k (A.deeper (envOfC qual (defScope st) s.heap.objs.size f cdv)):=⟨by have:=hr.dp;show A.depth+1+3*k+5 < _;omega,by have:=hr.un;show A.units+3+16*k+200 < _;omega⟩
 obtain ⟨t,ht,hq⟩:=hbody e cdv A outer s H vs Q E hr' hh hsp
 have I:=invH (E:=E) S e0 (len _ _ _ _ _ hsp) r x
 refine wpAny_mono (ht.nox [] s1 (start N vs) H _ I hq) (fun fl s' hs=>?_) fun _ s' hs=>hs
 rcases fl with _ | _ | _ | u
 all_goals first
  | (obtain ⟨v,σ',H',J,rv,q⟩:=hs;exact ⟨v,H',J.os,J.bare,J.base,J.hok,rv,q⟩)
  | (obtain ⟨σ',H',J,q⟩:=hs;exact ⟨V.non,H',J.os,J.bare,J.base,J.hok,rfl,q⟩)
  | (obtain ⟨_,_,_,q⟩:=hs;exact False.elim q)
end
section
variable {X:Cx} {k:Nat} {f:Addr} {fd:FuncData} {ps:List Str} {sp:Addr->Sp} {x:Str} {p pos:Pos} {e:Expr} {es:List Expr} {t:TA} {ev:Addr}
theorem pe_callE (F:FnOkE X.prog X.w X.K X.mg X.base k f fd ps sp) (hr:RoomH k X.A) (hh:X.A.handled=some (.ref ev)) (hg:Gl X x) (hm:X.mg x=some (.ref f)) (hk:PySem.W.keepIn X.K (.ref f)=true) (hb:Binds X.K fd ps [])
 (ha:PA X (e :: es) t) (hdb:(x == ("__debug__":Str))=false:=by decide) (he:starEach (e :: es) X.env=(false,eval e X.env) :: starEach es X.env:=by rfl) (hpl:(backTo pos (starEach es X.env)).any (·.1)=false:=by rfl) :
 PE X (.Call (.Name x p) (e :: es) [] pos) (tCall (sp ev) [] E0 t):=by
 intro pins s σ H Q I h
 refine wpAny_Call_Name_kw (ld_glob I hg hm ?_ hdb)
 refine PySem.W.callWith_K (h₀:=X.base) I.ok.mod.kin hk (thn (ha pos pins s σ H _ I h) fun us s1 ⟨vs,H1,I1,r,q⟩=>⟨I1.kIn,?_⟩) he hpl
 have r2:Vals (vs++[]) (us++[]):=r.append .nil
 refine wpAny_call (codeAny_mono (F.run ev X.A X.stack s1 H1 ⟨us,[]⟩ (us++[]) (vs++[]) Q E0 hr hh I1.env0 (hb s1 us I1.kIn (by rw [<- r2.length];exact F.len _ _ _ _ _ q)) r2 q) fun r s' hq=>?_)
 rcases r with ev | fl
 ·exact False.elim hq
 ·rcases fl with _ | _ | _ | u
  all_goals first | exact I1.after hq | exact False.elim hq
end
end L2
set_option maxHeartbeats 4000000
namespace Law
open PySem L2
noncomputable def spLaw (K:PySem.W.Frag):Sp:=fun vs H Q _=>∃(p:Addr) (ns:List Int),vs=[.ref p]/\SqL K H p (ns.map V.int)/\ns.length<=63/\∀H',Q (.bl true) H'
noncomputable def spWhole:Sp:=fun vs H Q _=>∃c:Int,vs=[.int c]/\Q (.bl true) H
theorem same_new {H:Hp} {p:Addr} (h:H p=none) (o:HO):Same H (upd H p o):=fun b u q=>by rw [upd_ne (ne_of_none q h)];exact q
theorem fmod_in (x:Int) {y:Int} (h:0 < y):0<=x.fmod y/\x.fmod y < y:=⟨Int.fmod_nonneg_of_pos x h,Int.fmod_lt_of_pos x h⟩
theorem sz_fmod (x:Int) {y:Int} {n:Nat} (h:0 < y) (k:Sz n y):Sz n (x.fmod y):=by
 have e:=fmod_in x h
 unfold Sz at k ⊢
 omega
noncomputable def bit (m:Int) (i:Nat):Bool:=decide (m / 2 ^ i % 2=1)
noncomputable def msum:Nat->(Nat->Bool)->Int
 | 0,_=>0
 | n+1,f=>(if f 0=true then 1 else 0)+2*msum n (fun i=>f (i+1))
theorem bit_half (s:Int) (i:Nat):bit (s / 2) i=bit s (i+1):=by
 unfold bit
 rw [Int.ediv_ediv_of_nonneg (by decide:(0:Int)<=2)]
 have e:(2:Int)*2 ^ i=2 ^ (i+1):=by rw [Int.pow_succ,Int.mul_comm]
 rw [e]
theorem bit_zero (s:Int):bit s 0=decide (s % 2=1):=by
 unfold bit
 rw [Int.pow_zero,Int.ediv_one]
theorem msum_nonneg:∀n f,0<=msum n f
 | 0,_=>Int.le_refl _
 | n+1,f=>by
   have:=msum_nonneg n (fun i=>f (i+1))
   show 0<=(if f 0=true then (1:Int) else 0)+2*msum n (fun i=>f (i+1))
   split <;> omega
theorem msum_lt:∀n f,msum n f < 2 ^ n
 | 0,_=>by show (0:Int) < 1;decide
 | n+1,f=>by
   have:=msum_lt n (fun i=>f (i+1))
   show (if f 0=true then (1:Int) else 0)+2*msum n (fun i=>f (i+1)) < 2 ^ (n+1)
   rw [Int.pow_succ]
   split <;> omega
theorem msum_half (n f):msum (n+1) f / 2=msum n (fun i=>f (i+1)):=by
 show ((if f 0=true then (1:Int) else 0)+2*msum n (fun i=>f (i+1))) / 2=_
 split <;> omega
theorem msum_odd (n f):(msum (n+1) f % 2=1)↔f 0=true:=by
 show (((if f 0=true then (1:Int) else 0)+2*msum n (fun i=>f (i+1))) % 2=1)↔_
 split <;> rename_i h
 ·exact ⟨fun _=>h,fun _=>by omega⟩
 ·exact ⟨fun e=>by omega,fun e=>absurd e h⟩
theorem msum_succ:∀n f,msum (n+1) f=msum n f+(if f n=true then 2 ^ n else 0)
 | 0,f=>by
   show (if f 0=true then (1:Int) else 0)+2*0=0+(if f 0=true then (1:Int) else 0)
   split <;> decide
 | n+1,f=>by
   show (if f 0=true then (1:Int) else 0)+2*msum (n+1) (fun i=>f (i+1))=(if f 0=true then (1:Int) else 0)+2*msum n (fun i=>f (i+1))+(if f (n+1)=true then 2 ^ (n+1) else 0)
   rw [msum_succ n (fun i=>f (i+1)),Int.pow_succ]
   split <;> split <;> omega
theorem bit_msum:∀n f i,bit (msum n f) i=(decide (i < n) && f i)
 | 0,f,i=>by
   unfold bit
   show decide ((0:Int) / 2 ^ i % 2=1)=_
   rw [Int.zero_ediv]
   rfl
 | n+1,f,0=>by
   rw [bit_zero]
   by_cases h:f 0=true
   ·rw [decide_eq_true ((msum_odd n f).mpr h),h];rfl
   ·rw [decide_eq_false (fun e=>h ((msum_odd n f).mp e)),Bool.eq_false_iff.mpr h];rfl
 | n+1,f,i+1=>by
   rw [<- bit_half,msum_half,bit_msum n]
   have:decide (i < n)=decide (i+1 < n+1):=by
    by_cases h:i < n
    ·rw [decide_eq_true h,decide_eq_true (by omega)]
    ·rw [decide_eq_false h,decide_eq_false (by omega)]
   rw [this]
noncomputable def hands (n:Nat) (f:Nat->Bool):List Int:=((List.range n).filter f).map fun i:Nat=>(i:Int)
theorem hands_succ (n:Nat) (f:Nat->Bool):hands (n+1) f=if f n=true then hands n f++[(n:Int)] else hands n f:=by
 unfold hands
 rw [List.range_succ,List.filter_append,List.map_append]
 by_cases h:f n=true
 ·rw [if_pos h];simp [h]
 ·rw [if_neg h]
  have h':f n=false:=by simpa using h
  simp [h']
theorem hands_len (n:Nat) (f:Nat->Bool):(hands n f).length<=n:=by
 unfold hands
 rw [List.length_map]
 exact Nat.le_trans (List.length_filter_le _ _) (by simp)
theorem hands_mem {n:Nat} {f:Nat->Bool} {z:Int}:z∈hands n f↔∃i:Nat,i < n/\f i=true/\z=(i:Int):=by
 unfold hands
 rw [List.mem_map]
 constructor
 ·rintro ⟨i,hi,rfl⟩
  obtain ⟨h1,h2⟩:=List.mem_filter.mp hi
  exact ⟨i,List.mem_range.mp h1,h2,rfl⟩
 ·rintro ⟨i,h1,h2,rfl⟩
  exact ⟨i,List.mem_filter.mpr ⟨List.mem_range.mpr h1,h2⟩,rfl⟩
noncomputable def bsum (hs:List Int):Int:=(hs.map fun h=>(1:Int)*2 ^ h.toNat).sum
theorem bsum_hands:∀n f,bsum (hands n f)=msum n f
 | 0,f=>rfl
 | n+1,f=>by
   rw [hands_succ,msum_succ]
   by_cases h:f n=true
   ·rw [if_pos h,if_pos h]
    unfold bsum
    rw [List.map_append,List.sum_append]
    have:=bsum_hands n f
    unfold bsum at this
    rw [this]
    simp
   ·rw [if_neg h,if_neg h,bsum_hands n f]
    omega
noncomputable def ins (x:Int):List Int->List Int
 | []=>[x]
 | y :: r=>if x < y then x :: y :: r else if x=y then y :: r else y :: ins x r
noncomputable def sset:List Int->List Int
 | []=>[]
 | x :: r=>ins x (sset r)
theorem ins_mem {x z:Int}:∀{l:List Int},z∈ins x l↔z=x\/z∈l
 | []=>by unfold ins;simp
 | y :: r=>by
   unfold ins
   split
   ·simp
   ·split
    ·rename_i h;subst h;simp
    ·rw [List.mem_cons,ins_mem (l:=r),List.mem_cons]
     constructor
     ·rintro (h | h | h)
      ·exact .inr (.inl h)
      ·exact .inl h
      ·exact .inr (.inr h)
     ·rintro (h | h | h)
      ·exact .inr (.inl h)
      ·exact .inl h
      ·exact .inr (.inr h)
theorem ins_rise {x:Int}:∀{l:List Int},l.Pairwise (· < ·)->(ins x l).Pairwise (· < ·)
 | [],_=>by unfold ins;simp
 | y :: r,h=>by
   unfold ins
   rw [List.pairwise_cons] at h
   split
   ·rename_i c
    rw [List.pairwise_cons]
    refine ⟨fun z hz=>?_,List.pairwise_cons.mpr h⟩
    rcases List.mem_cons.mp hz with e | e
    ·omega
    ·have:=h.1 z e;omega
   ·split
    ·exact List.pairwise_cons.mpr h
    ·rename_i c d
     rw [List.pairwise_cons]
     refine ⟨fun z hz=>?_,ins_rise h.2⟩
     rcases ins_mem.mp hz with e | e
     ·omega
     ·exact h.1 z e
theorem sset_mem {z:Int}:∀{l:List Int},z∈sset l↔z∈l
 | []=>Iff.rfl
 | x :: r=>by
   show z∈ins x (sset r)↔_
   rw [ins_mem,sset_mem,List.mem_cons]
theorem sset_rise:∀l:List Int,(sset l).Pairwise (· < ·)
 | []=>.nil
 | x :: r=>ins_rise (sset_rise r)
theorem rise_uniq:∀{a b:List Int},a.Pairwise (· < ·)->b.Pairwise (· < ·)->(∀z,z∈a↔z∈b)->a=b
 | [],[],_,_,_=>rfl
 | [],y :: b,_,_,h=>nomatch (h y).mpr (List.mem_cons_self ..)
 | x :: a,[],_,_,h=>nomatch (h x).mp (List.mem_cons_self ..)
 | x :: a,y :: b,ha,hb,h=>by
   rw [List.pairwise_cons] at ha hb
   have e:x=y:=by
    rcases List.mem_cons.mp ((h x).mp (List.mem_cons_self ..)) with e | e
    ·exact e
    ·rcases List.mem_cons.mp ((h y).mpr (List.mem_cons_self ..)) with f | f
     ·exact f.symm
     ·have:=ha.1 y f
      have:=hb.1 x e
      omega
   subst e
   rw [rise_uniq ha.2 hb.2 fun z=>?_]
   constructor
   ·intro hz
    rcases List.mem_cons.mp ((h z).mp (List.mem_cons_of_mem _ hz)) with e | e
    ·have:=ha.1 z hz;omega
    ·exact e
   ·intro hz
    rcases List.mem_cons.mp ((h z).mpr (List.mem_cons_of_mem _ hz)) with e | e
    ·have:=hb.1 z hz;omega
    ·exact e
theorem sset_of {ms ns:List Int} (h:ms.Pairwise (· < ·)) (m:∀z,z∈ms↔z∈ns):ms=sset ns:=rise_uniq h (sset_rise ns) fun z=>(m z).trans sset_mem.symm
theorem sset_len:∀l:List Int,(sset l).length<=l.length
 | []=>Nat.le_refl _
 | x :: r=>by
   have ih:=sset_len r
   have:∀l:List Int,(ins x l).length<=l.length+1:=by
    intro l
    induction l with
    | nil=>exact Nat.le_refl _
    | cons y l ihl =>
      unfold ins
      split
      ·exact Nat.le_refl _
      ·split
       ·exact Nat.le_succ _
       ·exact Nat.succ_le_succ ihl
   exact Nat.le_trans (this (sset r)) (Nat.succ_le_succ ih)
noncomputable def isR (rs:List Int) (r:Int) (i:Nat):Bool:=decide (rs[i]?=some r)
noncomputable def tierOf (rs:List Int) (r:Int):Int:=msum rs.length (isR rs r)
noncomputable def tiersOf (rs:List Int):List Int:=((sset rs).filter fun r=>decide (0 < r)).map (tierOf rs)
noncomputable def spC40 (K:PySem.W.Frag):Sp:=fun vs H Q _=>∃(p:Addr) (ns:List Int) (k:Int),vs=[.ref p,.int k]/\SqL K H p (ns.map V.int)/\ns.length<=63/\0<=k/\k<=1000/\∀z:Int,0<=z->z < 10 ^ 40->Q (.int z) H
noncomputable def spMixed:Sp:=fun vs H Q _=>∃c b:Int,vs=[.int c,.int b]/\Sz 200 c/\Sz 64 b/\∀z:Int,0<=z->z < 10 ^ 18->Q (.int z) H
theorem sz40 {c:Int} (h0:0<=c) (h:c < 10 ^ 40):Sz 200 c:=sz_of (by omega) (by omega)
theorem sz18 {c:Int} (h0:0<=c) (h:c < 10 ^ 18):Sz 64 c:=sz_of (by omega) (by omega)
theorem mix_end (x:Int):0<=(x.fmod ((10:Int) ^ (18:Int).toNat+3)).fdiv 7/\(x.fmod ((10:Int) ^ (18:Int).toNat+3)).fdiv 7 < 10 ^ 18:=by
 have h:=fmod_in x (show (0:Int) < (10:Int) ^ (18:Int).toNat+3 by decide)
 generalize x.fmod ((10:Int) ^ (18:Int).toNat+3)=y at h ⊢
 rw [Int.fdiv_eq_ediv_of_nonneg y (by decide)]
 have e:(10:Int) ^ (18:Int).toNat=1000000000000000000:=by decide
 rw [e] at h
 omega
theorem same_upd {H H':Hp} {l:Addr} {o:HO} (s:Same H H') (n:H l=none):Same H (upd H' l o):=fun b u e=>by
 rw [upd_ne (ne_of_none e n)]
 exact s b u e
theorem ifT {c:Bool} {A B:Prop} (e:c=true) (h:A):if c=true then A else B:=by rw [if_pos e];exact h
theorem ifF {c:Bool} {A B:Prop} (e:c=false) (h:B):if c=true then A else B:=by rw [if_neg (by rw [e];decide)];exact h
theorem ne_t {a b:Int} (h:a≠b):(!decide (V.int a=V.int b))=true:=by rw [decide_eq_false (fun e=>h (V.int.inj e))];rfl
theorem ne_f {a b:Int} (h:a=b):(!decide (V.int a=V.int b))=false:=by rw [h,decide_eq_true rfl];rfl
theorem eq_t {a b:Int} (h:a=b):decide (V.int a=V.int b)=true:=by rw [h];exact decide_eq_true rfl
theorem eq_f {a b:Int} (h:a≠b):decide (V.int a=V.int b)=false:=decide_eq_false fun e=>h (V.int.inj e)
theorem int_at {ns:List Int} {i:Nat} {x:V} (h:(ns.map V.int)[i]?=some x):∃z,ns[i]?=some z/\x=.int z:=by
 rw [List.getElem?_map] at h
 cases e:ns[i]? with
 | none=>rw [e] at h;cases h
 | some z=>rw [e] at h;exact ⟨z,rfl,(Option.some.inj h).symm⟩
theorem atN {ns:List Int} {i:Nat} {z:Int} (h:ns[i]?=some z):atI (ns.map V.int) (i:Int)=some (.int z):=atI_nat (by rw [List.getElem?_map,h];rfl)
theorem pow_small {h:Nat} (hh:h < 64):CPow 1 (h:Int):=⟨by omega,by omega,by decide⟩
theorem and1 (x:Int):Builtin.bitAnd x 1=x % 2:=PySem.W.kbt_mask x 1
theorem holds_bit (m:Int) (h:Int):decide (V.int (Builtin.bitAnd (m / 2 ^ h.toNat) 1)=V.int 1)=bit m h.toNat:=by
 unfold bit
 rw [and1]
 by_cases c:m / 2 ^ h.toNat % 2=1
 ·rw [decide_eq_true c,decide_eq_true (congrArg V.int c)]
 ·rw [decide_eq_false c,decide_eq_false fun e=>c (V.int.inj e)]
theorem mod_bit (m:Int) (i:Nat):m / 2 ^ i % 2=if bit m i=true then 1 else 0:=by
 have e:m / 2 ^ i % 2=0\/m / 2 ^ i % 2=1:=by omega
 unfold bit
 rcases e with e | e
 ·rw [e];rfl
 ·rw [e];rfl
theorem more_is (m:Int) (h:Nat):Builtin.bitOr m (1*2 ^ h)=m+2 ^ h*(if (!bit m h)=true then 1 else 0):=by
 rw [Int.one_mul,PyProof.Rows.bitOr_and,PySem.W.kbt_bit,mod_bit]
 cases bit m h <;> simp
theorem or_msum (n:Nat) (f:Nat->Bool):Builtin.bitOr (msum n f) (1*2 ^ n)=msum n f+2 ^ n:=by
 rw [more_is,bit_msum,decide_eq_false (Nat.lt_irrefl n)]
 simp
noncomputable def spWith:Sp:=fun vs H Q _=>∃m h:Int,vs=[.int m,.int h]/\0<=h/\h < 12/\Q (.int (Builtin.bitOr m (1*2 ^ h.toNat))) H
noncomputable def spMembers:Sp:=fun vs H Q _=>∃m:Int,vs=[.int m]/\0<=m/\m < 4096/\∀(p:Addr) (H':Hp),H p=none->Same H H'->H' p=some (.lst ((hands 12 (bit m)).map V.int))->Q (.ref p) H'
noncomputable def spTier (K:PySem.W.Frag):Sp:=fun vs H Q _=>∃(p:Addr) (rs:List Int) (r:Int),vs=[.ref p,.int r]/\SqL K H p (rs.map V.int)/\rs.length<=12/\∀H':Hp,Same H H'->Q (.int (tierOf rs r)) H'
noncomputable def spRank:Sp:=fun vs H Q _=>∃r:Int,vs=[.int r]/\0<=r/\r<=1000000000/\Q (.bl true) H
noncomputable def spAre (K:PySem.W.Frag):Sp:=fun vs H Q _=>∃(p:Addr) (rs:List Int),vs=[.ref p,.int (rs.length:Nat)]/\H p=some (.lst (rs.map V.int))/\rs.length<=12/\(∀r∈rs,0<=r/\r<=1000000000)/\∀H':Hp,Same H H'->Q (.bl true) H'
noncomputable def spSlipOf (K:PySem.W.Frag):Sp:=fun vs H Q _=>∃(p:Addr) (rs:List Int),vs=[.ref p,.int (rs.length:Nat)]/\H p=some (.lst (rs.map V.int))/\rs.length<=12/\(∀r∈rs,0<=r/\r<=1000000000) /\
 ∀(t:Addr) (H':Hp),H t=none->Same H H'->H' t=some (.tup ((tiersOf rs).map V.int))->Q (.ref t) H'
theorem u1 {n:Nat} (h:n+64 < cLine):n+1 < cLine:=by omega
theorem none_of {H H':Hp} {a:Addr} (s:Same H H') (h:H' a=none):H a=none:=by
 cases e:H a with
 | none=>rfl
 | some u=>rw [s _ _ e] at h;cases h
abbrev Ls:=List (Addr × Addr × List Int × Int)
abbrev Ds:=List (List Int × Int)
noncomputable def vls (ls:Ls):List V:=ls.map fun q=>.ref q.1
noncomputable def dsOf (ls:Ls):Ds:=ls.map fun q=>(q.2.2.1,q.2.2.2)
noncomputable def GoodL (H:Hp) (ls:Ls):Prop:=∀q∈ls,H q.1=some (.tup [.ref q.2.1,.int q.2.2.2])/\H q.2.1=some (.tup (q.2.2.1.map V.int))
theorem GoodL.same {H H':Hp} {ls:Ls} (s:Same H H') (g:GoodL H ls):GoodL H' ls:=fun q m=>⟨s _ _ (g q m).1,s _ _ (g q m).2⟩
theorem GoodL.append {H:Hp} {a b:Ls} (g:GoodL H a) (k:GoodL H b):GoodL H (a++b):=fun q m=>(List.mem_append.mp m).elim (g q) (k q)
theorem GoodL.upd {H:Hp} {ls:Ls} {l:Addr} {xs:List V} {o:HO} (e:H l=some (.lst xs)) (g:GoodL H ls):GoodL (upd H l o) ls:=fun q m=>by
 refine ⟨?_,?_⟩
 ·rw [upd_ne (ne_of (g q m).1 e (fun z=>nomatch z))];exact (g q m).1
 ·rw [upd_ne (ne_of (g q m).2 e (fun z=>nomatch z))];exact (g q m).2
theorem vls_get {ls:Ls} {i:Nat} {x:V} (h:(vls ls)[i]?=some x):∃q,ls[i]?=some q/\x=.ref q.1/\q∈ls/\ls.take (i+1)=ls.take i++[q]:=by
 unfold vls at h
 rw [List.getElem?_map] at h
 cases e:ls[i]? with
 | none=>rw [e] at h;cases h
 | some q =>
   rw [e] at h
   refine ⟨q,rfl,(Option.some.inj h).symm,List.mem_of_getElem? e,?_⟩
   rw [List.take_succ,e]
   rfl
theorem vls_len (ls:Ls):(vls ls).length=ls.length:=List.length_map ..
theorem vls_append (a b:Ls):vls (a++b)=vls a++vls b:=List.map_append ..
theorem dsOf_append (a b:Ls):dsOf (a++b)=dsOf a++dsOf b:=List.map_append ..
theorem lex_asym:∀{a b:List Int},HT.lexLt a b=true->HT.lexLt b a=false
 | [],[],h=>by cases h
 | [],_ :: _,_=>rfl
 | _ :: _,[],h=>by cases h
 | x :: a,y :: b,h=>by
   rw [HT.lexLt_cons] at h ⊢
   by_cases c:x=y
   ·rw [if_pos c] at h
    rw [if_pos c.symm]
    exact lex_asym h
   ·rw [if_neg c] at h
    rw [if_neg (Ne.symm c)]
    have:=of_decide_eq_true h
    exact decide_eq_false (by omega)
theorem lex_tot:∀{a b:List Int},HT.lexLt b a=false->a≠b->HT.lexLt a b=true
 | [],[],_,n=>absurd rfl n
 | [],_ :: _,_,_=>rfl
 | _ :: _,[],h,_=>by cases h
 | x :: a,y :: b,h,n=>by
   rw [HT.lexLt_cons] at h ⊢
   by_cases c:x=y
   ·rw [if_pos c.symm] at h
    rw [if_pos c]
    exact lex_tot h fun e=>n (by rw [c,e])
   ·rw [if_neg (Ne.symm c)] at h
    rw [if_neg c]
    have:=of_decide_eq_false h
    exact decide_eq_true (by omega)
noncomputable def tot:Ds->List Int->Int
 | [],_=>0
 | q :: r,ts=>(if q.1=ts then q.2 else 0)+tot r ts
theorem tot_append (ts:List Int):∀a b:Ds,tot (a++b) ts=tot a ts+tot b ts
 | [],b=>by show tot b ts=0+tot b ts;omega
 | q :: a,b=>by
   show (if q.1=ts then q.2 else 0)+tot (a++b) ts=(if q.1=ts then q.2 else 0)+tot a ts+tot b ts
   rw [tot_append ts a b]
   omega
noncomputable def Pos (ds:Ds):Prop:=∀q∈ds,1<=q.2
theorem tot_nonneg {ts:List Int}:∀{ds:Ds},Pos ds->0<=tot ds ts
 | [],_=>Int.le_refl _
 | q :: r,h=>by
   have h1:=h q (List.mem_cons_self ..)
   have h2:=tot_nonneg (ts:=ts) (ds:=r) fun p m=>h p (List.mem_cons_of_mem _ m)
   show 0<=(if q.1=ts then q.2 else 0)+tot r ts
   split <;> omega
theorem tot_out {ts:List Int}:∀{ds:Ds},ts ∉ ds.map (·.1)->tot ds ts=0
 | [],_=>rfl
 | q :: r,h=>by
   rw [List.map_cons,List.mem_cons,not_or] at h
   show (if q.1=ts then q.2 else 0)+tot r ts=0
   rw [if_neg (fun e=>h.1 e.symm),tot_out h.2]
   rfl
theorem tot_in {ts:List Int}:∀{ds:Ds},Pos ds->ts∈ds.map (·.1)->0 < tot ds ts
 | [],_,m=>nomatch m
 | q :: r,h,m=>by
   have h1:=h q (List.mem_cons_self ..)
   have hr:Pos r:=fun p m=>h p (List.mem_cons_of_mem _ m)
   have h2:=tot_nonneg (ts:=ts) hr
   show 0 < (if q.1=ts then q.2 else 0)+tot r ts
   by_cases c:q.1=ts
   ·rw [if_pos c];omega
   ·rw [if_neg c]
    rcases List.mem_cons.mp m with e | e
    ·exact absurd e.symm c
    ·have:=tot_in hr e
     omega
structure Sheet (ds out:Ds):Prop where
 srt:out.Pairwise (fun x y=>HT.lexLt x.1 y.1=true)
 mem:∀ts n,(ts,n)∈out↔n=tot ds ts/\0 < n
theorem srt_uniq:∀{a b:Ds},a.Pairwise (fun x y=>HT.lexLt x.1 y.1=true)->b.Pairwise (fun x y=>HT.lexLt x.1 y.1=true)->(∀q,q∈a↔q∈b)->a=b
 | [],[],_,_,_=>rfl
 | [],y :: b,_,_,h=>nomatch (h y).mpr (List.mem_cons_self ..)
 | x :: a,[],_,_,h=>nomatch (h x).mp (List.mem_cons_self ..)
 | x :: a,y :: b,ha,hb,h=>by
   rw [List.pairwise_cons] at ha hb
   have irr:∀z:List Int × Int,HT.lexLt z.1 z.1≠true:=fun z e=>by
    have:=lex_asym e
    rw [e] at this
    cases this
   have e:x=y:=by
    rcases List.mem_cons.mp ((h x).mp (List.mem_cons_self ..)) with e | e
    ·exact e
    ·rcases List.mem_cons.mp ((h y).mpr (List.mem_cons_self ..)) with f | f
     ·exact f.symm
     ·have p:=ha.1 y f
      have q:=lex_asym (hb.1 x e)
      rw [p] at q
      cases q
   subst e
   rw [srt_uniq ha.2 hb.2 fun z=>?_]
   constructor
   ·intro hz
    rcases List.mem_cons.mp ((h z).mp (List.mem_cons_of_mem _ hz)) with e | e
    ·exact absurd (ha.1 z hz) (by rw [e];exact irr x)
    ·exact e
   ·intro hz
    rcases List.mem_cons.mp ((h z).mpr (List.mem_cons_of_mem _ hz)) with e | e
    ·exact absurd (hb.1 z hz) (by rw [e];exact irr x)
    ·exact e
theorem Sheet.uniq {ds es a b:Ds} (h:Sheet ds a) (k:Sheet es b) (e:∀ts,tot ds ts=tot es ts):a=b :=
 srt_uniq h.srt k.srt fun ⟨ts,n⟩=>by rw [h.mem,k.mem,e]
theorem kv_map (ts:List Int):(ts.map Sum.inl:List Key).map kV=ts.map V.int:=by rw [List.map_map];rfl
theorem inl_inj {a b:List Int} (h:(a.map Sum.inl:List Key)=b.map Sum.inl):a=b:=by
 have e:=congrArg (List.map kV) h
 rw [kv_map,kv_map] at e
 have:∀{a b:List Int},a.map V.int=b.map V.int->a=b:=by
  intro a
  induction a with
  | nil=>intro b h;cases b with | nil=>rfl | cons _ _=>cases h
  | cons x a ih =>
    intro b h
    cases b with
    | nil=>cases h
    | cons y b =>
      injection h with h1 h2
      injection h1 with h1
      rw [h1,ih h2]
 exact this e
theorem nd_of_map {α β:Type} {f:α->β}:∀{l:List α},(l.map f).Nodup->l.Nodup
 | [],_=>List.nodup_nil
 | x :: l,h=>by
   rw [List.map_cons,List.nodup_cons] at h
   rw [List.nodup_cons]
   exact ⟨fun m=>h.1 (List.mem_map.mpr ⟨x,m,rfl⟩),nd_of_map h.2⟩
structure VD (kvs:List (List Key × V)):Prop where
 nd:(kvs.map (·.1)).Nodup
 all:∀q∈kvs,∃(ts:List Int) (n:Int),q=(ts.map Sum.inl,.int n)
theorem putK_keys {κ:Type} [DecidableEq κ] {kvs:List (κ × V)} {k:κ} {v w:V} (h:valV kvs k=some w):(putK kvs k v).map (·.1)=kvs.map (·.1):=by
 unfold putK
 rw [valV_any,h,if_pos (show (some w).isSome=true from rfl),List.map_map]
 refine List.map_congr_left fun q _=>?_
 show (if q.1=k then (q.1,v) else q).1=q.1
 split <;> rfl
theorem VD.put {kvs:List (List Key × V)} (h:VD kvs) (ts:List Int) (n:Int):VD (putK kvs (ts.map Sum.inl) (.int n)):=by
 refine ⟨?_,fun q m=>?_⟩
 ·cases e:valV kvs (ts.map Sum.inl:List Key) with
  | none=>exact nd_putK _ h.nd e
  | some w=>rw [putK_keys e];exact h.nd
 ·unfold putK at m
  split at m
  ·obtain ⟨p,pm,rfl⟩:=List.mem_map.mp m
   split
   ·rename_i e
    exact ⟨ts,n,by rw [e]⟩
   ·exact h.all p pm
  ·rcases List.mem_append.mp m with m | m
   ·exact h.all q m
   ·exact ⟨ts,n,List.mem_singleton.mp m⟩
theorem VD.val {kvs:List (List Key × V)} (h:VD kvs) {k:List Key} {v:V} (e:valV kvs k=some v):∃n:Int,v=.int n:=by
 unfold valV at e
 cases c:kvs.find? fun kv=>decide (kv.1=k) with
 | none=>rw [c] at e;cases e
 | some q =>
   rw [c] at e
   obtain ⟨ts,n,rfl⟩:=h.all q (List.mem_of_find?_eq_some c)
   exact ⟨n,(Option.some.inj e).symm⟩
theorem VD.keys {kvs:List (List Key × V)} (h:VD kvs):∃ks:List (List Int),kvs.map (·.1)=ks.map (List.map Sum.inl)/\ks.length=kvs.length/\ks.Nodup/\∀ts,ts∈ks↔∃n:Int,valV kvs (ts.map Sum.inl)=some (.int n):=by
 have key:∀{l:List (List Key × V)},(∀q∈l,q∈kvs)->∃ks:List (List Int),l.map (·.1)=ks.map (List.map Sum.inl)/\ks.length=l.length:=by
  intro l
  induction l with
  | nil=>intro _;exact ⟨[],rfl,rfl⟩
  | cons q r ih =>
    intro sub
    obtain ⟨ks,e1,e2⟩:=ih fun p m=>sub p (List.mem_cons_of_mem _ m)
    obtain ⟨ts,n,eq⟩:=h.all q (sub q (List.mem_cons_self ..))
    exact ⟨ts :: ks,by rw [List.map_cons,List.map_cons,e1,eq],by rw [List.length_cons,List.length_cons,e2]⟩
 obtain ⟨ks,e1,e2⟩:=key fun q m=>m
 have mm:∀ts,ts∈ks↔(ts.map Sum.inl:List Key)∈kvs.map (·.1):=fun ts=>by
  rw [e1]
  constructor
  ·intro m;exact List.mem_map.mpr ⟨ts,m,rfl⟩
  ·intro m
   obtain ⟨us,um,e⟩:=List.mem_map.mp m
   rw [<- inl_inj e]
   exact um
 refine ⟨ks,e1,e2,?_,fun ts=>⟨fun m=>?_,fun ⟨n,e⟩=>(mm ts).mpr (valV_in e)⟩⟩
 ·have nd:=h.nd
  rw [e1] at nd
  exact nd_of_map nd
 ·cases c:valV kvs (ts.map Sum.inl:List Key) with
  | none=>exact absurd ((mm ts).mp m) (valV_not c)
  | some v =>
    obtain ⟨n,rfl⟩:=h.val c
    exact ⟨n,rfl⟩
structure DictOf (ds:Ds) (kvs:List (List Key × V)):Prop where
 vd:VD kvs
 val:∀ts:List Int,valV kvs (ts.map Sum.inl)=if ts∈ds.map (·.1) then some (.int (tot ds ts)) else none
theorem DictOf.nil:DictOf [] []:=⟨⟨List.nodup_nil,fun _ m=>nomatch m⟩,fun _=>rfl⟩
noncomputable def oldV (kvs:List (List Key × V)) (ts:List Int):Int:=match valV kvs (ts.map Sum.inl:List Key) with
 | some (.int n)=>n
 | _=>0
theorem DictOf.put {ds:Ds} {kvs:List (List Key × V)} (h:DictOf ds kvs) (ts:List Int) (n:Int):DictOf (ds++[(ts,n)]) (putK kvs (ts.map Sum.inl) (.int (tot ds ts+n))):=by
 refine ⟨h.vd.put ts _,fun us=>?_⟩
 rw [valV_put,h.val us,tot_append,List.map_append]
 show (if (us.map Sum.inl:List Key)=ts.map Sum.inl then _ else _)=if us∈ds.map (·.1)++[ts] then some (V.int (tot ds us+((if ts=us then n else 0)+0))) else none
 by_cases c:us=ts
 ·subst c
  rw [if_pos rfl,if_pos (by simp),if_pos rfl]
  rw [Int.add_zero]
 ·rw [if_neg (fun e=>c (inl_inj e)),if_neg (Ne.symm c)]
  by_cases m:us∈ds.map (·.1)
  ·rw [if_pos m,if_pos (by simp;left;simpa using m)]
   rw [Int.add_zero,Int.add_zero]
  ·rw [if_neg m,if_neg (by simp;exact ⟨by simpa using m,c⟩)]
theorem nodup_len {α:Type} [DecidableEq α]:∀{l p:List α},l.Nodup->(∀x∈l,x∈p)->l.length<=p.length
 | [],_,_,_=>Nat.zero_le _
 | x :: l,p,n,s=>by
   rw [List.nodup_cons] at n
   have m:=s x (List.mem_cons_self ..)
   have ih:=nodup_len (p:=p.erase x) n.2 fun y hy=>(List.mem_erase_of_ne (fun e:y=x=>n.1 (by rw [<- e];exact hy))).mpr (s y (List.mem_cons_of_mem _ hy))
   rw [List.length_erase_of_mem m] at ih
   have:=List.length_pos_of_mem m
   rw [List.length_cons]
   omega
theorem DictOf.len {ds:Ds} {kvs:List (List Key × V)} (h:DictOf ds kvs) {p:List (List Int)} (s:∀q∈ds,q.1∈p):kvs.length<=p.length:=by
 obtain ⟨ks,_,e2,nd,mm⟩:=h.vd.keys
 rw [<- e2]
 refine nodup_len nd fun ts m=>?_
 obtain ⟨n,e⟩:=(mm ts).mp m
 rw [h.val ts] at e
 by_cases c:ts∈ds.map (·.1)
 ·obtain ⟨q,qm,rfl⟩:=List.mem_map.mp c
  exact s q qm
 ·rw [if_neg c] at e;cases e
theorem DictOf.sheet {ds out:Ds} {kvs:List (List Key × V)} (h:DictOf ds kvs) (p:Pos ds) (srt:out.Pairwise (fun x y=>HT.lexLt x.1 y.1=true)) (mem:∀ts n,(ts,n)∈out↔valV kvs (ts.map Sum.inl)=some (.int n)/\0 < n):Sheet ds out:=by
 refine ⟨srt,fun ts n=>?_⟩
 rw [mem,h.val]
 by_cases c:ts∈ds.map (·.1)
 ·rw [if_pos c]
  constructor
  ·rintro ⟨e,z⟩;injection e with e;injection e with e;exact ⟨e.symm,z⟩
  ·rintro ⟨e,z⟩;exact ⟨by rw [e],z⟩
 ·rw [if_neg c,tot_out c]
  constructor
  ·rintro ⟨e,_⟩;cases e
  ·rintro ⟨e,z⟩;omega
theorem old_val {ds:Ds} {kvs:List (List Key × V)} (h:DictOf ds kvs) (ts:List Int):(valV kvs (ts.map Sum.inl:List Key)).getD (.int 0)=.int (tot ds ts):=by
 rw [h.val ts]
 by_cases c:ts∈ds.map (·.1)
 ·rw [if_pos c];rfl
 ·rw [if_neg c,tot_out c];rfl
noncomputable def spNum:Sp:=fun vs H Q _=>∃n:Int,vs=[.int n]/\1<=n/\n<=1000000000/\Q (.bl true) H
noncomputable def spNBS:Sp:=fun vs H Q _=>∃(l:Addr) (ls:Ls) (p:List (List Int)),vs=[.ref l]/\H l=some (.lst (vls ls))/\GoodL H ls/\(∀q∈dsOf ls,q.1∈p)/\p.length < 64 /\
 ∀(d:Addr) (kvs:List (List Key × V)) (H':Hp),H d=none->Same H H'->H' d=some (.dT kvs)->DictOf (dsOf ls) kvs->Q (.ref d) H'
noncomputable def spSF:Sp:=fun vs H Q _=>∃(d:Addr) (kvs:List (List Key × V)),vs=[.ref d]/\H d=some (.dT kvs)/\VD kvs/\kvs.length < 64 /\
 ∀(l:Addr) (ls:Ls) (H':Hp),H l=none->Same H H'->H' l=some (.lst (vls ls))->GoodL H' ls->(dsOf ls).Pairwise (fun x y=>HT.lexLt x.1 y.1=true)->(∀ts n,(ts,n)∈dsOf ls↔valV kvs (ts.map Sum.inl)=some (.int n)/\0 < n)->ls.length < 64->Q (.ref l) H'
noncomputable def spSheetOf:Sp:=fun vs H Q _=>∃(l:Addr) (ls:Ls) (p:List (List Int)),vs=[.ref l]/\H l=some (.lst (vls ls))/\GoodL H ls/\(∀q∈dsOf ls,q.1∈p)/\p.length < 64/\(∀q∈dsOf ls,1<=q.2/\q.2<=1000000000) /\
 ∀(l':Addr) (ls':Ls) (H':Hp),H l'=none->Same H H'->H' l'=some (.lst (vls ls'))->GoodL H' ls'->Sheet (dsOf ls) (dsOf ls')->ls'.length < 64->Q (.ref l') H'
theorem small900 {n:Nat} (h:n<=900):n<=sizeLine:=Nat.le_of_lt (small1000 (by omega))
theorem bit_high {m:Int} {i:Nat} (h0:0<=m) (h:m < 2 ^ i):bit m i=false:=by
 unfold bit
 rw [Int.ediv_eq_zero_of_lt h0 h]
 decide
theorem hands_more {m:Int} {k:Nat} (h0:0<=m) (h:m < 2 ^ k):∀d:Nat,hands (k+d) (bit m)=hands k (bit m)
 | 0=>rfl
 | d+1=>by
   have p:(2:Int) ^ k<=2 ^ (k+d):=by
    have q:2 ^ k<=2 ^ (k+d):=Nat.pow_le_pow_right (by decide) (by omega)
    have e1:((2 ^ k:Nat):Int)=(2:Int) ^ k:=by simp
    have e2:((2 ^ (k+d):Nat):Int)=(2:Int) ^ (k+d):=by simp
    omega
   show hands ((k+d)+1) (bit m)=hands k (bit m)
   rw [hands_succ,bit_high h0 (by omega),if_neg (by decide),hands_more h0 h d]
theorem bits_all {m:Int} (h0:0<=m) (h:m < 4096):hands (Builtin.Int.intBits m) (bit m)=hands 12 (bit m):=by
 have b:Builtin.Int.intBits m<=12:=intBits_le_iff.mpr (by show m.natAbs < 4096;omega)
 have l:m.natAbs < 2 ^ Builtin.Int.intBits m:=intBits_le_iff.mp (Nat.le_refl _)
 have l':m < (2:Int) ^ Builtin.Int.intBits m:=by
  have e:((2 ^ Builtin.Int.intBits m:Nat):Int)=(2:Int) ^ Builtin.Int.intBits m:=by simp
  omega
 obtain ⟨d,hd⟩:∃d,12=Builtin.Int.intBits m+d:=⟨12 - Builtin.Int.intBits m,by omega⟩
 rw [hd,hands_more h0 l' d]
theorem none_of' {H H':Hp} {a:Addr} (s:Same H H') (h:H' a=none):H a=none:=by
 cases e:H a with
 | none=>rfl
 | some u=>rw [s _ _ e] at h;cases h
noncomputable def rk (ts:List Int) (h:Nat):Nat->Int
 | 0=>0
 | i+1=>if bit (ts.getD i 0) h=true then (i:Int)+1 else rk ts h i
noncomputable def ranksOf (ts:List Int) (n:Nat):List Int:=(List.range n).map fun h=>rk ts h ts.length
theorem ixN_nat {n i:Nat} (h:i < n):ixN n (i:Int)=some i:=by
 unfold ixN
 rw [if_pos (by omega)]
 simp [h]
theorem set_range {n k:Nat} (f:Nat->Int) (v:Int) (hk:k < n):((List.range n).map f).set k v=(List.range n).map fun h=>if h=k then v else f h:=by
 apply List.ext_getElem
 ·simp
 ·intro i h1 h2
  rw [List.getElem_set]
  by_cases c:k=i
  ·subst c;simp
  ·rw [if_neg c];simp [Ne.symm c]
theorem bit_tier {rs:List Int} {h:Nat} {c:Int} (u:Int) (e:rs[h]?=some c):bit (tierOf rs u) h=decide (c=u):=by
 obtain ⟨hi,_⟩:=List.getElem?_eq_some_iff.mp e
 unfold tierOf
 rw [bit_msum,decide_eq_true hi,Bool.true_and]
 unfold isR
 rw [e]
 by_cases z:c=u
 ·rw [decide_eq_true z,decide_eq_true (by rw [z])]
 ·rw [decide_eq_false z,decide_eq_false (fun y=>z (Option.some.inj y))]
theorem idx_get:∀{us:List Int} {i:Nat} {c:Int},us.Nodup->us[i]?=some c->us.idxOf c=i
 | [],i,c,_,h=>by cases h
 | u :: us,0,c,_,h=>by
   cases Option.some.inj h
   exact List.idxOf_cons_self
 | u :: us,i+1,c,nd,h=>by
   rw [List.nodup_cons] at nd
   have h':us[i]?=some c:=h
   have ne:u≠c:=fun e=>nd.1 (e ▸ List.mem_of_getElem? h')
   rw [List.idxOf_cons,show (u == c)=false from by simpa using ne,idx_get nd.2 h']
   rfl
theorem rk_us {rs us:List Int} {h:Nat} {c:Int} (nd:us.Nodup) (e:rs[h]?=some c):∀i,i<=us.length->rk (us.map (tierOf rs)) h i=if c∈us.take i then (us.idxOf c:Int)+1 else 0
 | 0,_=>rfl
 | i+1,hi=>by
   obtain ⟨u,hu⟩:∃u,us[i]?=some u:=⟨_,List.getElem?_eq_getElem (by omega)⟩
   have et:us.take (i+1)=us.take i++[u]:=by rw [List.take_succ,hu];rfl
   have ig:=idx_get nd hu
   show (if bit ((us.map (tierOf rs)).getD i 0) h=true then (i:Int)+1 else rk (us.map (tierOf rs)) h i)=_
   rw [List.getD_eq_getElem?_getD,List.getElem?_map,hu,Option.map_some,Option.getD_some,bit_tier u e,rk_us nd e i (by omega),et]
   by_cases z:c=u
   ·rw [if_pos (decide_eq_true z),if_pos (by simp [z]),z,ig]
   ·rw [if_neg (by simpa using z)]
    by_cases m:c∈us.take i
    ·rw [if_pos m,if_pos (List.mem_append_left _ m)]
    ·rw [if_neg m,if_neg (by simp [m,z])]
noncomputable def pos' (rs:List Int):List Int:=(sset rs).filter fun r=>decide (0 < r)
theorem pos_nodup (rs:List Int):(pos' rs).Nodup:=((sset_rise rs).filter _).imp fun h e=>by rw [e] at h;exact Int.lt_irrefl _ h
theorem ranks_is (rs:List Int) {h:Nat} {c:Int} (e:rs[h]?=some c):rk (tiersOf rs) h (tiersOf rs).length=if c∈pos' rs then ((pos' rs).idxOf c:Int)+1 else 0:=by
 have:=rk_us (pos_nodup rs) e (pos' rs).length (Nat.le_refl _)
 rw [List.take_of_length_le (Nat.le_refl _)] at this
 have l:(tiersOf rs).length=(pos' rs).length:=List.length_map ..
 rw [l]
 exact this
structure Gapless (rs:List Int) (m:Nat):Prop where
 low:∀r∈rs,0<=r
 all:∀z:Int,0 < z->(z∈rs↔z<=m)
theorem rise_range (m:Nat):((List.range m).map fun j:Nat=>(j:Int)+1).Pairwise (· < ·):=by
 rw [List.pairwise_map]
 exact List.pairwise_lt_range.imp fun h=>by omega
theorem Gapless.pos {rs:List Int} {m:Nat} (g:Gapless rs m):pos' rs=(List.range m).map fun j:Nat=>(j:Int)+1:=by
 refine rise_uniq ((sset_rise rs).filter _) (rise_range m) fun z=>?_
 unfold pos'
 rw [List.mem_filter,sset_mem,decide_eq_true_eq,List.mem_map]
 constructor
 ·rintro ⟨h1,h2⟩
  have:=(g.all z h2).mp h1
  exact ⟨(z - 1).toNat,List.mem_range.mpr (by omega),by omega⟩
 ·rintro ⟨j,hj,rfl⟩
  have:=List.mem_range.mp hj
  exact ⟨(g.all _ (by omega)).mpr (by omega),by omega⟩
theorem Gapless.tiers {rs:List Int} {m:Nat} (g:Gapless rs m):tiersOf rs=(List.range m).map fun j:Nat=>tierOf rs ((j:Int)+1):=by
 show (pos' rs).map (tierOf rs)=_
 rw [g.pos,List.map_map]
 rfl
theorem Gapless.ranks {rs:List Int} {m:Nat} (g:Gapless rs m):ranksOf (tiersOf rs) rs.length=rs:=by
 apply List.ext_getElem
 ·unfold ranksOf;rw [List.length_map,List.length_range]
 ·intro i h1 h2
  have e:rs[i]?=some rs[i]:=List.getElem?_eq_getElem h2
  have hg:(ranksOf (tiersOf rs) rs.length)[i]=rk (tiersOf rs) i (tiersOf rs).length:=by simp [ranksOf]
  rw [hg,ranks_is rs e]
  have c0:=g.low _ (List.getElem_mem h2)
  have cm:=List.getElem_mem h2
  generalize rs[i]=c at c0 cm e ⊢
  by_cases z:c=0
  ·rw [if_neg,z]
   unfold pos'
   rw [List.mem_filter,decide_eq_true_eq]
   omega
  ·have cp:0 < c:=by omega
   have le:=(g.all c cp).mp cm
   have ig:=idx_get (pos_nodup rs) (i:=(c - 1).toNat) (c:=c) (by
    rw [g.pos,List.getElem?_map,List.getElem?_range (by omega)]
    show some ((((c - 1).toNat:Nat):Int)+1)=some c
    rw [show (((c - 1).toNat:Nat):Int)+1=c by omega])
   rw [if_pos,ig]
   ·omega
   ·unfold pos'
    rw [List.mem_filter,decide_eq_true_eq,sset_mem]
    exact ⟨cm,cp⟩
theorem tiers_in {rs:List Int}:∀t∈tiersOf rs,0<=t/\t < 2 ^ rs.length:=fun t m=>by
 obtain ⟨r,_,rfl⟩:=List.mem_map.mp m
 exact ⟨msum_nonneg _ _,msum_lt _ _⟩
theorem tiers_len (rs:List Int):(tiersOf rs).length<=rs.length:=by
 unfold tiersOf
 rw [List.length_map]
 exact Nat.le_trans (List.length_filter_le _ _) (sset_len rs)
noncomputable def spRanksOf:Sp:=fun vs H Q _=>∃(t:Addr) (ts:List Int) (n:Nat),vs=[.ref t,.int (n:Int)]/\H t=some (.tup (ts.map V.int))/\n<=12/\(∀x∈ts,0<=x/\x < 2 ^ n) /\
 ∀(l:Addr) (H':Hp),H l=none->Same H H'->H' l=some (.lst ((ranksOf ts n).map V.int))->Q (.ref l) H'
noncomputable def codeL (c:Int):List Int->Int
 | []=>c
 | r :: rs=>codeL (c*13+r) rs
theorem code_snoc (r:Int):∀(rs:List Int) (c:Int),codeL c (rs++[r])=codeL c rs*13+r
 | [],_=>rfl
 | q :: rs,c=>code_snoc r rs (c*13+q)
theorem code_in:∀{rs:List Int} {c:Int},0<=c->(∀r∈rs,0<=r/\r<=12)->0<=codeL c rs/\codeL c rs+1<=13 ^ rs.length*(c+1)
 | [],c,h,_=>⟨h,by show c+1<=1*(c+1);omega⟩
 | q :: rs,c,h,hr=>by
   have hq:=hr q (List.mem_cons_self ..)
   have ih:=code_in (rs:=rs) (c:=c*13+q) (by omega) fun r m=>hr r (List.mem_cons_of_mem _ m)
   refine ⟨ih.1,Int.le_trans ih.2 ?_⟩
   show 13 ^ rs.length*(c*13+q+1)<=13 ^ (rs.length+1)*(c+1)
   rw [Int.pow_succ,Int.mul_assoc]
   exact Int.mul_le_mul_of_nonneg_left (by omega) (Int.pow_nonneg (by decide))
theorem code_lt {rs:List Int} {c:Int} (h0:0<=c) (h1:c<=2000000000) (hr:∀r∈rs,0<=r/\r<=12) (hl:rs.length<=12):0<=codeL c rs/\codeL c rs < 10 ^ 40:=by
 obtain ⟨a,b⟩:=code_in h0 hr
 refine ⟨a,?_⟩
 have p:(13:Int) ^ rs.length<=13 ^ 12:=by
  have q:13 ^ rs.length<=13 ^ 12:=Nat.pow_le_pow_right (by decide) hl
  have e:((13 ^ rs.length:Nat):Int)=(13:Int) ^ rs.length:=by simp
  have f:((13 ^ 12:Nat):Int)=(13:Int) ^ 12:=by simp
  omega
 have m:=Int.mul_le_mul p (show c+1<=2000000001 by omega) (by omega) (show (0:Int)<=13 ^ 12 by decide)
 have e:(13:Int) ^ 12*2000000001 < 10 ^ 40:=by decide
 omega
theorem nodup_ints (n:Nat):((List.range n).map fun j:Nat=>(j:Int)).Nodup:=List.pairwise_map.mpr ((List.pairwise_lt_range (n:=n)).imp fun h e=>by omega)
theorem gap_perm {os:List Int} {n:Nat} (hp:os.Perm ((List.range n).map fun j:Nat=>(j:Int))):Gapless ((List.range n).map fun h:Nat=>1+((os.idxOf (h:Int):Nat):Int)) n/\∀r∈(List.range n).map fun h:Nat=>1+((os.idxOf (h:Int):Nat):Int),r<=n:=by
 have nd:os.Nodup:=hp.nodup_iff.mpr (nodup_ints n)
 have ln:os.length=n:=by rw [hp.length_eq,List.length_map,List.length_range]
 have lt:∀h:Nat,h < n->os.idxOf (h:Int) < n:=fun h hh=>by
  have:(h:Int)∈os:=hp.mem_iff.mpr (List.mem_map.mpr ⟨h,List.mem_range.mpr hh,rfl⟩)
  have:=List.idxOf_lt_length_iff.mpr this
  omega
 refine ⟨⟨fun r m=>?_,fun z z0=>⟨fun m=>?_,fun h=>?_⟩⟩,fun r m=>?_⟩
 ·obtain ⟨h,_,rfl⟩:=List.mem_map.mp m
  omega
 ·obtain ⟨h,hh,rfl⟩:=List.mem_map.mp m
  have:=lt h (List.mem_range.mp hh)
  omega
 ·have hz:(z - 1).toNat < os.length:=by omega
  have e:os[(z - 1).toNat]?=some os[(z - 1).toNat]:=List.getElem?_eq_getElem hz
  obtain ⟨h,hh,eh⟩:=List.mem_map.mp (hp.mem_iff.mp (List.mem_of_getElem? e))
  have ix:=idx_get nd e
  refine List.mem_map.mpr ⟨h,hh,?_⟩
  have eh':(h:Int)=os[(z - 1).toNat]:=eh
  rw [eh',ix]
  omega
 ·obtain ⟨h,hh,rfl⟩:=List.mem_map.mp m
  have:=lt h (List.mem_range.mp hh)
  omega
theorem gap_idx {raw us:List Int} (ri:us.Pairwise (· < ·)) (me:∀z,z∈us↔z∈raw++[0]) (pos:∀r∈raw,0<=r):Gapless (raw.map fun r=>((us.idxOf r:Nat):Int)) (us.length - 1):=by
 have nd:us.Nodup:=ri.imp fun h e=>by rw [e] at h;exact Int.lt_irrefl _ h
 have z0:us[0]?=some 0:=by
  have m0:(0:Int)∈us:=(me 0).mpr (by simp)
  cases us with
  | nil=>cases m0
  | cons u t =>
    have hu:=(me u).mp (List.mem_cons_self ..)
    have u0:0<=u:=by
     rcases List.mem_append.mp hu with h | h
     ·exact pos u h
     ·rw [List.mem_singleton.mp h];exact Int.le_refl _
    rcases List.mem_cons.mp m0 with e | e
    ·rw [<- e];rfl
    ·have:=(List.pairwise_cons.mp ri).1 0 e
     omega
 refine ⟨fun r m=>?_,fun z zp=>⟨fun m=>?_,fun h=>?_⟩⟩
 ·obtain ⟨h,_,rfl⟩:=List.mem_map.mp m
  omega
 ·obtain ⟨h,hh,rfl⟩:=List.mem_map.mp m
  have:=List.idxOf_lt_length_iff.mpr ((me h).mpr (List.mem_append_left _ hh))
  omega
 ·have hz:z.toNat < us.length:=by omega
  have e:us[z.toNat]?=some us[z.toNat]:=List.getElem?_eq_getElem hz
  generalize us[z.toNat]=u at e
  have ix:=idx_get nd e
  have ne:u≠0:=fun c=>by
   have:=idx_get nd z0
   rw [c] at ix
   omega
  refine List.mem_map.mpr ⟨u,?_,by rw [ix];omega⟩
  rcases List.mem_append.mp ((me u).mp (List.mem_of_getElem? e)) with k | k
  ·exact k
  ·exact absurd (List.mem_singleton.mp k) ne
theorem code_off {rs:List Int} {c:Int} {i:Nat} (hi:i < rs.length) (hr:∀r∈rs,0<=r/\r<=12) :
 ∃r,0<=r/\r<=12/\codeL c (rs.take (rs.length - i))=codeL c (rs.take (rs.length - (i+1)))*13+r/\(rs.drop (rs.length - (i+1))).reverse=(rs.drop (rs.length - i)).reverse++[r]:=by
 have h1:rs.length - i=(rs.length - (i+1))+1:=by omega
 have h2:rs.length - (i+1) < rs.length:=by omega
 rw [h1]
 generalize rs.length - (i+1)=k at h2
 have e:rs[k]?=some rs[k]:=List.getElem?_eq_getElem h2
 have m:=hr rs[k] (List.getElem_mem h2)
 refine ⟨rs[k],m.1,m.2,?_,?_⟩
 ·rw [List.take_succ,e]
  exact code_snoc _ _ _
 ·rw [List.drop_eq_getElem_cons h2,List.reverse_cons]
theorem off13 {a r:Int} (h0:0<=r) (h1:r<=12):(a*13+r).fmod 13=r/\(a*13+r).fdiv 13=a:=by
 rw [Int.fmod_eq_emod_of_nonneg _ (by decide),Int.fdiv_eq_ediv_of_nonneg _ (by decide)]
 omega
theorem max_gap {rs:List Int} {m:Nat} {M:Int} (g:Gapless rs m) (h1:M∈rs) (h2:∀z∈rs,z<=M):M=m:=by
 have:=g.low M h1
 by_cases c:0 < M
 ·have a:=(g.all M c).mp h1
  have b:=(g.all (m:Int) (by omega)).mpr (Int.le_refl _)
  have:=h2 _ b
  omega
 ·cases m with
  | zero=>omega
  | succ k =>
    have b:=(g.all ((k+1:Nat):Int) (by omega)).mpr (Int.le_refl _)
    have:=h2 _ b
    omega
theorem cut13:∀(n:Nat) (z:Int),∃(q:Int) (rs:List Int),rs.length=n/\(∀r∈rs,0<=r/\r<=12)/\z=codeL q rs/\(z < 0->q < 0)
 | 0,z=>⟨z,[],rfl,(fun _ m=>nomatch m),rfl,id⟩
 | n+1,z=>by
   obtain ⟨q,rs,h1,h2,h3,h4⟩:=cut13 n (z / 13)
   refine ⟨q,rs++[z % 13],by rw [List.length_append,h1];rfl,fun r m=>?_,?_,fun h=>h4 (by omega)⟩
   ·rcases List.mem_append.mp m with m | m
    ·exact h2 r m
    ·rw [List.mem_singleton.mp m];omega
   ·rw [code_snoc,<- h3];omega
theorem gap_of_ranks {rs:List Int} (low:∀r∈rs,0<=r) (h:ranksOf (tiersOf rs) rs.length=rs):Gapless rs (pos' rs).length:=by
 have mp:∀c,c∈pos' rs↔c∈rs/\0 < c:=fun c=>by unfold pos';rw [List.mem_filter,decide_eq_true_eq,sset_mem]
 have key:∀c∈rs,0 < c->(((pos' rs).idxOf c:Nat):Int)+1=c:=fun c m cp=>by
  obtain ⟨i,hi,e⟩:=List.getElem_of_mem m
  have e':rs[i]?=some c:=by rw [<- e];exact List.getElem?_eq_getElem hi
  have hg:(ranksOf (tiersOf rs) rs.length)[i]?=some (rk (tiersOf rs) i (tiersOf rs).length):=by simp [ranksOf,hi]
  rw [h,e',ranks_is rs e',if_pos ((mp c).mpr ⟨m,cp⟩)] at hg
  exact (Option.some.inj hg).symm
 refine ⟨low,fun z zp=>⟨fun m=>?_,fun le=>?_⟩⟩
 ·have:=key z m zp
  have:=List.idxOf_lt_length_iff.mpr ((mp z).mpr ⟨m,zp⟩)
  omega
 ·have hz:(z - 1).toNat < (pos' rs).length:=by omega
  have e:(pos' rs)[(z - 1).toNat]?=some (pos' rs)[(z - 1).toNat]:=List.getElem?_eq_getElem hz
  generalize (pos' rs)[(z - 1).toNat]=u at e
  have um:=(mp u).mp (List.mem_of_getElem? e)
  have k:=key u um.1 um.2
  rw [idx_get (pos_nodup rs) e] at k
  have:z=u:=by omega
  rw [this]
  exact um.1
noncomputable def spCodeOf:Sp:=fun vs H Q _=>∃(p t:Addr) (ts:List Int) (c:Int) (n:Nat),vs=[.ref p,.int (n:Int)]/\H p=some (.tup [.ref t,.int c])/\H t=some (.tup (ts.map V.int))/\n<=12/\(∀x∈ts,0<=x/\x < 2 ^ n)/\0<=c/\c<=1000000000/\(∀r∈ranksOf ts n,0<=r/\r<=12) /\
 ∀H':Hp,Same H H'->Q (.int (codeL c (ranksOf ts n))) H'
theorem pick4 {x0 x1 x2 x3:Int} (P:Int->Prop) (m:Int) (h0:0<=m) (h4:m < 4) (p0:P x0) (p1:P x1) (p2:P x2) (p3:P x3):∃v,atI [V.int x0,V.int x1,V.int x2,V.int x3] m=some (.int v)/\P v:=by
 rcases (by omega:m=0\/m=1\/m=2\/m=3) with rfl | rfl | rfl | rfl
 ·exact ⟨x0,rfl,p0⟩
 ·exact ⟨x1,rfl,p1⟩
 ·exact ⟨x2,rfl,p2⟩
 ·exact ⟨x3,rfl,p3⟩
noncomputable def spRanks31:Sp:=fun vs H Q _=>∃(c:Int) (n:Nat),vs=[.int c,.int (n:Int)]/\0<=c/\c < 10 ^ 40/\1<=n/\n<=12 /\
 ∀(l:Addr) (rs:List Int) (m:Nat) (H':Hp),H l=none->Same H H'->H' l=some (.lst (rs.map V.int))->rs.length=n->Gapless rs m->(∀r∈rs,0<=r/\r<=12)->Q (.ref l) H'
noncomputable def spSlip31:Sp:=fun vs H Q _=>∃(p:Addr) (rs:List Int) (m:Nat),vs=[.ref p]/\H p=some (.lst (rs.map V.int))/\0 < rs.length/\rs.length<=12/\(∀r∈rs,0<=r/\r<=12)/\Gapless rs m /\
 ∀(t:Addr) (H':Hp),Same H H'->H' t=some (.tup ((tiersOf rs).map V.int))->Q (.ref t) H'
noncomputable def spCode31:Sp:=fun vs H Q _=>∃(p:Addr) (rs:List Int) (c:Int),vs=[.ref p,.int c]/\H p=some (.lst (rs.map V.int))/\rs.length<=12/\(∀r∈rs,0<=r/\r<=12)/\0<=c/\c<=2000000000/\Q (.int (codeL c rs)) H
noncomputable def spMany31:Sp:=fun vs H Q _=>∃(c k:Int),vs=[.int c,.int k]/\0<=c/\c < 10 ^ 40/\0<=k/\k<=900/\∀(z:Int) (H':Hp),1<=z->z<=1000000000->Same H H'->Q (.int z) H'
noncomputable def spLine31:Sp:=fun vs H Q _=>∃(p q t u:Addr) (ts:List Int) (c:Int),vs=[.ref p,.ref q]/\ts.length<=12/\H p=some (.tup [.ref t,.int c])/\H t=some (.tup (ts.map V.int))/\H q=some (.tup [.ref u,.int c])/\H u=some (.tup (ts.map V.int))/\∀H':Hp,Same H H'->Q (.bl true) H'
theorem shape_line (ts:List Int) (c:Int):SeqAt.shaped (.tuple [.tuple (ts.map .int),.int c])=true:=by
 obtain ⟨h1,h2⟩:=lay_ints ts
 unfold SeqAt.shaped
 rw [Bool.and_eq_true]
 refine ⟨?_,decide_eq_true ?_⟩
 ·show (PyData.canLayAll0 (ts.map .int) && (true && true))=true
  rw [h1];rfl
 ·show max (PyData.depthAll (ts.map .int)+1) (max 0 0)+1<=64
  omega
theorem eqv_line (ts:List Int) (c:Int):PyData.eqv (.tuple [.tuple (ts.map .int),.int c]) (.tuple [.tuple (ts.map .int),.int c])=true:=by
 show (PyData.eqvAll (ts.map .int) (ts.map .int) && ((c == c) && true))=true
 rw [eqv_ints,decide_eq_true rfl,beq_self_eq_true]
 rfl
noncomputable def ws (f:Int->Int):Int->List Int->Int
 | _,[]=>0
 | k,c :: cs=>c*f (k+1)+ws f (k+1) cs
noncomputable def f1 (_:Int):Int:=1
noncomputable def f2 (p:Int):Int:=p
noncomputable def f3 (p:Int):Int:=p*p
noncomputable def sealL (cs:List Int):List Int:=[(cs.length:Int),ws f1 0 cs,ws f2 0 cs,ws f3 0 cs]
theorem ws_snoc (f:Int->Int):∀(k:Int) (cs:List Int) (c:Int),ws f k (cs++[c])=ws f k cs+c*f (k+cs.length+1)
 | k,[],c=>by
   show c*f (k+1)+0=0+c*f (k+0+1)
   rw [Int.add_zero,Int.add_zero,Int.zero_add]
 | k,d :: cs,c=>by
   show d*f (k+1)+ws f (k+1) (cs++[c])=d*f (k+1)+ws f (k+1) cs+c*f (k+((cs.length+1:Nat):Int)+1)
   rw [ws_snoc f (k+1) cs c]
   have e:k+1+(cs.length:Int)+1=k+((cs.length+1:Nat):Int)+1:=by omega
   rw [e]
   exact (Int.add_assoc ..).symm
theorem ws_set (f:Int->Int):∀(k:Int) (cs:List Int) (i:Nat) (c d:Int),cs[i]?=some c->ws f k (cs.set i (c+d))=ws f k cs+d*f (k+i+1)
 | k,[],i,c,d,h=>by simp at h
 | k,b :: cs,0,c,d,h=>by
   have e:b=c:=by simpa using h
   subst e
   show (b+d)*f (k+1)+ws f (k+1) cs=b*f (k+1)+ws f (k+1) cs+d*f (k+0+1)
   rw [Int.add_zero,Int.add_mul]
   omega
 | k,b :: cs,i+1,c,d,h=>by
   show b*f (k+1)+ws f (k+1) (cs.set i (c+d))=b*f (k+1)+ws f (k+1) cs+d*f (k+((i+1:Nat):Int)+1)
   rw [ws_set f (k+1) cs i c d (by simpa using h)]
   have e:k+1+(i:Int)+1=k+((i+1:Nat):Int)+1:=by omega
   rw [e]
   exact (Int.add_assoc ..).symm
noncomputable def SzAll (cs:List Int):Prop:=∀c∈cs,Sz 300 c
noncomputable def placeI (x0 x1 x2 n:Int):Int:=if x0=0 then 0 else if x1.fdiv x0 < 1\/n < x1.fdiv x0 then 0 else if x1≠x0*x1.fdiv x0\/x2≠x0*x1.fdiv x0*x1.fdiv x0 then 0 else x1.fdiv x0
theorem place_at {d p n:Int} (h:d≠0) (p1:1<=p) (pn:p<=n):placeI d (d*p) (d*(p*p)) n=p:=by
 unfold placeI
 rw [if_neg h,Int.mul_fdiv_cancel_left p h,if_neg (by omega),if_neg]
 rintro (z | z)
 ·exact z rfl
 ·exact z (Int.mul_assoc ..).symm
noncomputable def spSeal:Sp:=fun vs H Q _=>∃(p:Addr) (cs:List Int),vs=[.ref p]/\H p=some (.lst (cs.map V.int))/\SzAll cs/\cs.length<=100/\∀(t:Addr) (H':Hp),H t=none->Same H H'->H' t=some (.tup ((sealL cs).map V.int))->Q (.ref t) H'
noncomputable def spPlace:Sp:=fun vs H Q _=>∃(p:Addr) (x0 x1 x2 n:Int),vs=[.ref p,.int n]/\H p=some (.lst [.int x0,.int x1,.int x2])/\Sz 1000 x0/\Sz 1000 x1/\Q (.int (placeI x0 x1 x2 n)) H
noncomputable def off (H:Hp) (D:Addr):Hp:=fun b=>if b=D then none else H b
theorem off_le (H:Hp) (D:Addr):Same (off H D) H:=fun b o e=>by
 unfold off at e
 split at e
 ·cases e
 ·exact e
theorem off_at {H:Hp} {D b:Addr} {o:HO} (e:H b=some o) (n:b≠D):off H D b=some o:=by
 unfold off
 rw [if_neg n]
 exact e
theorem off_self {H:Hp} {D:Addr}:off H D D=none:=by unfold off;rw [if_pos rfl]
theorem off_put {H H':Hp} {D:Addr} {o:HO} (s:Same (off H D) H'):Same (off H D) (upd H' D o):=fun b u e=>by
 rw [upd_ne (fun z=>by rw [z,off_self] at e;cases e)]
 exact s _ _ e
theorem off_of {H0 H:Hp} {D:Addr} (s:Same H0 H) (n:H0 D=none):Same H0 (off H D):=fun b o e=>off_at (s _ _ e) fun z=>by rw [z,n] at e;cases e
theorem small1000' {n:Nat} (h:n<=999):n<=sizeLine:=Nat.le_of_lt (small1000 (by omega))
theorem flat_rep (n:Nat):(List.replicate n [V.int 0]).flatten=(List.replicate n (0:Int)).map V.int:=by
 induction n with
 | zero=>rfl
 | succ n ih=>rw [List.replicate_succ,List.flatten_cons,ih];rfl
theorem Sheet.keys {ds out:Ds} (h:Sheet ds out) {p:List (List Int)} (hp:∀q∈ds,q.1∈p):∀q∈out,q.1∈p:=fun q m=>by
 have k:=(h.mem q.1 q.2).mp m
 by_cases c:q.1∈ds.map (·.1)
 ·obtain ⟨r,rm,e⟩:=List.mem_map.mp c
  rw [<- e]
  exact hp r rm
 ·rw [tot_out c] at k
  omega
theorem cut_drop {xs:List V} {j:Nat}:cutV xs (some (j:Int)) none=xs.drop j:=by
 unfold cutV
 rw [HT.sIx_none,HT.sIx_nat]
 by_cases h:j<=xs.length
 ·rw [Nat.min_eq_left h]
  exact List.take_of_length_le (by rw [List.length_drop];exact Nat.le_refl _)
 ·rw [Nat.min_eq_right (by omega),List.drop_of_length_le (Nat.le_refl _),List.drop_of_length_le (by omega)]
  exact List.take_nil
theorem own_bit (m:Int) (h:Nat):decide (V.int ((m.fdiv (1*2 ^ h)).fmod 2)=V.int 1)=bit m h:=by
 have p:(0:Int)<=1*2 ^ h:=by rw [Int.one_mul];exact Int.le_of_lt (Int.pow_pos (by decide))
 unfold bit
 rw [Int.fdiv_eq_ediv_of_nonneg m p,Int.fmod_eq_emod_of_nonneg _ (by decide),Int.one_mul]
 by_cases c:m / 2 ^ h % 2=1
 ·rw [decide_eq_true c,decide_eq_true (congrArg V.int c)]
 ·rw [decide_eq_false c,decide_eq_false fun e=>c (V.int.inj e)]
theorem pow_div {i:Nat} (h:i < 64):(1:Int)*2 ^ i≠0/\Sz 9000 ((1:Int)*2 ^ i):=by
 have p:(0:Int) < 2 ^ i:=Int.pow_pos (by decide)
 have e:(2:Int) ^ i=((2 ^ i:Nat):Int):=by simp
 have l:2 ^ i < 2 ^ 64:=Nat.pow_lt_pow_right (by decide) h
 refine ⟨by rw [Int.one_mul];omega,?_⟩
 rw [Int.one_mul,e]
 exact (show Sz 64 ((2 ^ i:Nat):Int) from l).mono (by decide)
noncomputable def OkS (n:Nat) (ts:List Int):Prop:=∃rs m,ts=tiersOf rs/\rs.length=n/\Gapless rs m/\∀r∈rs,0<=r/\r<=12
noncomputable def OkDs (n:Nat) (p:List (List Int)) (ds:Ds):Prop:=∀q∈ds,q.1∈p/\1<=q.2/\q.2<=1000000000/\OkS n q.1
noncomputable def codesN (n:Nat) (ds:Ds):List Int:=ds.map fun q=>codeL q.2 (ranksOf q.1 n)
theorem OkS.ranks {n:Nat} {ts:List Int} (h:OkS n ts):∃rs m,ranksOf ts n=rs/\ts=tiersOf rs/\rs.length=n/\Gapless rs m/\(∀r∈rs,0<=r/\r<=12)/\∀x∈ts,0<=x/\x < 2 ^ n:=by
 obtain ⟨rs,m,rfl,rfl,g,r12⟩:=h
 exact ⟨rs,m,g.ranks,rfl,rfl,g,r12,tiers_in⟩
theorem OkS.len {n:Nat} {ts:List Int} (h:OkS n ts):ts.length<=n:=by
 obtain ⟨rs,m,rfl,rfl,g,r12⟩:=h
 exact tiers_len rs
theorem codes_sz {n:Nat} {p:List (List Int)} {ds:Ds} (n12:n<=12) (h:OkDs n p ds):SzAll (codesN n ds):=fun c m=>by
 obtain ⟨q,qm,rfl⟩:=List.mem_map.mp m
 obtain ⟨_,q1,q9,ok⟩:=h q qm
 obtain ⟨rs,m,e,_,l,_,r12,_⟩:=ok.ranks
 show Sz 300 (codeL q.2 (ranksOf q.1 n))
 rw [e]
 have k:=code_lt (c:=q.2) (by omega) (by omega) r12 (by omega)
 exact sz_of (by omega) (by omega)
theorem codes_len (n:Nat) (ds:Ds):(codesN n ds).length=ds.length:=List.length_map ..
abbrev fsB (n:Int) (L:Addr):List (Str × V):=[("hands",.int n),("bundles",.ref L)]
theorem putB1 (x:V):putF "hands" x []=([("hands",x)]:List (Str × V)):=rfl
theorem putB2 (x y:V):putF "bundles" y [("hands",x)]=([("hands",x),("bundles",y)]:List (Str × V)):=by
 unfold putF;rw [if_neg (by decide)];rfl
structure IsB (C:Addr) (H:Hp) (b L:Addr) (n:Nat) (bs:List (Addr × Ls)):Prop where
 at_:∃dx,H b=some (.ins C dx (fsB (n:Int) L))
 lst:H L=some (.lst (bs.map fun x=>V.ref x.1))
 lies:∀x∈bs,H x.1=some (.lst (vls x.2))/\GoodL H x.2
 ne:∀x∈bs,x.1≠L
theorem IsB.same {C:Addr} {H H':Hp} {b L:Addr} {n:Nat} {bs:List (Addr × Ls)} (s:Same H H') (h:IsB C H b L n bs):IsB C H' b L n bs:=by
 obtain ⟨⟨dx,h1⟩,h2,h3,h4⟩:=h
 exact ⟨⟨dx,s _ _ h1⟩,s _ _ h2,fun x m=>⟨s _ _ (h3 x m).1,(h3 x m).2.same s⟩,h4⟩
noncomputable def spMany (C:Addr):Sp:=fun vs H Q _=>∃(b L:Addr) (n:Nat) (bs:List (Addr × Ls)),vs=[.ref b]/\IsB C H b L n bs/\Q (.int (bs.length:Nat)) H
noncomputable def spLinesL:Sp:=fun vs H Q _=>∃(a b:Addr) (ls ms:Ls),vs=[.ref a,.ref b]/\H a=some (.lst (vls ls))/\H b=some (.lst (vls ms))/\GoodL H ls/\GoodL H ms/\dsOf ls=dsOf ms/\ls.length<=900/\(∀q∈ls,q.2.2.1.length<=12)/\∀H':Hp,Same H H'->Q (.bl true) H'
noncomputable def spSheetLaw:Sp:=fun vs H Q _=>∃(l:Addr) (ls:Ls) (p:List (List Int)),vs=[.ref l]/\H l=some (.lst (vls ls))/\GoodL H ls/\(∀q∈dsOf ls,q.1∈p)/\p.length < 64/\Pos (dsOf ls) /\
 ∀(l':Addr) (ls':Ls) (H':Hp),H l'=none->Same H H'->H' l'=some (.lst (vls ls'))->GoodL H' ls'->Sheet (dsOf ls) (dsOf ls')->ls'.length < 64->Q (.ref l') H'
noncomputable def spCodesOf:Sp:=fun vs H Q _=>∃(l:Addr) (ls:Ls) (n:Nat) (p:List (List Int)),vs=[.ref l,.int (n:Int)]/\H l=some (.lst (vls ls))/\GoodL H ls/\OkDs n p (dsOf ls)/\n<=12/\ls.length<=900 /\
 ∀(c:Addr) (H':Hp),H c=none->Same H H'->H' c=some (.lst ((codesN n (dsOf ls)).map V.int))->Q (.ref c) H'
noncomputable def spSealIs:Sp:=fun vs H Q _=>∃(a b:Addr) (ns:List Int),vs=[.ref a,.ref b]/\H a=some (.tup (ns.map V.int))/\H b=some (.tup (ns.map V.int))/\ns.length<=60/\∀H':Hp,Same H H'->Q (.bl true) H'
theorem kan_nil {K:PySem.W.Frag} {t:Value}:PySem.W.kitAny K t []=some false:=rfl
theorem kan {K:PySem.W.Frag} {t c:Value} {cs:List Value} (h:PySem.W.kitOne K t c=some false) (r:PySem.W.kitAny K t cs=some false):PySem.W.kitAny K t (c :: cs)=some false:=by
 unfold PySem.W.kitAny
 rw [h]
 exact r
theorem two_apart {a b i j p:Int} (ha:a≠0) (hb:b≠0) (hij:i≠j) (h1:a*i+b*j=(a+b)*p) (h2:a*(i*i)+b*(j*j)=(a+b)*p*p):False:=by
 have e1:a*(i - p)+b*(j - p)=0:=by
  rw [Int.mul_sub,Int.mul_sub]
  rw [Int.add_mul] at h1
  omega
 have e2:a*(i - p)*(i+p)+b*(j - p)*(j+p)=0:=by
  have x:∀c y:Int,c*(y - p)*(y+p)=c*(y*y) - c*p*p:=fun c y=>by
   rw [Int.mul_assoc,Int.sub_mul,Int.mul_add,Int.mul_add,Int.mul_comm p y,Int.mul_assoc,<- Int.mul_sub]
   congr 1
   omega
  rw [x,x]
  rw [Int.add_mul,Int.add_mul] at h2
  omega
 have e3:b*(j - p)=-(a*(i - p)):=by omega
 rw [e3,Int.neg_mul,<- Int.sub_eq_add_neg,<- Int.mul_sub] at e2
 have e4:i+p - (j+p)≠0:=by omega
 rcases Int.mul_eq_zero.mp e2 with z | z
 ·rcases Int.mul_eq_zero.mp z with z | z
  ·exact ha z
  ·rw [z,Int.mul_zero,Int.neg_zero] at e3
   rcases Int.mul_eq_zero.mp e3 with y | y
   ·exact hb y
   ·omega
 ·exact e4 z
theorem place_two {a b i j n:Int} (ha:a≠0) (hb:b≠0) (hij:i≠j):placeI (-(a+b)) (-(a*i+b*j)) (-(a*(i*i)+b*(j*j))) n=0:=by
 unfold placeI
 by_cases z:-(a+b)=0
 ·rw [if_pos z]
 rw [if_neg z]
 generalize (-(a*i+b*j)).fdiv (-(a+b))=p
 split
 ·rfl
 ·split
  ·rfl
  ·rename_i _ h
   exfalso
   have h':=not_or.mp h
   have h1:=Decidable.not_not.mp h'.1
   have h2:=Decidable.not_not.mp h'.2
   refine two_apart (p:=p) ha hb hij ?_ ?_
   ·rw [Int.neg_mul] at h1;omega
   ·rw [Int.neg_mul,Int.neg_mul] at h2;omega
theorem differ_two {a b i j:Int} (ha:a≠0) (hij:i≠j) (h0:a+b=0) (h1:a*i+b*j=0):False:=by
 have e:b=-a:=by omega
 rw [e,Int.neg_mul,<- Int.sub_eq_add_neg,<- Int.mul_sub] at h1
 rcases Int.mul_eq_zero.mp h1 with z | z
 ·exact ha z
 ·omega
theorem rot_ne {n i k:Int} (h0:0<=i) (h1:i < n) (k1:1<=k) (kn:k < n):(i+k).fmod n≠i/\0<=(i+k).fmod n/\(i+k).fmod n < n:=by
 rw [Int.fmod_eq_emod_of_nonneg _ (by omega)]
 have a:=Int.emod_nonneg (i+k) (show n≠0 by omega)
 have b:=Int.emod_lt_of_pos (i+k) (show 0 < n by omega)
 refine ⟨?_,a,b⟩
 by_cases c:i+k < n
 ·rw [Int.emod_eq_of_lt (by omega) c];omega
 ·have e:i+k=(i+k - n)+n:=by omega
  rw [e,Int.add_emod_right,Int.emod_eq_of_lt (by omega) (by omega)]
  omega
theorem ws_sz {f:Int->Int} (hf:∀q:Int,0 < q->q<=101->Sz 14 (f q)):∀(cs:List Int) (k:Int),(∀c∈cs,Sz 300 c)->0<=k->k+cs.length<=101->Sz (314+cs.length) (ws f k cs)
 | [],_,_,_,_=>(szd 1:Sz 1 0).mono (by omega)
 | c :: cs,k,h,k0,hk=>by
   have hl:((c :: cs).length:Int)=(cs.length:Int)+1:=by simp
   have a:=(h c (List.mem_cons_self ..)).mul (hf (k+1) (by omega) (by omega))
   have b:=ws_sz hf cs (k+1) (fun x m=>h x (List.mem_cons_of_mem _ m)) (by omega) (by omega)
   exact (a.add b).mono (by rw [List.length_cons];omega)
theorem f1_sz (q:Int) (_:0 < q) (_:q<=101):Sz 14 (f1 q):=(szd 14:Sz 14 (1:Int))
theorem f2_sz (q:Int) (h:0 < q) (k:q<=101):Sz 14 (f2 q):=sz_of (by show _ < q;omega) (by show q < _;omega)
theorem lack_sz {cs ds:List Int} (h1:SzAll cs) (h2:SzAll ds) (l1:cs.length<=101) (l2:ds.length<=101):Sz 900 (ws f1 0 cs - ws f1 0 ds)/\Sz 900 (ws f2 0 cs - ws f2 0 ds) :=
 ⟨((ws_sz f1_sz cs 0 h1 (by decide) (by omega)).sub (ws_sz f1_sz ds 0 h2 (by decide) (by omega))).mono (by omega),((ws_sz f2_sz cs 0 h1 (by decide) (by omega)).sub (ws_sz f2_sz ds 0 h2 (by decide) (by omega))).mono (by omega)⟩
noncomputable def Torn4 (cs:List Int) (s0 s1 s2 s3:Int):Prop:=sealL cs≠[s0,s1,s2,s3]/\((cs.length:Int)≠s0\/placeI (s1 - ws f1 0 cs) (s2 - ws f2 0 cs) (s3 - ws f3 0 cs) cs.length=0)
theorem torn_two {cs:List Int} {i j:Nat} {ci cj x y:Int} (hi:cs[i]?=some ci) (hj:cs[j]?=some cj) (hij:i≠j) (x0:x≠0) (y0:y≠0):Torn4 ((cs.set i (ci+x)).set j (cj+y)) cs.length (ws f1 0 cs) (ws f2 0 cs) (ws f3 0 cs):=by
 have hj2:(cs.set i (ci+x))[j]?=some cj:=by rw [List.getElem?_set_ne hij];exact hj
 have w:∀f,ws f 0 ((cs.set i (ci+x)).set j (cj+y))=ws f 0 cs+x*f ((i:Int)+1)+y*f ((j:Int)+1):=fun f=>by
  rw [ws_set f 0 _ j cj y hj2,ws_set f 0 cs i ci x hi,Int.zero_add,Int.zero_add]
 have ne:(i:Int)+1≠(j:Int)+1:=by omega
 have g1:ws f1 0 cs - ws f1 0 ((cs.set i (ci+x)).set j (cj+y))=-(x+y):=by rw [w];show _ - (_+x*1+y*1)=_;omega
 have g2:ws f2 0 cs - ws f2 0 ((cs.set i (ci+x)).set j (cj+y))=-(x*((i:Int)+1)+y*((j:Int)+1)):=by rw [w];show _ - (_+x*((i:Int)+1)+y*((j:Int)+1))=_;omega
 have g3:ws f3 0 cs - ws f3 0 ((cs.set i (ci+x)).set j (cj+y))=-(x*(((i:Int)+1)*((i:Int)+1))+y*(((j:Int)+1)*((j:Int)+1))):=by rw [w];show _ - (_+x*(((i:Int)+1)*((i:Int)+1))+y*(((j:Int)+1)*((j:Int)+1)))=_;omega
 refine ⟨fun e=>?_,.inr ?_⟩
 ·unfold sealL at e
  injection e with _ e
  injection e with e1 e
  injection e with e2 e
  refine differ_two (b:=y) x0 ne ?_ ?_
  ·rw [e1] at g1;omega
  ·rw [e2] at g2;omega
 ·rw [g1,g2,g3]
  exact place_two x0 y0 ne
noncomputable def isI:V->Bool
 | .int _=>true
 | _=>false
noncomputable def okTo (top:Int):V->Bool
 | .int n=>decide (1<=n) && decide (n<=top)
 | _=>false
theorem okTo_of {top n:Int} (h1:1<=n) (h2:n<=top):okTo top (.int n)=true:=by
 show (decide (1<=n) && decide (n<=top))=true
 rw [decide_eq_true h1,decide_eq_true h2]
 rfl
noncomputable def spUpTo (K:PySem.W.Frag) (top:Int):Sp:=fun vs H Q _=>∃x,vs=[x]/\Wh K H x (isI x)/\Q (.bl (okTo top x)) H
theorem pickV {xs:List V} {P:V->Prop} (hp:∀x∈xs,P x) {m:Int} (h0:0<=m) (h:m < (xs.length:Int)):∃v,atI xs m=some v/\P v:=by
 obtain ⟨k,rfl⟩:∃k:Nat,m=(k:Int):=⟨m.toNat,by omega⟩
 have hk:k < xs.length:=by omega
 have e:xs[k]?=some xs[k]:=List.getElem?_eq_getElem hk
 exact ⟨xs[k],atI_nat e,hp _ (List.getElem_mem hk)⟩
noncomputable def Bad (K:PySem.W.Frag) (H:Hp) (x:V) (n:Nat):Prop:=Wh K H x false\/∃(q:Int) (rs:List Int),x=.int (codeL q rs)/\rs.length=n/\(∀r∈rs,0<=r/\r<=12)/\(¬ (1<=q/\q<=1000000000)\/ranksOf (tiersOf rs) n≠rs)
noncomputable def spWhX (K:PySem.W.Frag):Sp:=fun vs H Q _=>∃x b,vs=[x]/\Wh K H x b/\Q (.bl b) H
noncomputable def spLineX (K:PySem.W.Frag) (C:Addr):Sp:=fun vs H Q E=>∃(x:V) (n:Nat),vs=[x,.int (n:Int)]/\n<=12 /\
 ((Bad K H x n/\∀H':Hp,Same H H'->E (.ref C) none H')\/∃(q:Int) (rs:List Int) (m:Nat),x=.int (codeL q rs)/\rs.length=n/\(∀r∈rs,0<=r/\r<=12)/\1<=q/\q<=1000000000/\Gapless rs m /\
   ∀(p t:Addr) (H':Hp),Same H H'->H' p=some (.tup [.ref t,.int q])->H' t=some (.tup ((tiersOf rs).map V.int))->Q (.ref p) H')
theorem gaps {rs:List Int} {z M:Int} (low:∀r∈rs,0<=r) (hM:M∈rs) (z1:1<=z) (zM:z<=M) (no:z ∉ rs):ranksOf (tiersOf rs) rs.length≠rs:=fun e=>by
 have g:=gap_of_ranks low e
 have:=(g.all M (by omega)).mp hM
 exact no ((g.all z (by omega)).mpr (by omega))
noncomputable def spNumX:Sp:=fun vs H Q _=>∃n:Int,vs=[.int n]/\Q (.bl (decide (1<=n) && decide (n<=1000000000))) H
noncomputable def Md (cs:List Int) (ys es:List Int) (pl:Int):Prop:=(sealL cs=ys/\es=cs/\pl=0)\/∃(i:Nat) (c d:Int),cs[i]?=some c/\d≠0/\Sz 300 d/\sealL (cs.set i (c+d))=ys/\es=cs.set i (c+d)/\pl=(i:Int)+1
noncomputable def TornZ (cs:List Int) (y0 y1 y2 y3:Int):Prop:=Torn4 cs y0 y1 y2 y3/\Sz 900 (y1 - ws f1 0 cs)/\Sz 900 (y2 - ws f2 0 cs)
noncomputable def spMend38 (C:Addr):Sp:=fun vs H Q E=>∃(p r:Addr) (cs:List Int) (y0 y1 y2 y3:Int),vs=[.ref p,.ref r]/\H p=some (.lst (cs.map V.int))/\H r=some (.tup [.int y0,.int y1,.int y2,.int y3])/\SzAll cs/\cs.length<=100 /\
 ((∃es pl,Md cs [y0,y1,y2,y3] es pl/\∀(a t:Addr) (H':Hp),H a=none->Same H H'->H' a=some (.lst (es.map V.int))->H' t=some (.tup [.ref a,.int pl])->Q (.ref t) H')\/(TornZ cs y0 y1 y2 y3/\∀H':Hp,Same H H'->E (.ref C) none H'))
noncomputable def BadC (x:Int) (n:Nat):Prop:=∃(q:Int) (rs:List Int),x=codeL q rs/\rs.length=n/\(∀r∈rs,0<=r/\r<=12)/\(¬ (1<=q/\q<=1000000000)\/ranksOf (tiersOf rs) n≠rs)
noncomputable def spBoxX (K:PySem.W.Frag) (N:Addr):Sp:=fun vs H Q E=>∃(a C dx:Addr) (x:V),vs=[.ref a,x]/\H a=some (.ins C dx [])/\Cls K C/\NoAttr K C "hands"/\NoAttr K C "bundles"/\Wh K H x (isI x) /\
 ((∃n:Int,x=.int n/\1<=n/\n<=12/\∀(L:Addr) (H':Hp),L≠a->H L=none->Same (off H a) H'->H' a=some (.ins C dx (fsB n L))->H' L=some (.lst [])->Q .non H')\/(okTo 12 x=false/\E (.ref N) none H))
noncomputable def spTakeX (C N1 N2:Addr):Sp:=fun vs H Q E=>∃(b L:Addr) (n:Nat) (bs:List (Addr × Ls)) (c r:Addr) (cs:List Int) (y0 y1 y2 y3:Int),vs=[.ref b,.ref c,.ref r]/\IsB C H b L n bs/\bs.length<=900/\n<=12/\H c=some (.lst (cs.map V.int))/\H r=some (.tup [.int y0,.int y1,.int y2,.int y3])/\SzAll cs/\cs.length<=100 /\
 ((TornZ cs y0 y1 y2 y3/\∀H':Hp,Same H H'->E (.ref N1) none H')\/∃(es:List Int) (pl:Int) (p:List (List Int)) (ds:Ds) (tl:List Int),Md cs [y0,y1,y2,y3] es pl/\es=codesN n ds++tl/\OkDs n p ds/\es.length<=100 /\
   ((tl=[]/\pl=0/\∀(x t:Addr) (ls:Ls) (H':Hp),H x=none->Same (off H L) H'->H' L=some (.lst ((bs++[(x,ls)]).map fun x=>V.ref x.1))->H' x=some (.lst (vls ls))->GoodL H' ls->dsOf ls=ds->H' t=some (.tup [.int (bs.length:Nat),.int 0])->Q (.ref t) H') \/
    (∃x rest,tl=x :: rest/\BadC x n/\∀H':Hp,Same H H'->E (.ref N2) none H')))
noncomputable def NoNum (K:PySem.W.Frag) (H:Hp) (x:V) (m:Nat):Prop:=Wh K H x false\/∃z:Int,x=.int z/\(z < 0\/(m:Int)<=z)
noncomputable def spLinesX (K:PySem.W.Frag) (C N:Addr):Sp:=fun vs H Q E=>∃(b L:Addr) (n:Nat) (bs:List (Addr × Ls)) (x:V),vs=[.ref b,x]/\IsB C H b L n bs /\
 ((∃(k:Nat) (y:Addr × Ls),x=.int (k:Int)/\bs[k]?=some y/\∀(l:Addr) (H':Hp),H l=none->Same H H'->H' l=some (.lst (vls y.2))->Q (.ref l) H')\/(NoNum K H x bs.length/\E (.ref N) none H))
noncomputable def spSheetX (K:PySem.W.Frag) (C N:Addr):Sp:=fun vs H Q E=>∃(b L:Addr) (n:Nat) (bs:List (Addr × Ls)) (x:V),vs=[.ref b,x]/\IsB C H b L n bs /\
 ((∃(k:Nat) (y:Addr × Ls) (p:List (List Int)),x=.int (k:Int)/\bs[k]?=some y/\OkDs n p (dsOf y.2)/\p.length < 64 /\
   ∀(l:Addr) (ls:Ls) (H':Hp),H l=none->Same H H'->H' l=some (.lst (vls ls))->GoodL H' ls->Sheet (dsOf y.2) (dsOf ls)->ls.length < 64->Q (.ref l) H')\/(NoNum K H x bs.length/\E (.ref N) none H))
noncomputable def spSealX (K:PySem.W.Frag) (C N:Addr):Sp:=fun vs H Q E=>∃(b L:Addr) (n:Nat) (bs:List (Addr × Ls)) (x:V),vs=[.ref b,x]/\IsB C H b L n bs /\
 ((∃(k:Nat) (y:Addr × Ls) (p:List (List Int)),x=.int (k:Int)/\bs[k]?=some y/\OkDs n p (dsOf y.2)/\n<=12/\y.2.length<=100 /\
   ∀(t:Addr) (H':Hp),Same H H'->H' t=some (.tup ((sealL (codesN n (dsOf y.2))).map V.int))->Q (.ref t) H')\/(NoNum K H x bs.length/\E (.ref N) none H))
noncomputable def spKind (Cs:List Addr) (e:Addr):Sp:=fun vs H Q _=>∃(k:Nat) (C:Addr),vs=[.ref e]/\Cs[k]?=some C/\H e=some (hoX e (.ref C) none)/\∀(t:Addr) (H':Hp),Same H H'->H' t=some (.tup [.int (k:Int)])->Q (.ref t) H'
noncomputable def spNoBox (K:PySem.W.Frag):Sp:=fun vs H Q _=>∃x:V,vs=[x]/\Wh K H x (isI x)/\okTo 12 x=false/\∀H':Hp,Same H H'->Q (.bl true) H'
noncomputable def spNoBun (K:PySem.W.Frag) (C:Addr):Sp:=fun vs H Q _=>∃(b L:Addr) (n:Nat) (bs:List (Addr × Ls)) (x:V) (w:Int),vs=[.ref b,x,.int w]/\IsB C H b L n bs/\NoNum K H x bs.length/\∀H':Hp,Same H H'->Q (.bl true) H'
noncomputable def NoTake (n:Nat) (cs:List Int) (y0 y1 y2 y3:Int) (k:Nat):Prop:=(k=1/\TornZ cs y0 y1 y2 y3)\/(k=2/\∃(es:List Int) (pl:Int) (p:List (List Int)) (ds:Ds) (x:Int) (rest:List Int),Md cs [y0,y1,y2,y3] es pl/\es=codesN n ds++x :: rest/\OkDs n p ds/\es.length<=100/\BadC x n)
noncomputable def spUntaken (C:Addr):Sp:=fun vs H Q _=>∃(b L:Addr) (n:Nat) (bs:List (Addr × Ls)) (c r:Addr) (cs:List Int) (y0 y1 y2 y3:Int) (k:Nat),vs=[.ref b,.ref c,.ref r]/\IsB C H b L n bs/\bs.length<=900/\n<=12/\H c=some (.lst (cs.map V.int))/\H r=some (.tup [.int y0,.int y1,.int y2,.int y3])/\SzAll cs/\cs.length<=100/\NoTake n cs y0 y1 y2 y3 k /\
 ∀(t:Addr) (H':Hp),Same H H'->H' t=some (.tup [.int (k:Int)])->Q (.ref t) H'
theorem eqd1 (ns:List Int):PyData.eqv (.tuple (ns.map .int)) (.tuple (ns.map .int))=true:=by show PyData.eqvAll _ _=true;rw [eqv_ints];exact decide_eq_true rfl
theorem flat_z (z:Int) (n:Nat):(List.replicate n [V.int z]).flatten=(List.replicate n z).map V.int:=by
 induction n with
 | zero=>rfl
 | succ n ih=>rw [List.replicate_succ,List.flatten_cons,ih];rfl
noncomputable def spNoLine:Sp:=fun vs H Q _=>∃(n:Nat) (z:Int),vs=[.int (n:Int),.int z]/\1<=n/\n<=12/\Sz 64 z/\∀(x:Int) (H':Hp),Same H H'->BadC x n->Sz 200 x->Q (.int x) H'
theorem rep_in {n:Nat} {z:Int} (h:0<=z/\z<=12):∀r∈List.replicate n z,0<=r/\r<=12:=fun r m=>by rw [List.eq_of_mem_replicate m];exact h
theorem bad_rank {n j:Nat} {r:Int} (jn:j < n) (r2:2<=r):ranksOf (tiersOf ((List.replicate n (0:Int)).set j r)) n≠(List.replicate n (0:Int)).set j r:=by
 have ln:((List.replicate n (0:Int)).set j r).length=n:=by rw [List.length_set,List.length_replicate]
 have io:∀z∈(List.replicate n (0:Int)).set j r,z=0\/z=r:=fun z m=>by
  rcases List.mem_or_eq_of_mem_set m with m | m
  ·exact .inl (List.eq_of_mem_replicate m)
  ·exact .inr m
 have g:=gaps (rs:=(List.replicate n (0:Int)).set j r) (z:=1) (M:=r) (fun z m=>by rcases io z m with h | h <;> omega) (List.mem_iff_getElem?.mpr ⟨j,List.getElem?_set_self (by rw [List.length_replicate];exact jn)⟩) (by omega) (by omega) (fun m=>by rcases io 1 m with h | h <;> omega)
 rw [ln] at g
 exact g
theorem codes_sz2 {n:Nat} {p:List (List Int)} {ds:Ds} (n12:n<=12) (h:OkDs n p ds):∀c∈codesN n ds,Sz 200 c:=fun c m=>by
 obtain ⟨q,qm,rfl⟩:=List.mem_map.mp m
 obtain ⟨_,q1,q9,ok⟩:=h q qm
 obtain ⟨rs,m,e,_,l,_,r12,_⟩:=ok.ranks
 show Sz 200 (codeL q.2 (ranksOf q.1 n))
 rw [e]
 have k:=code_lt (c:=q.2) (by omega) (by omega) r12 (by omega)
 exact sz_of (by omega) (by omega)
theorem none_split {n:Nat} {ds:Ds} {x:Int} {j:Nat}:(codesN n ds).take j++[x]++(codesN n ds).drop j=codesN n (ds.take j)++x :: (codesN n ds).drop j:=by
 unfold codesN
 rw [List.map_take,List.append_assoc]
 rfl
theorem no_2 {n:Nat} {p:List (List Int)} {ds:Ds} {x pl y0 y1 y2 y3:Int} {j:Nat} {cs:List Int} (ok:OkDs n p ds) (bad:BadC x n) (l:ds.length<=60) (md:Md cs [y0,y1,y2,y3] ((codesN n ds).take j++[x]++(codesN n ds).drop j) pl):NoTake n cs y0 y1 y2 y3 2 :=
 .inr ⟨rfl,_,pl,p,ds.take j,x,_,md,none_split,fun q m=>ok q (List.mem_of_mem_take m),(by
  rw [List.length_append,List.length_append,List.length_take,List.length_drop,codes_len]
  show _+1+_<=100
  omega),bad⟩
theorem sz_set {cs:List Int} {i:Nat} {c x:Int} (h:∀z∈cs,Sz 250 z) (hc:cs[i]?=some c) (hx:Sz 30 x):SzAll (cs.set i (c+x)):=fun z m=>by
 rcases List.mem_or_eq_of_mem_set m with m | m
 ·exact (h z m).mono (by decide)
 ·rw [m]
  exact ((h c (List.mem_of_getElem? hc)).add hx).mono (by decide)
theorem no_1 {n:Nat} {cs:List Int} {i j:Nat} {ci cj x y:Int} (h:∀z∈cs,Sz 250 z) (l:cs.length<=101) (hi:cs[i]?=some ci) (hj:cs[j]?=some cj) (hij:i≠j) (x0:x≠0) (y0:y≠0) (sx:Sz 30 x) (sy:Sz 30 y):SzAll ((cs.set i (ci+x)).set j (cj+y))/\NoTake n ((cs.set i (ci+x)).set j (cj+y)) cs.length (ws f1 0 cs) (ws f2 0 cs) (ws f3 0 cs) 1:=by
 have z1:SzAll cs:=fun z m=>(h z m).mono (by decide)
 have z2:SzAll ((cs.set i (ci+x)).set j (cj+y)):=fun z m=>by
  rcases List.mem_or_eq_of_mem_set m with m | m
  ·exact sz_set h hi sx z m
  ·rw [m]
   exact ((h cj (List.mem_of_getElem? hj)).add sy).mono (by decide)
 have lk:=lack_sz z1 z2 l (by rw [List.length_set,List.length_set];exact l)
 exact ⟨z2,.inl ⟨rfl,torn_two hi hj hij x0 y0,lk.1,lk.2⟩⟩
theorem rot1 {m i:Int} (m2:2<=m):i.fmod m≠(i+1).fmod m:=fun e=>by
 rw [Int.fmod_eq_emod_of_nonneg _ (by omega),Int.fmod_eq_emod_of_nonneg _ (by omega)] at e
 have:=Int.emod_eq_emod_iff_emod_sub_eq_zero.mp e.symm
 rw [show i+1 - i=1 by omega,Int.emod_eq_of_lt (by decide) (by omega)] at this
 exact absurd this (by decide)
theorem NoNum.same {K:PySem.W.Frag} {H H':Hp} {x:V} {m:Nat} (s:Same H H') (h:NoNum K H x m):NoNum K H' x m:=h.imp (fun w=>w.same s) id
noncomputable def spRefus (C:Addr):Sp:=fun vs H Q _=>∃(b L:Addr) (n:Nat) (bs:List (Addr × Ls)) (c:Addr) (p:List (List Int)) (ds:Ds) (z:Int),vs=[.ref b,.ref c,.int (n:Int),.int z]/\IsB C H b L n bs/\bs.length<=900/\1<=n/\n<=12/\H c=some (.lst ((codesN n ds).map V.int))/\OkDs n p ds/\2<=ds.length/\ds.length<=60/\0<=z/\z < 10 ^ 18/\∀H':Hp,Same H H'->Q (.bl true) H'
theorem IsB.more {C:Addr} {H H':Hp} {b L x:Addr} {n:Nat} {as:List (Addr × Ls)} {ls:Ls} (h:IsB C H b L n as) (s:Same (Law.off H L) H') (hx:H x=none) (eL:H' L=some (.lst ((as++[(x,ls)]).map fun x=>V.ref x.1))) (ex:H' x=some (.lst (vls ls))) (g:GoodL H' ls):IsB C H' b L n (as++[(x,ls)]):=by
 obtain ⟨⟨dx,h1⟩,h2,h3,h4⟩:=h
 refine ⟨⟨dx,s _ _ (off_at h1 (fun z=>by rw [z,h2] at h1;cases h1))⟩,eL,fun y m=>?_,fun y m=>?_⟩
 ·rcases List.mem_append.mp m with m | m
  ·refine ⟨s _ _ (off_at (h3 y m).1 (h4 y m)),fun q k=>?_⟩
   obtain ⟨g1,g2⟩:=(h3 y m).2 q k
   exact ⟨s _ _ (off_at g1 (ne_of g1 h2 (fun z=>nomatch z))),s _ _ (off_at g2 (ne_of g2 h2 (fun z=>nomatch z)))⟩
  ·rw [List.mem_singleton.mp m]
   exact ⟨ex,g⟩
 ·rcases List.mem_append.mp m with m | m
  ·exact h4 y m
  ·rw [List.mem_singleton.mp m]
   exact fun (z:x=L)=>by rw [z,h2] at hx;cases hx
theorem keep_off {H H' H0:Hp} {L:Addr} (a:Same H0 H) (n:H0 L=none) (s:Same (off H L) H'):Same H0 H':=(off_of a n).trans s
theorem GoodL.off {H H':Hp} {M:Addr} {zs:List V} {ls:Ls} (g:GoodL H ls) (s:Same (Law.off H M) H') (hM:H M=some (.lst zs)):GoodL H' ls:=fun q k=>by
 obtain ⟨g1,g2⟩:=g q k
 exact ⟨s _ _ (off_at g1 (ne_of g1 hM (fun z=>nomatch z))),s _ _ (off_at g2 (ne_of g2 hM (fun z=>nomatch z)))⟩
theorem cut_vls {ls:Ls} {k:Nat}:cutV (vls ls) (some (k:Int)) none=vls (ls.drop k):=(cut_drop (j:=k)).trans (List.map_drop ..).symm
theorem dsOf_drop {ls:Ls} {k:Nat}:dsOf (ls.drop k)=(dsOf ls).drop k:=List.map_drop ..
def top (i:Nat):Stmt:=PySem.Challenge.pw_pollproof_k38_what_a_box_refuses.main.body.getD i (.Pass ⟨0,0,0,0⟩)
abbrev s_with_one:Stmt:=top 15
abbrev s_members:Stmt:=top 16
abbrev s_is_whole:Stmt:=top 18
abbrev s_numbers_by_slip:Stmt:=top 29
abbrev s_sheet_from:Stmt:=top 30
abbrev s_seal_of:Stmt:=top 37
abbrev s_place_of:Stmt:=top 38
abbrev s_law_cell:Stmt:=top 46
abbrev s_law_mixed:Stmt:=top 47
abbrev s_law_whole:Stmt:=top 48
abbrev s_law_slip:Stmt:=top 50
abbrev s_law_code:Stmt:=top 51
abbrev s_law_seal:Stmt:=top 55
abbrev s_law_sheet:Stmt:=top 57
abbrev s_law_kind:Stmt:=top 59
abbrev s_Box_many:Stmt:=inClass (top 44) 1
abbrev s_is_rank:Stmt:=top 21
abbrev s_tier_at:Stmt:=top 23
abbrev s_ranks_of:Stmt:=top 25
abbrev s_is_number:Stmt:=top 28
abbrev s_mended:Stmt:=top 39
abbrev s_are_hands:Stmt:=top 42
abbrev s_law_ranks:Stmt:=top 49
abbrev s_law_many:Stmt:=top 52
abbrev s_law_line:Stmt:=top 53
abbrev s_law_codes_of:Stmt:=top 56
abbrev s_law_seal_is:Stmt:=top 58
abbrev s_law_no_line:Stmt:=top 63
abbrev s_Box_lines_at:Stmt:=inClass (top 44) 3
abbrev s_are_ranks:Stmt:=top 22
abbrev s_sheet_of:Stmt:=top 31
abbrev s_code_of:Stmt:=top 34
abbrev s_law_lines:Stmt:=top 54
abbrev s_Box_init:Stmt:=inClass (top 44) 0
abbrev s_slip_of:Stmt:=top 24
abbrev s_Box_sheet_at:Stmt:=inClass (top 44) 4
abbrev s_Box_seal_at:Stmt:=inClass (top 44) 5
abbrev s_line_of:Stmt:=top 35
abbrev s_law_no_box:Stmt:=top 60
abbrev s_law_no_bundle:Stmt:=top 61
abbrev s_Box_take:Stmt:=inClass (top 44) 2
abbrev s_law_untaken:Stmt:=top 62
abbrev s_law_refusals:Stmt:=top 64
abbrev s_law:Stmt:=top 65
theorem sc_with_one:FnScope ["mask","hand"] ["mask","hand"] (defScope s_with_one):=⟨rfl,rfl,rfl,by decide +kernel,rfl,by decide +kernel,by decide +kernel⟩
theorem sc_members:FnScope ["mask"] ["mask"] (defScope s_members):=⟨rfl,rfl,rfl,by decide +kernel,rfl,by decide +kernel,by decide +kernel⟩
theorem sc_is_whole:FnScope ["thing"] ["thing"] (defScope s_is_whole):=⟨rfl,rfl,rfl,by decide +kernel,rfl,by decide +kernel,by decide +kernel⟩
theorem sc_numbers_by_slip:FnScope ["lines","numbers","slip","number"] ["lines"] (defScope s_numbers_by_slip):=⟨rfl,rfl,rfl,by decide +kernel,rfl,by decide +kernel,by decide +kernel⟩
theorem sc_sheet_from:FnScope ["numbers"] ["numbers"] (defScope s_sheet_from):=⟨rfl,rfl,rfl,by decide +kernel,rfl,by decide +kernel,by decide +kernel⟩
theorem sc_seal_of:FnScope ["codes","plain","by_place","by_square","place","code"] ["codes"] (defScope s_seal_of):=⟨rfl,rfl,rfl,by decide +kernel,rfl,by decide +kernel,by decide +kernel⟩
theorem sc_place_of:FnScope ["lacks","many","place"] ["lacks","many"] (defScope s_place_of):=⟨rfl,rfl,rfl,by decide +kernel,rfl,by decide +kernel,by decide +kernel⟩
theorem sc_law_cell:FnScope ["_law_script","_law_k"] ["_law_script","_law_k"] (defScope s_law_cell):=⟨rfl,rfl,rfl,by decide +kernel,rfl,by decide +kernel,by decide +kernel⟩
theorem sc_law_mixed:FnScope ["_law_cell_here","_law_by","_law_number"] ["_law_cell_here","_law_by"] (defScope s_law_mixed):=⟨rfl,rfl,rfl,by decide +kernel,rfl,by decide +kernel,by decide +kernel⟩
theorem sc_law_whole:FnScope ["_law_found"] ["_law_found"] (defScope s_law_whole):=⟨rfl,rfl,rfl,by decide +kernel,rfl,by decide +kernel,by decide +kernel⟩
theorem sc_law_slip:FnScope ["_law_ranks_here","_law_tiers","_law_rank"] ["_law_ranks_here"] (defScope s_law_slip):=⟨rfl,rfl,rfl,by decide +kernel,rfl,by decide +kernel,by decide +kernel⟩
theorem sc_law_code:FnScope ["_law_ranks_here","_law_number","_law_code_here","_law_rank"] ["_law_ranks_here","_law_number"] (defScope s_law_code):=⟨rfl,rfl,rfl,by decide +kernel,rfl,by decide +kernel,by decide +kernel⟩
theorem sc_law_seal:FnScope ["_law_codes","_law_sums","_law_k"] ["_law_codes"] (defScope s_law_seal):=⟨rfl,rfl,rfl,by decide +kernel,rfl,by decide +kernel,by decide +kernel⟩
theorem sc_law_sheet:FnScope ["_law_lines_here","_law_many_here","_law_slip_here","_law_number"] ["_law_lines_here"] (defScope s_law_sheet):=⟨rfl,rfl,rfl,by decide +kernel,rfl,by decide +kernel,by decide +kernel⟩
theorem sc_law_kind:FnScope ["_law_e","_law_one"] ["_law_e"] (defScope s_law_kind):=⟨rfl,rfl,rfl,by decide +kernel,rfl,by decide +kernel,by decide +kernel⟩
theorem sc_Box_many:FnScope ["self"] ["self"] (defScope s_Box_many):=⟨rfl,rfl,rfl,by decide +kernel,rfl,by decide +kernel,by decide +kernel⟩
theorem sc_is_rank:FnScope ["thing"] ["thing"] (defScope s_is_rank):=⟨rfl,rfl,rfl,by decide +kernel,rfl,by decide +kernel,by decide +kernel⟩
theorem sc_tier_at:FnScope ["ranks","wanted","tier","hand","rank"] ["ranks","wanted"] (defScope s_tier_at):=⟨rfl,rfl,rfl,by decide +kernel,rfl,by decide +kernel,by decide +kernel⟩
theorem sc_ranks_of:FnScope ["slip","hands","ranks","place","tier","hand"] ["slip","hands"] (defScope s_ranks_of):=⟨rfl,rfl,rfl,by decide +kernel,rfl,by decide +kernel,by decide +kernel⟩
theorem sc_is_number:FnScope ["thing"] ["thing"] (defScope s_is_number):=⟨rfl,rfl,rfl,by decide +kernel,rfl,by decide +kernel,by decide +kernel⟩
theorem sc_mended:FnScope ["codes","seal","own","place","right"] ["codes","seal"] (defScope s_mended):=⟨rfl,rfl,rfl,by decide +kernel,rfl,by decide +kernel,by decide +kernel⟩
theorem sc_are_hands:FnScope ["thing"] ["thing"] (defScope s_are_hands):=⟨rfl,rfl,rfl,by decide +kernel,rfl,by decide +kernel,by decide +kernel⟩
theorem sc_law_ranks:FnScope ["_law_cell_here","_law_hands","_law_number","_law_way","_law_order","_law_spread","_law_raw","_law_there"] ["_law_cell_here","_law_hands"] (defScope s_law_ranks):=⟨rfl,rfl,rfl,by decide +kernel,rfl,by decide +kernel,by decide +kernel⟩
theorem sc_law_many:FnScope ["_law_cell_here","_law_k","_law_number"] ["_law_cell_here","_law_k"] (defScope s_law_many):=⟨rfl,rfl,rfl,by decide +kernel,rfl,by decide +kernel,by decide +kernel⟩
theorem sc_law_line:FnScope ["_law_found","_law_due"] ["_law_found","_law_due"] (defScope s_law_line):=⟨rfl,rfl,rfl,by decide +kernel,rfl,by decide +kernel,by decide +kernel⟩
theorem sc_law_codes_of:FnScope ["_law_lines_here","_law_hands","_law_codes","_law_slip_here","_law_number","_law_ranks_here","_law_at","_law_hand"] ["_law_lines_here","_law_hands"] (defScope s_law_codes_of):=⟨rfl,rfl,rfl,by decide +kernel,rfl,by decide +kernel,by decide +kernel⟩
theorem sc_law_seal_is:FnScope ["_law_found","_law_due"] ["_law_found","_law_due"] (defScope s_law_seal_is):=⟨rfl,rfl,rfl,by decide +kernel,rfl,by decide +kernel,by decide +kernel⟩
theorem sc_law_no_line:FnScope ["_law_hands","_law_number","_law_ranks_here"] ["_law_hands","_law_number"] (defScope s_law_no_line):=⟨rfl,rfl,rfl,by decide +kernel,rfl,by decide +kernel,by decide +kernel⟩
theorem sc_Box_lines_at:FnScope ["self","k"] ["self","k"] (defScope s_Box_lines_at):=⟨rfl,rfl,rfl,by decide +kernel,rfl,by decide +kernel,by decide +kernel⟩
theorem sc_are_ranks:FnScope ["thing","hands"] ["thing","hands"] (defScope s_are_ranks):=⟨rfl,rfl,rfl,by decide +kernel,rfl,by decide +kernel,by decide +kernel⟩
theorem sc_sheet_of:FnScope ["lines","line"] ["lines"] (defScope s_sheet_of):=⟨rfl,rfl,rfl,by decide +kernel,rfl,by decide +kernel,by decide +kernel⟩
theorem sc_code_of:FnScope ["line","hands","code","rank"] ["line","hands"] (defScope s_code_of):=⟨rfl,rfl,rfl,by decide +kernel,rfl,by decide +kernel,by decide +kernel⟩
theorem sc_law_lines:FnScope ["_law_found","_law_due"] ["_law_found","_law_due"] (defScope s_law_lines):=⟨rfl,rfl,rfl,by decide +kernel,rfl,by decide +kernel,by decide +kernel⟩
theorem sc_Box_init:FnScope ["self","hands"] ["self","hands"] (defScope s_Box_init):=⟨rfl,rfl,rfl,by decide +kernel,rfl,by decide +kernel,by decide +kernel⟩
theorem sc_slip_of:FnScope ["ranks","hands"] ["ranks","hands"] (defScope s_slip_of):=⟨rfl,rfl,rfl,by decide +kernel,rfl,by decide +kernel,by decide +kernel⟩
theorem sc_Box_sheet_at:FnScope ["self","k"] ["self","k"] (defScope s_Box_sheet_at):=⟨rfl,rfl,rfl,by decide +kernel,rfl,by decide +kernel,by decide +kernel⟩
theorem sc_Box_seal_at:FnScope ["self","k"] ["self","k"] (defScope s_Box_seal_at):=⟨rfl,rfl,rfl,by decide +kernel,rfl,by decide +kernel,by decide +kernel⟩
theorem sc_line_of:FnScope ["code","hands","backwards","rest","hand","ranks","slip"] ["code","hands"] (defScope s_line_of):=⟨rfl,rfl,rfl,by decide +kernel,rfl,by decide +kernel,by decide +kernel⟩
theorem sc_law_no_box:FnScope ["_law_hands","_law_e"] ["_law_hands"] (defScope s_law_no_box):=⟨rfl,rfl,rfl,by decide +kernel,rfl,by decide +kernel,by decide +kernel⟩
theorem sc_law_no_bundle:FnScope ["_law_box","_law_k","_law_way","_law_e"] ["_law_box","_law_k","_law_way"] (defScope s_law_no_bundle):=⟨rfl,rfl,rfl,by decide +kernel,rfl,by decide +kernel,by decide +kernel⟩
theorem sc_Box_take:FnScope ["self","codes","seal","told","lines"] ["self","codes","seal"] (defScope s_Box_take):=⟨rfl,rfl,rfl,by decide +kernel,rfl,by decide +kernel,by decide +kernel⟩
theorem sc_law_untaken:FnScope ["_law_box","_law_codes","_law_seal_here","_law_handed","_law_e"] ["_law_box","_law_codes","_law_seal_here"] (defScope s_law_untaken):=⟨rfl,rfl,rfl,by decide +kernel,rfl,by decide +kernel,by decide +kernel⟩
theorem sc_law_refusals:FnScope ["_law_box","_law_codes","_law_hands","_law_number","_law_at","_law_none","_law_one","_law_other","_law_torn","_law_both"] ["_law_box","_law_codes","_law_hands","_law_number"] (defScope s_law_refusals):=⟨rfl,rfl,rfl,by decide +kernel,rfl,by decide +kernel,by decide +kernel⟩
theorem sc_law:FnScope ["_law_script","_law_hands","_law_number","_law_lines_here","_law_k","_law_cell_here","_law_many_here","_law_box","_law_codes","_law_bad","_law_way","_law_some"] ["_law_script"] (defScope s_law):=⟨rfl,rfl,rfl,by decide +kernel,rfl,by decide +kernel,by decide +kernel⟩
structure Ads where
 f_with_one:Addr
 d_with_one:FuncData
 f_members:Addr
 d_members:FuncData
 f_is_whole:Addr
 d_is_whole:FuncData
 f_numbers_by_slip:Addr
 d_numbers_by_slip:FuncData
 f_sheet_from:Addr
 d_sheet_from:FuncData
 f_seal_of:Addr
 d_seal_of:FuncData
 f_place_of:Addr
 d_place_of:FuncData
 f_law_cell:Addr
 d_law_cell:FuncData
 f_law_mixed:Addr
 d_law_mixed:FuncData
 f_law_whole:Addr
 d_law_whole:FuncData
 f_law_slip:Addr
 d_law_slip:FuncData
 f_law_code:Addr
 d_law_code:FuncData
 f_law_seal:Addr
 d_law_seal:FuncData
 f_law_sheet:Addr
 d_law_sheet:FuncData
 f_law_kind:Addr
 d_law_kind:FuncData
 f_Box_many:Addr
 d_Box_many:FuncData
 f_is_rank:Addr
 d_is_rank:FuncData
 f_tier_at:Addr
 d_tier_at:FuncData
 f_ranks_of:Addr
 d_ranks_of:FuncData
 f_is_number:Addr
 d_is_number:FuncData
 f_mended:Addr
 d_mended:FuncData
 f_are_hands:Addr
 d_are_hands:FuncData
 f_law_ranks:Addr
 d_law_ranks:FuncData
 f_law_many:Addr
 d_law_many:FuncData
 f_law_line:Addr
 d_law_line:FuncData
 f_law_codes_of:Addr
 d_law_codes_of:FuncData
 f_law_seal_is:Addr
 d_law_seal_is:FuncData
 f_law_no_line:Addr
 d_law_no_line:FuncData
 f_Box_lines_at:Addr
 d_Box_lines_at:FuncData
 f_are_ranks:Addr
 d_are_ranks:FuncData
 f_sheet_of:Addr
 d_sheet_of:FuncData
 f_code_of:Addr
 d_code_of:FuncData
 f_law_lines:Addr
 d_law_lines:FuncData
 f_Box_init:Addr
 d_Box_init:FuncData
 f_slip_of:Addr
 d_slip_of:FuncData
 f_Box_sheet_at:Addr
 d_Box_sheet_at:FuncData
 f_Box_seal_at:Addr
 d_Box_seal_at:FuncData
 f_line_of:Addr
 d_line_of:FuncData
 f_law_no_box:Addr
 d_law_no_box:FuncData
 f_law_no_bundle:Addr
 d_law_no_bundle:FuncData
 f_Box_take:Addr
 d_Box_take:FuncData
 f_law_untaken:Addr
 d_law_untaken:FuncData
 f_law_refusals:Addr
 d_law_refusals:FuncData
 f_law:Addr
 d_law:FuncData
 c_NoBundle:Addr
 c_NoBallot:Addr
 c_Torn:Addr
 c_NoWay:Addr
 c_WrongNumber:Addr
 c_TooHard:Addr
 c_NoSheet:Addr
 c_NoRow:Addr
 c_NoNumber:Addr
 c_NoChange:Addr
 c_Ended:Addr
 c_PollError:Addr
 c_Box:Addr
 t_MOST_RANK:Tok
 t_MOST_BALLOTS:Tok
 t_MOST_HANDS:Tok
 t_BASE:Tok
structure Tx (K:PySem.W.Frag) (mg:Str->Option Value) (a:Ads):Prop where
 F_with_one:Fun K "with_one" "with_one" s_with_one a.f_with_one a.d_with_one
 b_with_one:Binds K a.d_with_one ["mask","hand"] []
 m_with_one:mg "with_one"=some (.ref a.f_with_one)
 F_members:Fun K "members" "members" s_members a.f_members a.d_members
 b_members:Binds K a.d_members ["mask"] []
 m_members:mg "members"=some (.ref a.f_members)
 F_is_whole:Fun K "is_whole" "is_whole" s_is_whole a.f_is_whole a.d_is_whole
 b_is_whole:Binds K a.d_is_whole ["thing"] []
 m_is_whole:mg "is_whole"=some (.ref a.f_is_whole)
 F_numbers_by_slip:Fun K "numbers_by_slip" "numbers_by_slip" s_numbers_by_slip a.f_numbers_by_slip a.d_numbers_by_slip
 b_numbers_by_slip:Binds K a.d_numbers_by_slip ["lines"] []
 m_numbers_by_slip:mg "numbers_by_slip"=some (.ref a.f_numbers_by_slip)
 F_sheet_from:Fun K "sheet_from" "sheet_from" s_sheet_from a.f_sheet_from a.d_sheet_from
 b_sheet_from:Binds K a.d_sheet_from ["numbers"] []
 m_sheet_from:mg "sheet_from"=some (.ref a.f_sheet_from)
 F_seal_of:Fun K "seal_of" "seal_of" s_seal_of a.f_seal_of a.d_seal_of
 b_seal_of:Binds K a.d_seal_of ["codes"] []
 m_seal_of:mg "seal_of"=some (.ref a.f_seal_of)
 F_place_of:Fun K "place_of" "place_of" s_place_of a.f_place_of a.d_place_of
 b_place_of:Binds K a.d_place_of ["lacks","many"] []
 m_place_of:mg "place_of"=some (.ref a.f_place_of)
 F_law_cell:Fun K "_law_cell" "_law_cell" s_law_cell a.f_law_cell a.d_law_cell
 b_law_cell:Binds K a.d_law_cell ["_law_script","_law_k"] []
 m_law_cell:mg "_law_cell"=some (.ref a.f_law_cell)
 F_law_mixed:Fun K "_law_mixed" "_law_mixed" s_law_mixed a.f_law_mixed a.d_law_mixed
 b_law_mixed:Binds K a.d_law_mixed ["_law_cell_here","_law_by"] []
 m_law_mixed:mg "_law_mixed"=some (.ref a.f_law_mixed)
 F_law_whole:Fun K "_law_whole" "_law_whole" s_law_whole a.f_law_whole a.d_law_whole
 b_law_whole:Binds K a.d_law_whole ["_law_found"] []
 m_law_whole:mg "_law_whole"=some (.ref a.f_law_whole)
 F_law_slip:Fun K "_law_slip" "_law_slip" s_law_slip a.f_law_slip a.d_law_slip
 b_law_slip:Binds K a.d_law_slip ["_law_ranks_here"] []
 m_law_slip:mg "_law_slip"=some (.ref a.f_law_slip)
 F_law_code:Fun K "_law_code" "_law_code" s_law_code a.f_law_code a.d_law_code
 b_law_code:Binds K a.d_law_code ["_law_ranks_here","_law_number"] []
 m_law_code:mg "_law_code"=some (.ref a.f_law_code)
 F_law_seal:Fun K "_law_seal" "_law_seal" s_law_seal a.f_law_seal a.d_law_seal
 b_law_seal:Binds K a.d_law_seal ["_law_codes"] []
 m_law_seal:mg "_law_seal"=some (.ref a.f_law_seal)
 F_law_sheet:Fun K "_law_sheet" "_law_sheet" s_law_sheet a.f_law_sheet a.d_law_sheet
 b_law_sheet:Binds K a.d_law_sheet ["_law_lines_here"] []
 m_law_sheet:mg "_law_sheet"=some (.ref a.f_law_sheet)
 F_law_kind:Fun K "_law_kind" "_law_kind" s_law_kind a.f_law_kind a.d_law_kind
 b_law_kind:Binds K a.d_law_kind ["_law_e"] []
 m_law_kind:mg "_law_kind"=some (.ref a.f_law_kind)
 F_Box_many:Fun K "many" "Box.many" s_Box_many a.f_Box_many a.d_Box_many
 b_Box_many:Binds K a.d_Box_many ["self"] []
 F_is_rank:Fun K "is_rank" "is_rank" s_is_rank a.f_is_rank a.d_is_rank
 b_is_rank:Binds K a.d_is_rank ["thing"] []
 m_is_rank:mg "is_rank"=some (.ref a.f_is_rank)
 F_tier_at:Fun K "tier_at" "tier_at" s_tier_at a.f_tier_at a.d_tier_at
 b_tier_at:Binds K a.d_tier_at ["ranks","wanted"] []
 m_tier_at:mg "tier_at"=some (.ref a.f_tier_at)
 F_ranks_of:Fun K "ranks_of" "ranks_of" s_ranks_of a.f_ranks_of a.d_ranks_of
 b_ranks_of:Binds K a.d_ranks_of ["slip","hands"] []
 m_ranks_of:mg "ranks_of"=some (.ref a.f_ranks_of)
 F_is_number:Fun K "is_number" "is_number" s_is_number a.f_is_number a.d_is_number
 b_is_number:Binds K a.d_is_number ["thing"] []
 m_is_number:mg "is_number"=some (.ref a.f_is_number)
 F_mended:Fun K "mended" "mended" s_mended a.f_mended a.d_mended
 b_mended:Binds K a.d_mended ["codes","seal"] []
 m_mended:mg "mended"=some (.ref a.f_mended)
 F_are_hands:Fun K "are_hands" "are_hands" s_are_hands a.f_are_hands a.d_are_hands
 b_are_hands:Binds K a.d_are_hands ["thing"] []
 m_are_hands:mg "are_hands"=some (.ref a.f_are_hands)
 F_law_ranks:Fun K "_law_ranks" "_law_ranks" s_law_ranks a.f_law_ranks a.d_law_ranks
 b_law_ranks:Binds K a.d_law_ranks ["_law_cell_here","_law_hands"] []
 m_law_ranks:mg "_law_ranks"=some (.ref a.f_law_ranks)
 F_law_many:Fun K "_law_many" "_law_many" s_law_many a.f_law_many a.d_law_many
 b_law_many:Binds K a.d_law_many ["_law_cell_here","_law_k"] []
 m_law_many:mg "_law_many"=some (.ref a.f_law_many)
 F_law_line:Fun K "_law_line" "_law_line" s_law_line a.f_law_line a.d_law_line
 b_law_line:Binds K a.d_law_line ["_law_found","_law_due"] []
 m_law_line:mg "_law_line"=some (.ref a.f_law_line)
 F_law_codes_of:Fun K "_law_codes_of" "_law_codes_of" s_law_codes_of a.f_law_codes_of a.d_law_codes_of
 b_law_codes_of:Binds K a.d_law_codes_of ["_law_lines_here","_law_hands"] []
 m_law_codes_of:mg "_law_codes_of"=some (.ref a.f_law_codes_of)
 F_law_seal_is:Fun K "_law_seal_is" "_law_seal_is" s_law_seal_is a.f_law_seal_is a.d_law_seal_is
 b_law_seal_is:Binds K a.d_law_seal_is ["_law_found","_law_due"] []
 m_law_seal_is:mg "_law_seal_is"=some (.ref a.f_law_seal_is)
 F_law_no_line:Fun K "_law_no_line" "_law_no_line" s_law_no_line a.f_law_no_line a.d_law_no_line
 b_law_no_line:Binds K a.d_law_no_line ["_law_hands","_law_number"] []
 m_law_no_line:mg "_law_no_line"=some (.ref a.f_law_no_line)
 F_Box_lines_at:Fun K "lines_at" "Box.lines_at" s_Box_lines_at a.f_Box_lines_at a.d_Box_lines_at
 b_Box_lines_at:Binds K a.d_Box_lines_at ["self","k"] []
 F_are_ranks:Fun K "are_ranks" "are_ranks" s_are_ranks a.f_are_ranks a.d_are_ranks
 b_are_ranks:Binds K a.d_are_ranks ["thing","hands"] []
 m_are_ranks:mg "are_ranks"=some (.ref a.f_are_ranks)
 F_sheet_of:Fun K "sheet_of" "sheet_of" s_sheet_of a.f_sheet_of a.d_sheet_of
 b_sheet_of:Binds K a.d_sheet_of ["lines"] []
 m_sheet_of:mg "sheet_of"=some (.ref a.f_sheet_of)
 F_code_of:Fun K "code_of" "code_of" s_code_of a.f_code_of a.d_code_of
 b_code_of:Binds K a.d_code_of ["line","hands"] []
 m_code_of:mg "code_of"=some (.ref a.f_code_of)
 F_law_lines:Fun K "_law_lines" "_law_lines" s_law_lines a.f_law_lines a.d_law_lines
 b_law_lines:Binds K a.d_law_lines ["_law_found","_law_due"] []
 m_law_lines:mg "_law_lines"=some (.ref a.f_law_lines)
 F_Box_init:Fun K "__init__" "Box.__init__" s_Box_init a.f_Box_init a.d_Box_init
 b_Box_init:Binds K a.d_Box_init ["self","hands"] []
 F_slip_of:Fun K "slip_of" "slip_of" s_slip_of a.f_slip_of a.d_slip_of
 b_slip_of:Binds K a.d_slip_of ["ranks","hands"] []
 m_slip_of:mg "slip_of"=some (.ref a.f_slip_of)
 F_Box_sheet_at:Fun K "sheet_at" "Box.sheet_at" s_Box_sheet_at a.f_Box_sheet_at a.d_Box_sheet_at
 b_Box_sheet_at:Binds K a.d_Box_sheet_at ["self","k"] []
 F_Box_seal_at:Fun K "seal_at" "Box.seal_at" s_Box_seal_at a.f_Box_seal_at a.d_Box_seal_at
 b_Box_seal_at:Binds K a.d_Box_seal_at ["self","k"] []
 F_line_of:Fun K "line_of" "line_of" s_line_of a.f_line_of a.d_line_of
 b_line_of:Binds K a.d_line_of ["code","hands"] []
 m_line_of:mg "line_of"=some (.ref a.f_line_of)
 F_law_no_box:Fun K "_law_no_box" "_law_no_box" s_law_no_box a.f_law_no_box a.d_law_no_box
 b_law_no_box:Binds K a.d_law_no_box ["_law_hands"] []
 m_law_no_box:mg "_law_no_box"=some (.ref a.f_law_no_box)
 F_law_no_bundle:Fun K "_law_no_bundle" "_law_no_bundle" s_law_no_bundle a.f_law_no_bundle a.d_law_no_bundle
 b_law_no_bundle:Binds K a.d_law_no_bundle ["_law_box","_law_k","_law_way"] []
 m_law_no_bundle:mg "_law_no_bundle"=some (.ref a.f_law_no_bundle)
 F_Box_take:Fun K "take" "Box.take" s_Box_take a.f_Box_take a.d_Box_take
 b_Box_take:Binds K a.d_Box_take ["self","codes","seal"] []
 F_law_untaken:Fun K "_law_untaken" "_law_untaken" s_law_untaken a.f_law_untaken a.d_law_untaken
 b_law_untaken:Binds K a.d_law_untaken ["_law_box","_law_codes","_law_seal_here"] []
 m_law_untaken:mg "_law_untaken"=some (.ref a.f_law_untaken)
 F_law_refusals:Fun K "_law_refusals" "_law_refusals" s_law_refusals a.f_law_refusals a.d_law_refusals
 b_law_refusals:Binds K a.d_law_refusals ["_law_box","_law_codes","_law_hands","_law_number"] []
 m_law_refusals:mg "_law_refusals"=some (.ref a.f_law_refusals)
 F_law:Fun K "law" "law" s_law a.f_law a.d_law
 b_law:Binds K a.d_law ["_law_script"] []
 m_law:mg "law"=some (.ref a.f_law)
 z_ValueError:mg "ValueError"=none
 z_all:mg "all"=none
 z_bool:mg "bool"=none
 z_enumerate:mg "enumerate"=none
 z_int:mg "int"=none
 z_isinstance:mg "isinstance"=none
 z_len:mg "len"=none
 z_list:mg "list"=none
 z_max:mg "max"=none
 z_min:mg "min"=none
 z_range:mg "range"=none
 z_reversed:mg "reversed"=none
 z_set:mg "set"=none
 z_sorted:mg "sorted"=none
 z_sum:mg "sum"=none
 z_tuple:mg "tuple"=none
 k_MOST_RANK:mg "MOST_RANK"=some (.int 1000000000 a.t_MOST_RANK)
 k_MOST_BALLOTS:mg "MOST_BALLOTS"=some (.int 1000000000 a.t_MOST_BALLOTS)
 k_MOST_HANDS:mg "MOST_HANDS"=some (.int 12 a.t_MOST_HANDS)
 k_BASE:mg "BASE"=some (.int 13 a.t_BASE)
 m_NoBundle:mg "NoBundle"=some (.ref a.c_NoBundle)
 h_NoBundle:HCls K a.c_NoBundle
 m_NoBallot:mg "NoBallot"=some (.ref a.c_NoBallot)
 h_NoBallot:HCls K a.c_NoBallot
 m_Torn:mg "Torn"=some (.ref a.c_Torn)
 h_Torn:HCls K a.c_Torn
 m_NoWay:mg "NoWay"=some (.ref a.c_NoWay)
 h_NoWay:HCls K a.c_NoWay
 m_WrongNumber:mg "WrongNumber"=some (.ref a.c_WrongNumber)
 h_WrongNumber:HCls K a.c_WrongNumber
 m_TooHard:mg "TooHard"=some (.ref a.c_TooHard)
 h_TooHard:HCls K a.c_TooHard
 m_NoSheet:mg "NoSheet"=some (.ref a.c_NoSheet)
 h_NoSheet:HCls K a.c_NoSheet
 m_NoRow:mg "NoRow"=some (.ref a.c_NoRow)
 h_NoRow:HCls K a.c_NoRow
 m_NoNumber:mg "NoNumber"=some (.ref a.c_NoNumber)
 h_NoNumber:HCls K a.c_NoNumber
 m_NoChange:mg "NoChange"=some (.ref a.c_NoChange)
 h_NoChange:HCls K a.c_NoChange
 m_Ended:mg "Ended"=some (.ref a.c_Ended)
 h_Ended:HCls K a.c_Ended
 m_PollError:mg "PollError"=some (.ref a.c_PollError)
 h_PollError:HCls K a.c_PollError
 m_Box:mg "Box"=some (.ref a.c_Box)
 cl_Box:Cls K a.c_Box
 mk_Box:Mk K a.c_Box a.f_Box_init
 me_Box_many:Meth K a.c_Box "many" a.f_Box_many
 me_Box_take:Meth K a.c_Box "take" a.f_Box_take
 me_Box_lines_at:Meth K a.c_Box "lines_at" a.f_Box_lines_at
 me_Box_sheet_at:Meth K a.c_Box "sheet_at" a.f_Box_sheet_at
 me_Box_seal_at:Meth K a.c_Box "seal_at" a.f_Box_seal_at
 na_Box_hands:NoAttr K a.c_Box "hands"
 na_Box_bundles:NoAttr K a.c_Box "bundles"
 x_Torn:XCls K a.c_Torn
 k_Torn:XKit K a.c_Torn
 v_Torn:PySem.W.subIn K (.ref a.c_Torn) (.type "ValueError")=some true
 s_Torn_NoBundle:PySem.W.subIn K (.ref a.c_Torn) (.ref a.c_NoBundle)=some false
 s_Torn_NoBallot:PySem.W.subIn K (.ref a.c_Torn) (.ref a.c_NoBallot)=some false
 s_Torn_Torn:PySem.W.subIn K (.ref a.c_Torn) (.ref a.c_Torn)=some true
 s_Torn_NoWay:PySem.W.subIn K (.ref a.c_Torn) (.ref a.c_NoWay)=some false
 s_Torn_WrongNumber:PySem.W.subIn K (.ref a.c_Torn) (.ref a.c_WrongNumber)=some false
 s_Torn_TooHard:PySem.W.subIn K (.ref a.c_Torn) (.ref a.c_TooHard)=some false
 s_Torn_NoSheet:PySem.W.subIn K (.ref a.c_Torn) (.ref a.c_NoSheet)=some false
 s_Torn_NoRow:PySem.W.subIn K (.ref a.c_Torn) (.ref a.c_NoRow)=some false
 s_Torn_NoNumber:PySem.W.subIn K (.ref a.c_Torn) (.ref a.c_NoNumber)=some false
 s_Torn_NoChange:PySem.W.subIn K (.ref a.c_Torn) (.ref a.c_NoChange)=some false
 s_Torn_Ended:PySem.W.subIn K (.ref a.c_Torn) (.ref a.c_Ended)=some false
 s_Torn_PollError:PySem.W.subIn K (.ref a.c_Torn) (.ref a.c_PollError)=some true
 x_NoBundle:XCls K a.c_NoBundle
 k_NoBundle:XKit K a.c_NoBundle
 v_NoBundle:PySem.W.subIn K (.ref a.c_NoBundle) (.type "ValueError")=some true
 s_NoBundle_NoBundle:PySem.W.subIn K (.ref a.c_NoBundle) (.ref a.c_NoBundle)=some true
 s_NoBundle_NoBallot:PySem.W.subIn K (.ref a.c_NoBundle) (.ref a.c_NoBallot)=some false
 s_NoBundle_Torn:PySem.W.subIn K (.ref a.c_NoBundle) (.ref a.c_Torn)=some false
 s_NoBundle_NoWay:PySem.W.subIn K (.ref a.c_NoBundle) (.ref a.c_NoWay)=some false
 s_NoBundle_WrongNumber:PySem.W.subIn K (.ref a.c_NoBundle) (.ref a.c_WrongNumber)=some false
 s_NoBundle_TooHard:PySem.W.subIn K (.ref a.c_NoBundle) (.ref a.c_TooHard)=some false
 s_NoBundle_NoSheet:PySem.W.subIn K (.ref a.c_NoBundle) (.ref a.c_NoSheet)=some false
 s_NoBundle_NoRow:PySem.W.subIn K (.ref a.c_NoBundle) (.ref a.c_NoRow)=some false
 s_NoBundle_NoNumber:PySem.W.subIn K (.ref a.c_NoBundle) (.ref a.c_NoNumber)=some false
 s_NoBundle_NoChange:PySem.W.subIn K (.ref a.c_NoBundle) (.ref a.c_NoChange)=some false
 s_NoBundle_Ended:PySem.W.subIn K (.ref a.c_NoBundle) (.ref a.c_Ended)=some false
 s_NoBundle_PollError:PySem.W.subIn K (.ref a.c_NoBundle) (.ref a.c_PollError)=some true
 x_NoWay:XCls K a.c_NoWay
 k_NoWay:XKit K a.c_NoWay
 v_NoWay:PySem.W.subIn K (.ref a.c_NoWay) (.type "ValueError")=some true
 s_NoWay_NoBundle:PySem.W.subIn K (.ref a.c_NoWay) (.ref a.c_NoBundle)=some false
 s_NoWay_NoBallot:PySem.W.subIn K (.ref a.c_NoWay) (.ref a.c_NoBallot)=some false
 s_NoWay_Torn:PySem.W.subIn K (.ref a.c_NoWay) (.ref a.c_Torn)=some false
 s_NoWay_NoWay:PySem.W.subIn K (.ref a.c_NoWay) (.ref a.c_NoWay)=some true
 s_NoWay_WrongNumber:PySem.W.subIn K (.ref a.c_NoWay) (.ref a.c_WrongNumber)=some false
 s_NoWay_TooHard:PySem.W.subIn K (.ref a.c_NoWay) (.ref a.c_TooHard)=some false
 s_NoWay_NoSheet:PySem.W.subIn K (.ref a.c_NoWay) (.ref a.c_NoSheet)=some false
 s_NoWay_NoRow:PySem.W.subIn K (.ref a.c_NoWay) (.ref a.c_NoRow)=some false
 s_NoWay_NoNumber:PySem.W.subIn K (.ref a.c_NoWay) (.ref a.c_NoNumber)=some false
 s_NoWay_NoChange:PySem.W.subIn K (.ref a.c_NoWay) (.ref a.c_NoChange)=some false
 s_NoWay_Ended:PySem.W.subIn K (.ref a.c_NoWay) (.ref a.c_Ended)=some false
 s_NoWay_PollError:PySem.W.subIn K (.ref a.c_NoWay) (.ref a.c_PollError)=some true
 x_NoBallot:XCls K a.c_NoBallot
 k_NoBallot:XKit K a.c_NoBallot
 v_NoBallot:PySem.W.subIn K (.ref a.c_NoBallot) (.type "ValueError")=some true
 s_NoBallot_NoBundle:PySem.W.subIn K (.ref a.c_NoBallot) (.ref a.c_NoBundle)=some false
 s_NoBallot_NoBallot:PySem.W.subIn K (.ref a.c_NoBallot) (.ref a.c_NoBallot)=some true
 s_NoBallot_Torn:PySem.W.subIn K (.ref a.c_NoBallot) (.ref a.c_Torn)=some false
 s_NoBallot_NoWay:PySem.W.subIn K (.ref a.c_NoBallot) (.ref a.c_NoWay)=some false
 s_NoBallot_WrongNumber:PySem.W.subIn K (.ref a.c_NoBallot) (.ref a.c_WrongNumber)=some false
 s_NoBallot_TooHard:PySem.W.subIn K (.ref a.c_NoBallot) (.ref a.c_TooHard)=some false
 s_NoBallot_NoSheet:PySem.W.subIn K (.ref a.c_NoBallot) (.ref a.c_NoSheet)=some false
 s_NoBallot_NoRow:PySem.W.subIn K (.ref a.c_NoBallot) (.ref a.c_NoRow)=some false
 s_NoBallot_NoNumber:PySem.W.subIn K (.ref a.c_NoBallot) (.ref a.c_NoNumber)=some false
 s_NoBallot_NoChange:PySem.W.subIn K (.ref a.c_NoBallot) (.ref a.c_NoChange)=some false
 s_NoBallot_Ended:PySem.W.subIn K (.ref a.c_NoBallot) (.ref a.c_Ended)=some false
 s_NoBallot_PollError:PySem.W.subIn K (.ref a.c_NoBallot) (.ref a.c_PollError)=some true
local macro_rules | `(tactic| trivial)=>`(tactic| refine Sz.neg (by trivial))
local macro_rules | `(tactic| trivial)=>`(tactic| refine Sz.fdiv (by trivial))
local macro_rules | `(tactic| trivial)=>`(tactic| refine Sz.sub (by trivial) (by trivial))
local macro_rules | `(tactic| trivial)=>`(tactic| refine Sz.add (by trivial) (by trivial))
local macro_rules | `(tactic| trivial)=>`(tactic| refine Sz.mul (by trivial) (by trivial))
local macro_rules | `(tactic| trivial)=>`(tactic| exact sz_fmod _ (by first | decide | decide +kernel) (szd 200))
local macro_rules | `(tactic| trivial)=>`(tactic| first | assumption | exact szd 64 | exact szd 200 | exact szd 1000)
local macro_rules | `(tactic| and_intros)=>`(tactic| (repeat (first | refine ⟨_,rfl,?_⟩ | refine ⟨_,_,rfl,rfl,?_⟩ | refine ⟨rfl,?_⟩ | refine ⟨(by show (_:Int)≠0;first | decide | decide +kernel),?_⟩ | refine ⟨⟨(by show (_:Int)≠0;decide),szd 9000⟩,?_⟩ | refine ⟨(by show CPow _ _;exact ⟨by decide,by decide,by decide⟩),?_⟩ | refine ⟨(by show CMulB _ _;refine ⟨_,_,(by trivial),(by trivial),?_⟩;decide +kernel),?_⟩ | refine ⟨_,_,_,_,rfl,rfl,SqL.of (by assumption),(by rfl),?_⟩ | refine ⟨_,_,_,_,rfl,rfl,SqT.of (by assumption),(by rfl),?_⟩ | refine ⟨_,_,rfl,.inl (SqL.of (by assumption)),?_⟩ | refine ⟨_,_,rfl,.inr (SqT.of (by assumption)),?_⟩)))
section
variable {P:Program} {w:World} {K:PySem.W.Frag} {mg:Str->Option Value} {base:Heap} {ad:Ads}
theorem ok_with_one (T:Tx K mg ad):FnOk P w K mg base CX0 1 ad.f_with_one ad.d_with_one ["mask","hand"] spWith:=by
 refine T.F_with_one.ok sc_with_one (fun vs H Q E h=>?_) (fun cdv A outer s H vs Q E hr h=>?_)
 ·obtain ⟨m,h,rfl,_⟩:=h
  rfl
 obtain ⟨m,h,rfl,h0,h1,q⟩:=h
 refine ⟨_,(@pss_one _ _ _ (@ps_ret _ _ _ _ (@pe_op _ _ _ _ _ _ _ _ op_or (pv 0) (@pe_op _ _ _ _ _ _ _ _ op_shl pe_int (pv 1))))),?_⟩
 exact ⟨_,rfl,_,rfl,_,_,rfl,rfl,⟨h0,by omega,by decide⟩,_,_,rfl,rfl,q⟩
theorem ok_members (T:Tx K mg ad):FnOk P w K mg base CX0 1 ad.f_members ad.d_members ["mask"] spMembers:=by
 refine T.F_members.ok sc_members (fun vs H Q E h=>?_) (fun cdv A outer s H vs Q E hr h=>?_)
 ·obtain ⟨m,rfl,_⟩:=h
  rfl
 obtain ⟨m,rfl,m0,m1,q⟩:=h
 refine ⟨_,(@pss_one _ _ _ (@ps_ret _ _ _ _ (pe_comp (fsc:=defScope s_members) (N:=["mask"]) (Nc:=["mask","hand"]) rfl rfl ⟨rfl,by decide +kernel,by decide +kernel,rfl,by decide +kernel,rfl,by decide +kernel,rfl,by decide +kernel⟩ rfl (pi_range1 rfl T.z_range (@pa_cons _ _ _ _ _ (pe_bm0 PySem.F.plainAttrs_int PySem.F.slot_int_bit_length PySem.F.type_int_bit_length mt_bits (pv 0)) pa_nil (by rfl))) (fun _ _ _ _=>(pif_one (@pt_cmpR _ _ _ _ _ _ _ _ op_eq (@pe_op _ _ _ _ _ _ _ _ op_and (@pe_op _ _ _ _ _ _ _ _ op_shr (pv 0) (pv 1)) pe_int) pe_int (nomark _)))) (fun _ _ _ _=>(pv 1))))),?_⟩
 have hb:(Builtin.Int.intBits m)<=12:=intBits_le_iff.mpr (by show m.natAbs < 4096;omega)
 refine ⟨_,rfl,rfl,m,rfl,rfl,_,rfl,by omega,by omega,?_⟩
 have en:((Builtin.Int.intBits m:Nat):Int).toNat=Builtin.Int.intBits m:=by omega
 rw [en]
 refine comp_range (small63 (by omega)) (fun D i ys H'=>ys=(hands i (bit m)).map V.int/\H'=upd H D (.lst ys)) (fun D hD=>⟨rfl,rfl⟩) (fun D i ys H' ⟨e1,e2⟩=>by rw [e2,e1];exact ⟨upd_same,by rw [List.length_map];exact hands_len i (bit m)⟩) ?_ ?_
 ·rintro D i ys H' K1 K2 hD hi ⟨e1,rfl⟩ k1 k2
  have ei:(0+(i:Int)).toNat=i:=by omega
  refine ⟨_,rfl,_,rfl,_,_,rfl,rfl,(by show (0:Int)<=0+(i:Int);omega),_,_,rfl,rfl,rfl,_,rfl,?_⟩
  dsimp only
  rw [show decide (V.int (Builtin.bitAnd (m / 2 ^ (0+(i:Int)).toNat) 1)=V.int 1)=bit m i from by rw [holds_bit,ei]]
  have ms:=hands_succ i (bit m)
  cases e:bit m i with
  | true =>
    rw [e,if_pos rfl] at ms
    refine iteT ⟨_,rfl,?_⟩
    refine k1 _ _ upd_same ⟨?_,by rw [upd_upd]⟩
    rw [ms,List.map_append,e1,Int.zero_add]
    rfl
  | false =>
    rw [e,if_neg (by decide)] at ms
    refine iteF ?_
    exact k2 _ ⟨by rw [ms];exact e1,rfl⟩
 ·rintro D ys H' hD ⟨rfl,rfl⟩
  refine q D _ hD (same_new hD _) ?_
  rw [upd_same,bits_all m0 m1]
theorem ok_is_whole (T:Tx K mg ad):FnOk P w K mg base CX0 1 ad.f_is_whole ad.d_is_whole ["thing"] spWhole:=by
 refine T.F_is_whole.ok sc_is_whole (fun vs H Q E h=>?_) (fun cdv A outer s H vs Q E hr h=>?_)
 ·obtain ⟨c,rfl,_⟩:=h
  rfl
 obtain ⟨c,rfl,q⟩:=h
 refine ⟨_,(@pss_one _ _ _ (@ps_ret _ _ _ _ (@pe_and _ _ _ _ _ _ _ (@pe_callB _ _ _ _ _ _ _ _ _ call_isi (by rfl) T.z_isinstance PyProof.Rows.boot_isinstance (@pa_cons _ _ _ _ _ (pv 0) (@pa_cons _ _ _ _ _ (pe_bltn (v:=.ty "int") rfl T.z_int PyProof.Rows.boot_int rfl) pa_nil (by rfl)) (by rfl)) (by decide) (by decide) (by rfl) (by rfl)) (@pe_one _ _ _ _ _ (@pe_not _ _ _ _ (@pe_callB _ _ _ _ _ _ _ _ _ call_isi (by rfl) T.z_isinstance PyProof.Rows.boot_isinstance (@pa_cons _ _ _ _ _ (pv 0) (@pa_cons _ _ _ _ _ (pe_bltn (v:=.ty "bool") rfl T.z_bool PyProof.Rows.boot_bool rfl) pa_nil (by rfl)) (by rfl)) (by decide) (by decide) (by rfl) (by rfl))))))),?_⟩
 refine ⟨_,rfl,_,_,_,_,rfl,TyOf.int c,kit_int_int,_,rfl,?_⟩
 refine iteT ?_
 exact ⟨_,rfl,_,_,_,_,rfl,TyOf.int c,kit_int_bool,_,rfl,q⟩
theorem ok_is_wholeX (T:Tx K mg ad):FnOk P w K mg base CX0 1 ad.f_is_whole ad.d_is_whole ["thing"] (spWhX K):=by
 refine T.F_is_whole.ok sc_is_whole (fun vs H Q E h=>?_) (fun cdv A outer s H vs Q E hr h=>?_)
 ·obtain ⟨x,b,rfl,_⟩:=h
  rfl
 obtain ⟨x,b,rfl,⟨t,b1,b2,ty,k1,k2,e⟩,q⟩:=h
 refine ⟨_,(@pss_one _ _ _ (@ps_ret _ _ _ _ (@pe_and _ _ _ _ _ _ _ (@pe_callB _ _ _ _ _ _ _ _ _ call_isi (by rfl) T.z_isinstance PyProof.Rows.boot_isinstance (@pa_cons _ _ _ _ _ (pv 0) (@pa_cons _ _ _ _ _ (pe_bltn (v:=.ty "int") rfl T.z_int PyProof.Rows.boot_int rfl) pa_nil (by rfl)) (by rfl)) (by decide) (by decide) (by rfl) (by rfl)) (@pe_one _ _ _ _ _ (@pe_not _ _ _ _ (@pe_callB _ _ _ _ _ _ _ _ _ call_isi (by rfl) T.z_isinstance PyProof.Rows.boot_isinstance (@pa_cons _ _ _ _ _ (pv 0) (@pa_cons _ _ _ _ _ (pe_bltn (v:=.ty "bool") rfl T.z_bool PyProof.Rows.boot_bool rfl) pa_nil (by rfl)) (by rfl)) (by decide) (by decide) (by rfl) (by rfl))))))),?_⟩
 refine ⟨_,rfl,_,_,_,_,rfl,ty,k1,_,rfl,?_⟩
 subst e
 cases b1 with
 | true =>
   refine iteT ?_
   exact ⟨_,rfl,_,_,_,_,rfl,ty,k2,_,rfl,q⟩
 | false=>exact iteF q
theorem ok_numbers_by_slip (T:Tx K mg ad):FnOk P w K mg base CX0 1 ad.f_numbers_by_slip ad.d_numbers_by_slip ["lines"] spNBS:=by
 refine T.F_numbers_by_slip.ok sc_numbers_by_slip (fun vs H Q E h=>?_) (fun cdv A outer s H vs Q E hr h=>?_)
 ·obtain ⟨l,ls,p,rfl,_⟩:=h
  rfl
 obtain ⟨l,ls,p,rfl,hl,g,hp,p64,q⟩:=h
 refine ⟨_,(@pss_cons _ _ _ _ _ (@ps_set _ _ (1) _ _ _ _ sc_numbers_by_slip.nd rfl (Or.inl rfl) pe_dnewT (by rfl) (by first | exact .inl rfl | exact .inr rfl | assumption)) (@pss_cons _ _ _ _ _ (ps_for PassesOwn.never rfl (pi_list (pv 0)) (pg_tup rfl (pgs_cons (pg_name (i:=2) sc_numbers_by_slip.nd rfl (Or.inl rfl)) (pgs_cons (pg_name (i:=3) sc_numbers_by_slip.nd rfl (Or.inl rfl)) pgs_nil))) (@pss_one _ _ _ (ps_dput (u1 hr.units) (pv 1) (pv 2) (@pe_op _ _ _ _ _ _ _ _ op_add (pe_dget2 (u1 hr.units) (pv 1) (pv 2) pe_int ⟨rfl,rfl,rfl,rfl⟩) (pv 3)) rfl))) (@pss_one _ _ _ (@ps_ret _ _ _ _ (pv 1))))),?_⟩
 intro d hd
 have s0:=same_new hd (.dT [])
 have e0:(upd H d (.dT [])) d=some (.dT []):=upd_same
 generalize upd H d (.dT [])=H0 at s0 e0 ⊢
 refine ⟨_,rfl,l,rfl,⟨_,SqL.of (s0 _ _ hl)⟩,for_list (xs:=vls ls) (fun i σ' H'=>∃(v2 v3:Option V) (kvs:List (List Key × V)),σ'=[some (.ref l),some (.ref d),v2,v3]/\Same H H'/\H' d=some (.dT kvs)/\DictOf (dsOf (ls.take i)) kvs) ⟨none,none,[],rfl,s0,e0,DictOf.nil⟩ (fun i σ' H' _ ⟨_,_,_,_,e,_⟩=>SqL.of (e _ _ hl)) ?_ ?_⟩
 ·rintro i x σ' H' hx ⟨v2,v3,kvs,rfl,s1,e1,dk⟩
  obtain ⟨f,hf,rfl,fm,et⟩:=vls_get hx
  obtain ⟨g1,g2⟩:=g f fm
  have sub:∀q∈dsOf (ls.take i),q.1∈p:=fun q m=>by
   obtain ⟨r,rm,rfl⟩:=List.mem_map.mp m
   exact hp _ (List.mem_map.mpr ⟨r,List.mem_of_mem_take rm,rfl⟩)
  have lim:=dk.len sub
  have kt:H' f.2.1=some (.tup ((f.2.2.1.map Sum.inl:List Key).map kV)):=by rw [kv_map];exact s1 _ _ g2
  refine ⟨f.1,_,rfl,SqT.of (s1 _ _ g1),rfl,_,_,rfl,_,_,rfl,rfl,?_⟩
  refine ⟨_,rfl,d,rfl,.inr ⟨_,.inl e1⟩,_,rfl,_,DGet.t e1 kt,?_⟩
  rw [old_val dk]
  refine ⟨_,rfl,_,_,rfl,rfl,_,rfl,_,rfl,d,_,rfl,DPut.t e1 kt (small1000 (by omega)),?_⟩
  refine ⟨_,_,_,rfl,same_upd s1 hd,upd_same,?_⟩
  rw [et,dsOf_append]
  exact dk.put f.2.2.1 f.2.2.2
 ·rintro σ' H' ⟨v2,v3,kvs,rfl,s1,e1,dk⟩
  rw [vls_len,List.take_of_length_le (Nat.le_refl _)] at dk
  exact ⟨_,rfl,q d kvs H' hd s1 e1 dk⟩
theorem ok_sheet_from (T:Tx K mg ad):FnOk P w K mg base CX0 1 ad.f_sheet_from ad.d_sheet_from ["numbers"] spSF:=by
 refine T.F_sheet_from.ok sc_sheet_from (fun vs H Q E h=>?_) (fun cdv A outer s H vs Q E hr h=>?_)
 ·obtain ⟨d,kvs,rfl,_⟩:=h
  rfl
 obtain ⟨d,kvs,rfl,hd,vd,k64,q⟩:=h
 refine ⟨_,(@pss_one _ _ _ (@ps_ret _ _ _ _ (pe_comp (fsc:=defScope s_sheet_from) (N:=["numbers"]) (Nc:=["numbers","slip"]) rfl rfl ⟨rfl,by decide +kernel,by decide +kernel,rfl,by decide +kernel,rfl,by decide +kernel,rfl,by decide +kernel⟩ rfl (pi_list (@pe_callB _ _ _ _ _ _ _ _ _ (call_sortedDT rfl hr.units) (by rfl) T.z_sorted PyProof.Rows.boot_sorted (@pa_cons _ _ _ _ _ (pv 0) pa_nil (by rfl)) (by decide) (by decide) (by rfl) (by rfl))) (fun _ _ _ _=>(pif_one (@pt_cmpR _ _ _ _ _ _ _ _ op_gt (pe_dget (u1 hr.units) (pv 0) (pv 1) (fun _ _=>rfl)) pe_int (nomark _)))) (fun _ _ _ _=>(@pe_tup _ _ _ _ _ (@pa_cons _ _ _ _ _ (pv 1) (@pa_cons _ _ _ _ _ (pe_dget (u1 hr.units) (pv 0) (pv 1) (fun _ _=>rfl)) pa_nil (by rfl)) (by rfl))))))),?_⟩
 obtain ⟨ks,k1,k2,knd,kmem⟩:=vd.keys
 refine ⟨_,rfl,d,kvs,ks,rfl,.inl hd,k1,by omega,fun l rs r1 r2 r3 hl=>?_⟩
 have sl:=same_new hl (.lst (rs.map fun q=>V.ref q.1))
 have el:(upd H l (.lst (rs.map fun q=>V.ref q.1))) l=some (.lst (rs.map fun q=>V.ref q.1)):=upd_same
 generalize upd H l (.lst (rs.map fun q=>V.ref q.1))=H1 at sl el ⊢
 have rl:rs.length=ks.length:=by
  have:=r2.length_eq
  rw [List.length_map] at this
  exact this
 have ov:∀r∈rs,valV kvs (r.2.map Sum.inl:List Key)=some (.int (oldV kvs r.2)):=fun r m=>by
  obtain ⟨n,e⟩:=(kmem r.2).mp (r2.mem_iff.mp (List.mem_map.mpr ⟨r,m,rfl⟩))
  unfold oldV
  rw [e]
 refine ⟨l,rfl,⟨_,SqL.of el⟩,?_⟩
 refine comp_list (xs:=rs.map fun q=>V.ref q.1) (by rw [List.length_map];exact small63 (by omega)) (fun D i ys H2=>∃ls:Ls,ys=vls ls/\ls.length<=i/\H2 D=some (.lst ys)/\Same H1 H2/\GoodL H2 ls/\dsOf ls=((rs.take i).filter fun r=>decide (0 < oldV kvs r.2)).map fun r=>(r.2,oldV kvs r.2)) (fun D hD=>⟨[],rfl,Nat.le_refl _,upd_same,same_new hD _,(fun _ m=>nomatch m),rfl⟩) (fun D i ys H2 ⟨ls,f1,f2,f3,_⟩=>⟨f3,by rw [f1,vls_len];exact f2⟩) (fun D i ys H2 hD ⟨ls,_,_,_,f4,_⟩=>SqL.of (f4 _ _ el)) ?_ ?_
 ·rintro D i x ys H2 K1 K2 hD hx ⟨ls,rfl,f2,f3,f4,f5,f6⟩ kk1 kk2
  rw [List.getElem?_map] at hx
  cases er:rs[i]? with
  | none=>rw [er] at hx;cases hx
  | some r =>
    rw [er] at hx
    cases Option.some.inj hx
    have rm:=List.mem_of_getElem? er
    have et:rs.take (i+1)=rs.take i++[r]:=by rw [List.take_succ,er];rfl
    have sH:=sl.trans f4
    have ek:=sH _ _ (r1 r rm)
    have dg:=DGet.t (k:=(r.2.map Sum.inl:List Key)) (sH _ _ hd) (by rw [kv_map];exact ek)
    rw [ov r rm] at dg
    refine ⟨_,rfl,_,rfl,d,_,rfl,dg,?_⟩
    and_intros
    by_cases c:0 < oldV kvs r.2
    ·refine ifT (decide_eq_true c) ?_
     refine ⟨_,rfl,_,rfl,_,rfl,d,_,rfl,dg,(by show 2<=sizeLine;decide),fun t ht=>?_⟩
     have s6:=same_new ht (.tup [V.ref r.1,V.int (oldV kvs r.2)])
     refine kk1 _ _ (s6 _ _ f3) ⟨ls++[(t,r.1,r.2,oldV kvs r.2)],by rw [vls_append];rfl,by rw [List.length_append];exact Nat.succ_le_succ f2,upd_same,same_upd (f4.trans s6) hD,?_,?_⟩
     ·refine GoodL.upd (s6 _ _ f3) ((f5.same s6).append fun q m=>?_)
      rw [List.mem_singleton.mp m]
      exact ⟨upd_same,s6 _ _ ek⟩
     ·rw [dsOf_append,f6,et,List.filter_append,List.map_append]
      simp [c,dsOf]
    ·refine ifF (decide_eq_false c) ?_
     refine kk2 _ ⟨ls,rfl,Nat.le_succ_of_le f2,f3,f4,f5,?_⟩
     rw [f6,et,List.filter_append,List.map_append]
     simp [c]
 ·rintro D ys H2 hD ⟨ls,rfl,f2,f3,f4,f5,f6⟩
  rw [List.length_map] at f2
  rw [List.length_map,List.take_of_length_le (Nat.le_refl _)] at f6
  have rnd:(rs.map (·.2)).Nodup:=r2.nodup_iff.mpr knd
  refine q D ls H2 (none_of sl hD) (sl.trans f4) f3 f5 ?_ (fun ts n=>?_) (by omega)
  ·rw [f6,List.pairwise_map]
   have st:rs.Pairwise (fun x y=>HT.lexLt x.2 y.2=true):=by
    have nd2:rs.Pairwise (fun x y=>x.2≠y.2):=List.pairwise_map.mp rnd
    exact (r3.and nd2).imp fun ⟨h1,h2⟩=>lex_tot h1 h2
   exact st.filter _
  ·rw [f6]
   constructor
   ·intro m
    obtain ⟨r,rm,e⟩:=List.mem_map.mp m
    obtain ⟨rm1,rm2⟩:=List.mem_filter.mp rm
    injection e with e1 e2
    subst e1
    subst e2
    exact ⟨ov r rm1,by simpa using rm2⟩
   ·rintro ⟨e,n0⟩
    have tk:ts∈ks:=(kmem ts).mpr ⟨n,e⟩
    obtain ⟨r,rm,rfl⟩:=List.mem_map.mp (r2.mem_iff.mpr tk)
    have o:=ov r rm
    rw [e] at o
    injection o with o
    injection o with o
    exact List.mem_map.mpr ⟨r,List.mem_filter.mpr ⟨rm,by rw [<- o];simpa using n0⟩,by rw [<- o]⟩
theorem ok_seal_of (T:Tx K mg ad):FnOk P w K mg base CX0 1 ad.f_seal_of ad.d_seal_of ["codes"] spSeal:=by
 refine T.F_seal_of.ok sc_seal_of (fun vs H Q E h=>?_) (fun cdv A outer s H vs Q E hr h=>?_)
 ·obtain ⟨p,cs,rfl,_⟩:=h
  rfl
 obtain ⟨p,cs,rfl,h1,z1,h100,q⟩:=h
 refine ⟨_,(@pss_cons _ _ _ _ _ (@ps_set _ _ (1) _ _ _ _ sc_seal_of.nd rfl (Or.inl rfl) pe_int (by rfl) (by first | exact .inl rfl | exact .inr rfl | assumption)) (@pss_cons _ _ _ _ _ (@ps_set _ _ (2) _ _ _ _ sc_seal_of.nd rfl (Or.inl rfl) pe_int (by rfl) (by first | exact .inl rfl | exact .inr rfl | assumption)) (@pss_cons _ _ _ _ _ (@ps_set _ _ (3) _ _ _ _ sc_seal_of.nd rfl (Or.inl rfl) pe_int (by rfl) (by first | exact .inl rfl | exact .inr rfl | assumption)) (@pss_cons _ _ _ _ _ (ps_for PassesOwn.never rfl (pi_enum1 rfl T.z_enumerate (pv 0) pe_int) (pg_tup rfl (pgs_cons (pg_name (i:=4) sc_seal_of.nd rfl (Or.inl rfl)) (pgs_cons (pg_name (i:=5) sc_seal_of.nd rfl (Or.inl rfl)) pgs_nil))) (@pss_cons _ _ _ _ _ (@ps_set _ _ (1) _ _ _ _ sc_seal_of.nd rfl (Or.inl rfl) (@pe_op _ _ _ _ _ _ _ _ op_add (pv 1) (pv 5)) (by rfl) (by first | exact .inl rfl | exact .inr rfl | assumption)) (@pss_cons _ _ _ _ _ (@ps_set _ _ (2) _ _ _ _ sc_seal_of.nd rfl (Or.inl rfl) (@pe_op _ _ _ _ _ _ _ _ op_add (pv 2) (@pe_op _ _ _ _ _ _ _ _ op_mulB (pv 5) (pv 4))) (by rfl) (by first | exact .inl rfl | exact .inr rfl | assumption)) (@pss_one _ _ _ (@ps_set _ _ (3) _ _ _ _ sc_seal_of.nd rfl (Or.inl rfl) (@pe_op _ _ _ _ _ _ _ _ op_add (pv 3) (@pe_op _ _ _ _ _ _ _ _ op_mulB (@pe_op _ _ _ _ _ _ _ _ op_mulB (pv 5) (pv 4)) (pv 4))) (by rfl) (by first | exact .inl rfl | exact .inr rfl | assumption)))))) (@pss_one _ _ _ (@ps_ret _ _ _ _ (@pe_tup _ _ _ _ _ (@pa_cons _ _ _ _ _ (@pe_callB _ _ _ _ _ _ _ _ _ call_len_seq (by rfl) T.z_len PySem.boot_len (@pa_cons _ _ _ _ _ (pv 0) pa_nil (by rfl)) (by decide) (by decide) (by rfl) (by rfl)) (@pa_cons _ _ _ _ _ (pv 1) (@pa_cons _ _ _ _ _ (pv 2) (@pa_cons _ _ _ _ _ (pv 3) pa_nil (by rfl)) (by rfl)) (by rfl)) (by rfl))))))))),?_⟩
 refine ⟨_,rfl,p,rfl,⟨_,SqL.of h1⟩,for_enum1 (xs:=cs.map V.int) (fun i σ' H'=>∃v4 v5,σ'=[some (.ref p),some (.int (ws f1 0 (cs.take i))),some (.int (ws f2 0 (cs.take i))),some (.int (ws f3 0 (cs.take i))),v4,v5]/\Same H H') ⟨none,none,rfl,fun _ _ e=>e⟩ (fun i σ' H' _ ⟨_,_,_,e⟩=>SqL.of (e _ _ h1)) ?_ ?_⟩
 ·rintro i x T0 σ' H' hx ⟨v4,v5,rfl,s1⟩ hT
  obtain ⟨c,hc,rfl⟩:=int_at hx
  have hi:i < cs.length:=(List.getElem?_eq_some_iff.mp hc).1
  have s2:=same_new hT (.tup [.int ((i:Int)+1),.int c])
  have eT:(upd H' T0 (.tup [.int ((i:Int)+1),.int c])) T0=some (.tup [.int ((i:Int)+1),.int c]):=upd_same
  generalize upd H' T0 (.tup [.int ((i:Int)+1),.int c])=H2 at s2 eT ⊢
  have szc:Sz 300 c:=z1 c (List.mem_of_getElem? hc)
  have szi:Sz 64 ((i:Int)+1):=sz_of (by omega) (by omega)
  have et:cs.take (i+1)=cs.take i++[c]:=by rw [List.take_succ,hc];rfl
  have el:((cs.take i).length:Int)=i:=by rw [List.length_take];omega
  refine ⟨T0,_,rfl,SqT.of eT,rfl,_,_,rfl,_,_,rfl,rfl,?_⟩
  and_intros
  have w1:ws f1 0 (cs.take (i+1))=ws f1 0 (cs.take i)+c:=by
   rw [et,ws_snoc]
   show _+c*1=_
   rw [Int.mul_one]
  have w2:ws f2 0 (cs.take (i+1))=ws f2 0 (cs.take i)+c*((i:Int)+1):=by
   rw [et,ws_snoc,el,Int.zero_add]
   rfl
  have w3:ws f3 0 (cs.take (i+1))=ws f3 0 (cs.take i)+c*((i:Int)+1)*((i:Int)+1):=by
   rw [et,ws_snoc,el,Int.zero_add,Int.mul_assoc]
   rfl
  exact ⟨_,_,by rw [w1,w2,w3];rfl,s1.trans s2⟩
 ·rintro σ' H' ⟨v4,v5,e,s1⟩
  rw [List.length_map,List.take_of_length_le (Nat.le_refl _)] at e
  subst e
  have hp:=s1 _ _ h1
  and_intros
  refine ⟨(by show 4<=sizeLine;decide),fun t ht=>?_⟩
  exact q t _ (none_of s1 ht) (s1.trans (same_new ht _)) (by rw [upd_same];unfold sealL;rw [List.length_map];rfl)
theorem ok_place_of (T:Tx K mg ad):FnOk P w K mg base CX0 1 ad.f_place_of ad.d_place_of ["lacks","many"] spPlace:=by
 refine T.F_place_of.ok sc_place_of (fun vs H Q E h=>?_) (fun cdv A outer s H vs Q E hr h=>?_)
 ·obtain ⟨p,x0,x1,x2,n,rfl,_⟩:=h
  rfl
 obtain ⟨p,x0,x1,x2,n,rfl,h1,z0,z1,q⟩:=h
 refine ⟨_,(@pss_cons _ _ _ _ _ (@ps_if _ _ _ _ _ _ _ _ (@pt_cmpR _ _ _ _ _ _ _ _ op_eq (@pe_ix _ _ _ _ _ _ _ ix_list (pv 0) pe_int (fun _ _=>rfl)) pe_int (nomark _)) (@pss_one _ _ _ (@ps_ret _ _ _ _ pe_int)) pss_nil) (@pss_cons _ _ _ _ _ (@ps_set _ _ (2) _ _ _ _ sc_place_of.nd rfl (Or.inl rfl) (@pe_op _ _ _ _ _ _ _ _ op_fdivB (@pe_ix _ _ _ _ _ _ _ ix_list (pv 0) pe_int (fun _ _=>rfl)) (@pe_ix _ _ _ _ _ _ _ ix_list (pv 0) pe_int (fun _ _=>rfl))) (by rfl) (by first | exact .inl rfl | exact .inr rfl | assumption)) (@pss_cons _ _ _ _ _ (@ps_if _ _ _ _ _ _ _ _ (PW.pt (@pw_or _ _ _ _ _ _ _ (@pt_cmpR _ _ _ _ _ _ _ _ op_lt (pv 2) pe_int (nomark _)) (@pw_or1 _ _ _ _ (@pt_cmpR _ _ _ _ _ _ _ _ op_gt (pv 2) (pv 1) (nomark _))))) (@pss_one _ _ _ (@ps_ret _ _ _ _ pe_int)) pss_nil) (@pss_cons _ _ _ _ _ (@ps_if _ _ _ _ _ _ _ _ (PW.pt (@pw_or _ _ _ _ _ _ _ (@pt_cmpR _ _ _ _ _ _ _ _ op_ne (@pe_ix _ _ _ _ _ _ _ ix_list (pv 0) pe_int (fun _ _=>rfl)) (@pe_op _ _ _ _ _ _ _ _ op_mulB (@pe_ix _ _ _ _ _ _ _ ix_list (pv 0) pe_int (fun _ _=>rfl)) (pv 2)) (nomark _)) (@pw_or1 _ _ _ _ (@pt_cmpR _ _ _ _ _ _ _ _ op_ne (@pe_ix _ _ _ _ _ _ _ ix_list (pv 0) pe_int (fun _ _=>rfl)) (@pe_op _ _ _ _ _ _ _ _ op_mulB (@pe_op _ _ _ _ _ _ _ _ op_mulB (@pe_ix _ _ _ _ _ _ _ ix_list (pv 0) pe_int (fun _ _=>rfl)) (pv 2)) (pv 2)) (nomark _))))) (@pss_one _ _ _ (@ps_ret _ _ _ _ pe_int)) pss_nil) (@pss_one _ _ _ (@ps_ret _ _ _ _ (pv 2))))))),?_⟩
 and_intros
 have szp:Sz 1000 (x1.fdiv x0):=z1.fdiv
 by_cases c:x0=0
 ·have e:placeI x0 x1 x2 n=0:=by unfold placeI;rw [if_pos c]
  rw [e] at q
  exact ifT (eq_t c) q
 refine ifF (eq_f c) ?_
 and_intros
 refine ⟨⟨c,z0.mono (by decide)⟩,?_⟩
 unfold placeI at q
 rw [if_neg c] at q
 and_intros
 by_cases c1:x1.fdiv x0 < 1
 ·rw [if_pos (.inl c1)] at q
  exact ifT (decide_eq_true c1) (ifT rfl q)
 refine ifF (decide_eq_false c1) ?_
 and_intros
 by_cases c2:n < x1.fdiv x0
 ·rw [if_pos (.inr c2)] at q
  exact ifT (decide_eq_true c2) q
 rw [if_neg (by omega)] at q
 refine ifF (decide_eq_false c2) ?_
 and_intros
 by_cases c3:x1=x0*x1.fdiv x0
 ·refine ifF (ne_f c3) ?_
  and_intros
  by_cases c4:x2=x0*x1.fdiv x0*x1.fdiv x0
  ·rw [if_neg (by rintro (z | z);exact z c3;exact z c4)] at q
   refine ifF (ne_f c4) ⟨_,rfl,q⟩
  ·rw [if_pos (.inr c4)] at q
   exact ifT (ne_t c4) q
 ·rw [if_pos (.inl c3)] at q
  exact ifT (ne_t c3) (ifT rfl q)
theorem ok_law_cell (T:Tx K mg ad):FnOk P w K mg base CX0 1 ad.f_law_cell ad.d_law_cell ["_law_script","_law_k"] (spC40 K):=by
 refine T.F_law_cell.ok sc_law_cell (fun vs H Q E h=>?_) (fun cdv A outer s H vs Q E hr h=>?_)
 ·obtain ⟨p,ns,k,rfl,_⟩:=h
  rfl
 obtain ⟨p,ns,k,rfl,hS,h63,k0,k1,q⟩:=h
 refine ⟨_,(@pss_cons _ _ _ _ _ (@ps_if _ _ _ _ _ _ _ _ (@pt_cmpR _ _ _ _ _ _ _ _ op_lt (pv 1) (@pe_callB _ _ _ _ _ _ _ _ _ call_len_seq (by rfl) T.z_len PySem.boot_len (@pa_cons _ _ _ _ _ (pv 0) pa_nil (by rfl)) (by decide) (by decide) (by rfl) (by rfl)) (nomark _)) (@pss_one _ _ _ (@ps_ret _ _ _ _ (@pe_op _ _ _ _ _ _ _ _ op_modN (@pe_ix _ _ _ _ _ _ _ ix_list (pv 0) (pv 1) (fun _ _=>rfl)) (@pe_op _ _ _ _ _ _ _ _ op_pow pe_int pe_int)))) pss_nil) (@pss_one _ _ _ (@ps_ret _ _ _ _ (@pe_op _ _ _ _ _ _ _ _ op_modN (@pe_op _ _ _ _ _ _ _ _ op_mulB (@pe_op _ _ _ _ _ _ _ _ op_add (@pe_op _ _ _ _ _ _ _ _ op_mulB (pv 1) (pv 1)) pe_int) pe_int) pe_int)))),?_⟩
 have hl:(ns.map V.int).length=ns.length:=List.length_map _
 have szk:Sz 64 k:=sz_of (by omega) (by omega)
 have p40:(0:Int) < 10 ^ (40:Int).toNat:=by decide +kernel
 refine ⟨_,rfl,_,rfl,p,_,rfl,.inl hS,_,_,rfl,rfl,_,rfl,?_⟩
 refine ite2 (fun c=>?_) (fun c=>?_)
 ·have c':k < (((ns.map V.int).length:Nat):Int):=of_decide_eq_true c
  rw [hl] at c'
  obtain ⟨v,hv⟩:=item_at k0 c'
  refine ⟨_,rfl,_,rfl,p,_,_,_,rfl,rfl,hS,hv,_,_,rfl,rfl,cpow40,_,_,rfl,rfl,(Int.ne_of_gt p40),?_⟩
  exact q _ (fmod_in v p40).1 (fmod_in v p40).2
 ·and_intros
  have m:=fmod_in ((k*k+7)*48271) (show (0:Int) < 10007 by decide)
  exact q _ m.1 (Int.lt_trans m.2 (by decide))
theorem ok_law_mixed (T:Tx K mg ad):FnOk P w K mg base CX0 1 ad.f_law_mixed ad.d_law_mixed ["_law_cell_here","_law_by"] spMixed:=by
 refine T.F_law_mixed.ok sc_law_mixed (fun vs H Q E h=>?_) (fun cdv A outer s H vs Q E hr h=>?_)
 ·obtain ⟨c,b,rfl,_⟩:=h
  rfl
 obtain ⟨c,b,rfl,szc,szb,q⟩:=h
 refine ⟨_,(@pss_cons _ _ _ _ _ (@ps_set _ _ (2) _ _ _ _ sc_law_mixed.nd rfl (Or.inl rfl) (@pe_op _ _ _ _ _ _ _ _ op_add (@pe_op _ _ _ _ _ _ _ _ op_mulB (pv 0) pe_int) (@pe_op _ _ _ _ _ _ _ _ op_mulB (pv 1) pe_int)) (by rfl) (by first | exact .inl rfl | exact .inr rfl | assumption)) (@pss_cons _ _ _ _ _ (@ps_set _ _ (2) _ _ _ _ sc_law_mixed.nd rfl (Or.inl rfl) (@pe_op _ _ _ _ _ _ _ _ op_modN (@pe_op _ _ _ _ _ _ _ _ op_add (pv 2) pe_int) (@pe_op _ _ _ _ _ _ _ _ op_add (@pe_op _ _ _ _ _ _ _ _ op_pow pe_int pe_int) pe_int)) (by rfl) (by first | exact .inl rfl | exact .inr rfl | assumption)) (@pss_one _ _ _ (@ps_ret _ _ _ _ (@pe_op _ _ _ _ _ _ _ _ op_fdivB (@pe_op _ _ _ _ _ _ _ _ op_modN (@pe_op _ _ _ _ _ _ _ _ op_mulB (pv 2) (pv 2)) (@pe_op _ _ _ _ _ _ _ _ op_add (@pe_op _ _ _ _ _ _ _ _ op_pow pe_int pe_int) pe_int)) pe_int))))),?_⟩
 and_intros
 exact q _ (mix_end _).1 (mix_end _).2
theorem ok_law_whole (T:Tx K mg ad):FnOk P w K mg base CX0 1 ad.f_law_whole ad.d_law_whole ["_law_found"] spWhole:=by
 refine T.F_law_whole.ok sc_law_whole (fun vs H Q E h=>?_) (fun cdv A outer s H vs Q E hr h=>?_)
 ·obtain ⟨c,rfl,_⟩:=h
  rfl
 obtain ⟨c,rfl,q⟩:=h
 refine ⟨_,(@pss_one _ _ _ (@ps_ret _ _ _ _ (@pe_and _ _ _ _ _ _ _ (@pe_callB _ _ _ _ _ _ _ _ _ call_isi (by rfl) T.z_isinstance PyProof.Rows.boot_isinstance (@pa_cons _ _ _ _ _ (pv 0) (@pa_cons _ _ _ _ _ (pe_bltn (v:=.ty "int") rfl T.z_int PyProof.Rows.boot_int rfl) pa_nil (by rfl)) (by rfl)) (by decide) (by decide) (by rfl) (by rfl)) (@pe_one _ _ _ _ _ (@pe_not _ _ _ _ (@pe_callB _ _ _ _ _ _ _ _ _ call_isi (by rfl) T.z_isinstance PyProof.Rows.boot_isinstance (@pa_cons _ _ _ _ _ (pv 0) (@pa_cons _ _ _ _ _ (pe_bltn (v:=.ty "bool") rfl T.z_bool PyProof.Rows.boot_bool rfl) pa_nil (by rfl)) (by rfl)) (by decide) (by decide) (by rfl) (by rfl))))))),?_⟩
 refine ⟨_,rfl,_,_,_,_,rfl,TyOf.int c,kit_int_int,_,rfl,?_⟩
 refine iteT ?_
 exact ⟨_,rfl,_,_,_,_,rfl,TyOf.int c,kit_int_bool,_,rfl,q⟩
theorem ok_law_slip (T:Tx K mg ad):FnOk P w K mg base CX0 1 ad.f_law_slip ad.d_law_slip ["_law_ranks_here"] spSlip31:=by
 refine T.F_law_slip.ok sc_law_slip (fun vs H Q E h=>?_) (fun cdv A outer s H vs Q E hr h=>?_)
 ·obtain ⟨p,rs,m,rfl,_⟩:=h
  rfl
 obtain ⟨p,rs,m,rfl,hp,l1,l12,hr12,gl,q⟩:=h
 refine ⟨_,(@pss_cons _ _ _ _ _ (@ps_set _ _ (1) _ _ _ _ sc_law_slip.nd rfl (Or.inl rfl) (@pe_lst _ _ _ _ pa_nil) (by rfl) (by first | exact .inl rfl | exact .inr rfl | assumption)) (@pss_cons _ _ _ _ _ (ps_for PassesOwn.never rfl (pi_range2 rfl T.z_range (@pa_cons _ _ _ _ _ pe_int (@pa_cons _ _ _ _ _ (@pe_op _ _ _ _ _ _ _ _ op_add (@pe_callB _ _ _ _ _ _ _ _ _ (call_max1 rfl) (by rfl) T.z_max PyProof.Rows.boot_max (@pa_cons _ _ _ _ _ (pv 0) pa_nil (by rfl)) (by decide) (by decide) (by rfl) (by rfl)) pe_int) pa_nil (by rfl)) (by rfl))) (pg_name (i:=2) sc_law_slip.nd rfl (Or.inr rfl)) (@pss_one _ _ _ (@ps_expr _ _ _ _ (pe_bm PySem.F.plainAttrs_list PySem.F.slot_list_append PySem.F.type_list_append mt_append (pv 1) (@pa_cons _ _ _ _ _ (@pe_callB _ _ _ _ _ _ _ _ _ (call_sum rfl) (by rfl) T.z_sum PyProof.Rows.boot_sum (@pa_cons _ _ _ _ _ (pe_comp (fsc:=defScope s_law_slip) (N:=["_law_ranks_here","_law_tiers","_law_rank"]) (Nc:=["_law_ranks_here","_law_tiers","_law_rank","_law_hand"]) rfl rfl ⟨rfl,by decide +kernel,by decide +kernel,rfl,by decide +kernel,rfl,by decide +kernel,rfl,by decide +kernel⟩ rfl (pi_range1 rfl T.z_range (@pa_cons _ _ _ _ _ (@pe_callB _ _ _ _ _ _ _ _ _ call_len_seq (by rfl) T.z_len PySem.boot_len (@pa_cons _ _ _ _ _ (pv 0) pa_nil (by rfl)) (by decide) (by decide) (by rfl) (by rfl)) pa_nil (by rfl))) (fun _ _ _ _=>(pif_one (@pt_cmpR _ _ _ _ _ _ _ _ op_eq (@pe_ix _ _ _ _ _ _ _ (ix_listK K) (pv 0) (pv 3) (fun _ _=>rfl)) (pv 2) (nomark _)))) (fun _ _ _ _=>(@pe_op _ _ _ _ _ _ _ _ op_shl pe_int (pv 3)))) pa_nil (by rfl)) (by decide) (by decide) (by rfl) (by rfl)) pa_nil (by rfl))) (by rfl)))) (@pss_one _ _ _ (@ps_ret _ _ _ _ (@pe_callTy _ _ _ _ _ _ _ _ _ call_tuple_of (by rfl) T.z_tuple PyProof.Rows.boot_tuple (@pa_cons _ _ _ _ _ (pv 1) pa_nil (by rfl)) (by decide) (by decide) (by rfl) (by rfl)))))),?_⟩
 refine ⟨(by show 0<=sizeLine;decide),fun l hl=>?_⟩
 have s1:=same_new hl (.lst [])
 have e1:(upd H l (.lst [])) l=some (.lst []):=upd_same
 generalize upd H l (.lst [])=H1 at s1 e1 ⊢
 refine ⟨_,rfl,p,rs,rfl,SqL.of (s1 _ _ hp),l1,fun M M1 M2=>?_⟩
 obtain rfl:=max_gap gl M1 M2
 have m12:(m:Int)<=12:=(hr12 _ M1).2
 and_intros
 refine ⟨1,(m:Int)+1,rfl,⟨by decide,by decide,by omega,by omega⟩,?_⟩
 rw [show ((m:Int)+1 - 1).toNat=m from by omega]
 refine for_range (fun i σ' H'=>∃v2,σ'=[some (.ref p),some (.ref l),v2]/\Same H H'/\H' l=some (.lst (((List.range i).map fun j:Nat=>tierOf rs ((j:Int)+1)).map V.int))) ⟨none,rfl,s1,e1⟩ ?_ ?_
 ·rintro i σ' H' hi ⟨v2,rfl,s2,e2⟩
  have hp2:=s2 _ _ hp
  have hl':(rs.map V.int).length=rs.length:=List.length_map _
  refine ⟨_,rfl,.inl ⟨rfl,_,SqL.of e2⟩,?_⟩
  refine ⟨_,rfl,p,_,rfl,.inl (SqL.of hp2),_,rfl,by omega,by omega,?_⟩
  have en:(((rs.map V.int).length:Nat):Int).toNat=rs.length:=by omega
  rw [en]
  refine comp_range (small63 (by omega)) (fun D j ys H2=>ys=((hands j (isR rs (1+(i:Int)))).map fun h=>(1:Int)*2 ^ h.toNat).map V.int/\H2=upd H' D (.lst ys)) (fun D hD=>⟨rfl,rfl⟩) (fun D j ys H2 ⟨f1,f2⟩=>⟨by rw [f2];exact upd_same,by rw [f1,List.length_map,List.length_map];exact hands_len _ _⟩) ?_ ?_
  ·rintro D j ys H2 K1 K2 hD hj ⟨f1,rfl⟩ k1 k2
   obtain ⟨z,hz⟩:∃z,rs[j]?=some z:=⟨_,List.getElem?_eq_getElem hj⟩
   have s3:=same_new hD (.lst ys)
   have ms:=hands_succ j (isR rs (1+(i:Int)))
   have e0:(0:Int)+(j:Int)=(j:Int):=Int.zero_add _
   refine ⟨_,rfl,_,rfl,p,_,_,_,rfl,rfl,SqL.of (s3 _ _ hp2),(by rw [e0];exact atN hz),_,rfl,rfl,_,rfl,?_⟩
   have eb:decide (V.int z=V.int (1+(i:Int)))=isR rs (1+(i:Int)) j:=by
    unfold isR
    rw [hz]
    by_cases c:z=1+(i:Int)
    ·rw [decide_eq_true (by rw [c]),decide_eq_true (by rw [c])]
    ·rw [decide_eq_false (fun e=>c (V.int.inj e)),decide_eq_false (fun e=>c (Option.some.inj e))]
   rw [eb]
   cases e:isR rs (1+(i:Int)) j with
   | true =>
     rw [e,if_pos rfl] at ms
     refine iteT ?_
     refine ⟨_,rfl,_,_,rfl,rfl,(by rw [e0];exact pow_small (by omega)),?_⟩
     refine k1 _ _ upd_same ⟨?_,by rw [upd_upd]⟩
     rw [ms,List.map_append,List.map_append,f1]
     show _=_++[V.int (1*2 ^ (j:Int).toNat)]
     rw [e0]
   | false =>
     rw [e,if_neg (by decide)] at ms
     refine iteF ?_
     exact k2 _ ⟨by rw [ms];exact f1,rfl⟩
  ·rintro D ys H2 hD ⟨rfl,rfl⟩
   refine ⟨D,_,rfl,SqL.of upd_same,?_⟩
   have es:((hands rs.length (isR rs (1+(i:Int)))).map fun h=>(1:Int)*2 ^ h.toNat).sum=tierOf rs (1+(i:Int)):=bsum_hands _ _
   rw [es]
   have s3:=same_new hD (.lst (((hands rs.length (isR rs (1+(i:Int)))).map fun h=>(1:Int)*2 ^ h.toNat).map V.int))
   refine ⟨l,_,_,rfl,rfl,s3 _ _ e2,(by rw [List.length_map,List.length_map,List.length_range];exact small1000 (by omega)),?_⟩
   refine ⟨_,rfl,same_upd (s2.trans s3) hl,?_⟩
   rw [upd_same,List.range_succ,List.map_append,List.map_append,Int.add_comm 1 (i:Int)]
   rfl
 ·rintro σ' H' ⟨v2,rfl,s2,e2⟩
  rw [<- gl.tiers] at e2
  refine ⟨_,rfl,l,_,rfl,.inl ⟨SqL.of e2,fun t ht=>?_⟩⟩
  exact q t _ (s2.trans (same_new ht _)) upd_same
theorem ok_law_code (T:Tx K mg ad):FnOk P w K mg base CX0 1 ad.f_law_code ad.d_law_code ["_law_ranks_here","_law_number"] spCode31:=by
 refine T.F_law_code.ok sc_law_code (fun vs H Q E h=>?_) (fun cdv A outer s H vs Q E hr h=>?_)
 ·obtain ⟨p,rs,c,rfl,_⟩:=h
  rfl
 obtain ⟨p,rs,c,rfl,hp,l12,hr12,c0,c1,q⟩:=h
 refine ⟨_,(@pss_cons _ _ _ _ _ (@ps_set _ _ (2) _ _ _ _ sc_law_code.nd rfl (Or.inl rfl) (pv 1) (by rfl) (by first | exact .inl rfl | exact .inr rfl | assumption)) (@pss_cons _ _ _ _ _ (ps_for PassesOwn.never rfl (pi_list (pv 0)) (pg_name (i:=3) sc_law_code.nd rfl (Or.inl rfl)) (@pss_one _ _ _ (@ps_set _ _ (2) _ _ _ _ sc_law_code.nd rfl (Or.inl rfl) (@pe_op _ _ _ _ _ _ _ _ op_add (@pe_op _ _ _ _ _ _ _ _ op_mulB (pv 2) pe_int) (pv 3)) (by rfl) (by first | exact .inl rfl | exact .inr rfl | assumption)))) (@pss_one _ _ _ (@ps_ret _ _ _ _ (pv 2))))),?_⟩
 refine ⟨_,rfl,_,rfl,p,rfl,⟨_,SqL.of hp⟩,for_list (xs:=rs.map V.int) (fun i σ' H'=>∃v3,σ'=[some (.ref p),some (.int c),some (.int (codeL c (rs.take i))),v3]/\H'=H) ⟨none,rfl,rfl⟩ (fun i σ' H' _ ⟨_,_,e⟩=>by rw [e];exact SqL.of hp) ?_ ?_⟩
 ·rintro i x σ' H' hx ⟨v3,rfl,rfl⟩
  obtain ⟨z,hz,rfl⟩:=int_at hx
  have et:rs.take (i+1)=rs.take i++[z]:=by rw [List.take_succ,hz];rfl
  have cl:=code_lt (c:=c) c0 c1 (rs:=rs.take i) (fun r m=>hr12 r (List.mem_of_mem_take m)) (by rw [List.length_take];omega)
  have szc:=sz40 cl.1 cl.2
  and_intros
  refine ⟨some (.int z),?_,rfl⟩
  rw [et,code_snoc]
  rfl
 ·rintro σ' H' ⟨v3,rfl,rfl⟩
  rw [List.length_map,List.take_of_length_le (Nat.le_refl _)]
  exact ⟨_,rfl,q⟩
theorem ok_law_seal (T:Tx K mg ad):FnOk P w K mg base CX0 1 ad.f_law_seal ad.d_law_seal ["_law_codes"] spSeal:=by
 refine T.F_law_seal.ok sc_law_seal (fun vs H Q E h=>?_) (fun cdv A outer s H vs Q E hr h=>?_)
 ·obtain ⟨p,cs,rfl,_⟩:=h
  rfl
 obtain ⟨p,cs,rfl,h1,z1,h100,q⟩:=h
 refine ⟨_,(@pss_cons _ _ _ _ _ (@ps_set _ _ (1) _ _ _ _ sc_law_seal.nd rfl (Or.inl rfl) (@pe_lst _ _ _ _ (@pa_cons _ _ _ _ _ (@pe_callB _ _ _ _ _ _ _ _ _ call_len_seq (by rfl) T.z_len PySem.boot_len (@pa_cons _ _ _ _ _ (pv 0) pa_nil (by rfl)) (by decide) (by decide) (by rfl) (by rfl)) (@pa_cons _ _ _ _ _ pe_int (@pa_cons _ _ _ _ _ pe_int (@pa_cons _ _ _ _ _ pe_int pa_nil (by rfl)) (by rfl)) (by rfl)) (by rfl))) (by rfl) (by first | exact .inl rfl | exact .inr rfl | assumption)) (@pss_cons _ _ _ _ _ (ps_for PassesOwn.never rfl (pi_range1 rfl T.z_range (@pa_cons _ _ _ _ _ (@pe_callB _ _ _ _ _ _ _ _ _ call_len_seq (by rfl) T.z_len PySem.boot_len (@pa_cons _ _ _ _ _ (pv 0) pa_nil (by rfl)) (by decide) (by decide) (by rfl) (by rfl)) pa_nil (by rfl))) (pg_name (i:=2) sc_law_seal.nd rfl (Or.inl rfl)) (@pss_cons _ _ _ _ _ (ps_asg (@pe_op _ _ _ _ _ _ _ _ op_add (@pe_ix _ _ _ _ _ _ _ ix_list (pv 1) pe_int (fun _ _=>rfl)) (@pe_ix _ _ _ _ _ _ _ ix_list (pv 0) (pv 2) (fun _ _=>rfl))) (pg_sub (pv 1) pe_int set_list)) (@pss_cons _ _ _ _ _ (ps_asg (@pe_op _ _ _ _ _ _ _ _ op_add (@pe_ix _ _ _ _ _ _ _ ix_list (pv 1) pe_int (fun _ _=>rfl)) (@pe_op _ _ _ _ _ _ _ _ op_mulB (@pe_op _ _ _ _ _ _ _ _ op_add (pv 2) pe_int) (@pe_ix _ _ _ _ _ _ _ ix_list (pv 0) (pv 2) (fun _ _=>rfl)))) (pg_sub (pv 1) pe_int set_list)) (@pss_one _ _ _ (ps_asg (@pe_op _ _ _ _ _ _ _ _ op_add (@pe_ix _ _ _ _ _ _ _ ix_list (pv 1) pe_int (fun _ _=>rfl)) (@pe_op _ _ _ _ _ _ _ _ op_mulB (@pe_op _ _ _ _ _ _ _ _ op_mulB (@pe_op _ _ _ _ _ _ _ _ op_add (pv 2) pe_int) (@pe_op _ _ _ _ _ _ _ _ op_add (pv 2) pe_int)) (@pe_ix _ _ _ _ _ _ _ ix_list (pv 0) (pv 2) (fun _ _=>rfl)))) (pg_sub (pv 1) pe_int set_list)))))) (@pss_one _ _ _ (@ps_ret _ _ _ _ (@pe_tup _ _ _ _ _ (@pa_cons _ _ _ _ _ (@pe_ix _ _ _ _ _ _ _ ix_list (pv 1) pe_int (fun _ _=>rfl)) (@pa_cons _ _ _ _ _ (@pe_ix _ _ _ _ _ _ _ ix_list (pv 1) pe_int (fun _ _=>rfl)) (@pa_cons _ _ _ _ _ (@pe_ix _ _ _ _ _ _ _ ix_list (pv 1) pe_int (fun _ _=>rfl)) (@pa_cons _ _ _ _ _ (@pe_ix _ _ _ _ _ _ _ ix_list (pv 1) pe_int (fun _ _=>rfl)) pa_nil (by rfl)) (by rfl)) (by rfl)) (by rfl))))))),?_⟩
 and_intros
 refine ⟨(by show 4<=sizeLine;decide),fun l hl=>?_⟩
 have hp0:=same_new hl (.lst [V.int ((cs.map V.int).length:Nat),V.int 0,V.int 0,V.int 0]) _ _ h1
 refine ⟨_,rfl,p,_,rfl,.inl (SqL.of hp0),_,rfl,(by rw [List.length_map];omega),(by rw [List.length_map];omega),for_range (fun i σ' H'=>∃v,σ'=[some (.ref p),some (.ref l),v]/\H' l=some (.lst [V.int ((cs.map V.int).length:Nat),V.int (ws f1 0 (cs.take i)),V.int (ws f2 0 (cs.take i)),V.int (ws f3 0 (cs.take i))])/\Same H H') ⟨none,rfl,upd_same,same_new hl _⟩ ?_ ?_⟩
 ·rintro i σ' H' hi ⟨v,rfl,e1,s1⟩
  have hi':i < cs.length:=by rw [List.length_map] at hi;omega
  obtain ⟨c,hc⟩:∃c,cs[i]?=some c:=⟨_,List.getElem?_eq_getElem hi'⟩
  have szc:Sz 300 c:=z1 c (List.mem_of_getElem? hc)
  have szi:Sz 64 (0+(i:Int)+1):=sz_of (by omega) (by omega)
  have et:cs.take (i+1)=cs.take i++[c]:=by rw [List.take_succ,hc];rfl
  have el:((cs.take i).length:Int)=i:=by rw [List.length_take];omega
  have w1:ws f1 0 (cs.take (i+1))=ws f1 0 (cs.take i)+c:=by
   rw [et,ws_snoc]
   show _+c*1=_
   rw [Int.mul_one]
  have w2:ws f2 0 (cs.take (i+1))=ws f2 0 (cs.take i)+(0+(i:Int)+1)*c:=by
   rw [et,ws_snoc,el,Int.mul_comm c]
   rfl
  have w3:ws f3 0 (cs.take (i+1))=ws f3 0 (cs.take i)+(0+(i:Int)+1)*(0+(i:Int)+1)*c:=by
   rw [et,ws_snoc,el,Int.mul_comm c]
   rfl
  have o1:∀xs,Same H (upd H' l (.lst xs)):=fun xs=>same_upd s1 hl
  refine ⟨_,rfl,l,_,_,_,rfl,rfl,SqL.of e1,rfl,_,rfl,_,rfl,p,_,_,_,rfl,rfl,SqL.of (s1 _ _ h1),(by rw [Int.zero_add];exact atN hc),_,_,rfl,rfl,_,rfl,l,_,_,_,rfl,rfl,e1,rfl,?_⟩
  have s2:=o1 [V.int ((cs.map V.int).length:Nat),V.int (ws f1 0 (cs.take i)+c),V.int (ws f2 0 (cs.take i)),V.int (ws f3 0 (cs.take i))]
  have e2:(upd H' l (.lst [V.int ((cs.map V.int).length:Nat),V.int (ws f1 0 (cs.take i)+c),V.int (ws f2 0 (cs.take i)),V.int (ws f3 0 (cs.take i))])) l=some (.lst [V.int ((cs.map V.int).length:Nat),V.int (ws f1 0 (cs.take i)+c),V.int (ws f2 0 (cs.take i)),V.int (ws f3 0 (cs.take i))]):=upd_same
  show (fun (σ':St) (H':Hp)=>_) _ (upd H' l (.lst [V.int ((cs.map V.int).length:Nat),V.int (ws f1 0 (cs.take i)+c),V.int (ws f2 0 (cs.take i)),V.int (ws f3 0 (cs.take i))]))
  generalize upd H' l (.lst [V.int ((cs.map V.int).length:Nat),V.int (ws f1 0 (cs.take i)+c),V.int (ws f2 0 (cs.take i)),V.int (ws f3 0 (cs.take i))])=H2 at s2 e2 ⊢
  have o2:∀xs,Same H (upd H2 l (.lst xs)):=fun xs=>same_upd s2 hl
  refine ⟨_,rfl,l,_,_,_,rfl,rfl,SqL.of e2,rfl,_,rfl,_,_,rfl,rfl,_,rfl,_,rfl,p,_,_,_,rfl,rfl,SqL.of (s2 _ _ h1),(by rw [Int.zero_add];exact atN hc),_,_,rfl,rfl,mulB szi szc,_,_,rfl,rfl,_,rfl,l,_,_,_,rfl,rfl,e2,rfl,?_⟩
  have s3:=o2 [V.int ((cs.map V.int).length:Nat),V.int (ws f1 0 (cs.take i)+c),V.int (ws f2 0 (cs.take i)+(0+(i:Int)+1)*c),V.int (ws f3 0 (cs.take i))]
  have e3:(upd H2 l (.lst [V.int ((cs.map V.int).length:Nat),V.int (ws f1 0 (cs.take i)+c),V.int (ws f2 0 (cs.take i)+(0+(i:Int)+1)*c),V.int (ws f3 0 (cs.take i))])) l=some (.lst [V.int ((cs.map V.int).length:Nat),V.int (ws f1 0 (cs.take i)+c),V.int (ws f2 0 (cs.take i)+(0+(i:Int)+1)*c),V.int (ws f3 0 (cs.take i))]):=upd_same
  show (fun (σ':St) (H':Hp)=>_) _ (upd H2 l (.lst [V.int ((cs.map V.int).length:Nat),V.int (ws f1 0 (cs.take i)+c),V.int (ws f2 0 (cs.take i)+(0+(i:Int)+1)*c),V.int (ws f3 0 (cs.take i))]))
  generalize upd H2 l (.lst [V.int ((cs.map V.int).length:Nat),V.int (ws f1 0 (cs.take i)+c),V.int (ws f2 0 (cs.take i)+(0+(i:Int)+1)*c),V.int (ws f3 0 (cs.take i))])=H3 at s3 e3 ⊢
  refine ⟨_,rfl,l,_,_,_,rfl,rfl,SqL.of e3,rfl,_,rfl,_,_,rfl,rfl,_,rfl,_,_,rfl,rfl,_,_,rfl,rfl,mulB szi szi,_,rfl,_,rfl,p,_,_,_,rfl,rfl,SqL.of (s3 _ _ h1),(by rw [Int.zero_add];exact atN hc),_,_,rfl,rfl,mulB (szi.mul szi) szc,_,_,rfl,rfl,_,rfl,l,_,_,_,rfl,rfl,e3,rfl,?_⟩
  have s4:Same H (upd H3 l (.lst [V.int ((cs.map V.int).length:Nat),V.int (ws f1 0 (cs.take i)+c),V.int (ws f2 0 (cs.take i)+(0+(i:Int)+1)*c),V.int (ws f3 0 (cs.take i)+(0+(i:Int)+1)*(0+(i:Int)+1)*c)])):=same_upd s3 hl
  refine ⟨_,rfl,?_,s4⟩
  rw [w1,w2,w3]
  exact upd_same
 ·rintro σ' H' ⟨v,rfl,e1,s1⟩
  rw [List.length_map,List.take_of_length_le (by omega)] at e1
  and_intros
  refine ⟨(by show 4<=sizeLine;decide),fun t ht=>?_⟩
  exact q t _ (none_of s1 ht) (s1.trans (same_new ht _)) (by rw [upd_same];unfold sealL;rfl)
theorem ok_law_sheet (T:Tx K mg ad):FnOk P w K mg base CX0 1 ad.f_law_sheet ad.d_law_sheet ["_law_lines_here"] spSheetLaw:=by
 refine T.F_law_sheet.ok sc_law_sheet (fun vs H Q E h=>?_) (fun cdv A outer s H vs Q E hr h=>?_)
 ·obtain ⟨l,ls,p,rfl,_⟩:=h
  rfl
 obtain ⟨l,ls,p,rfl,hl,g,hp,p64,pos,q⟩:=h
 refine ⟨_,(@pss_cons _ _ _ _ _ (@ps_set _ _ (1) _ _ _ _ sc_law_sheet.nd rfl (Or.inr rfl) pe_dnewT (by rfl) (by first | exact .inl rfl | exact .inr rfl | assumption)) (@pss_cons _ _ _ _ _ (ps_for PassesOwn.never rfl (pi_list (pv 0)) (pg_tup rfl (pgs_cons (pg_name (i:=2) sc_law_sheet.nd rfl (Or.inl rfl)) (pgs_cons (pg_name (i:=3) sc_law_sheet.nd rfl (Or.inl rfl)) pgs_nil))) (@pss_one _ _ _ (ps_dput (u1 hr.units) (pv 1) (pv 2) (@pe_op _ _ _ _ _ _ _ _ op_add (pe_dget2 (u1 hr.units) (pv 1) (pv 2) pe_int ⟨rfl,rfl,rfl,rfl⟩) (pv 3)) rfl))) (@pss_one _ _ _ (@ps_ret _ _ _ _ (pe_comp (fsc:=defScope s_law_sheet) (N:=["_law_lines_here","_law_many_here","_law_slip_here","_law_number"]) (Nc:=["_law_lines_here","_law_many_here",".s2","_law_number","_law_slip_here"]) rfl rfl ⟨rfl,by decide +kernel,by decide +kernel,rfl,by decide +kernel,rfl,by decide +kernel,rfl,by decide +kernel⟩ rfl (pi_list (@pe_callB _ _ _ _ _ _ _ _ _ (call_sortedDT rfl hr.units) (by rfl) T.z_sorted PyProof.Rows.boot_sorted (@pa_cons _ _ _ _ _ (pv 1) pa_nil (by rfl)) (by decide) (by decide) (by rfl) (by rfl))) (fun _ _ _ _=>pif_nil) (fun _ _ _ _=>(@pe_tup _ _ _ _ _ (@pa_cons _ _ _ _ _ (pv 4) (@pa_cons _ _ _ _ _ (pe_dget (u1 hr.units) (pv 1) (pv 4) (fun _ _=>rfl)) pa_nil (by rfl)) (by rfl))))))))),?_⟩
 intro d hd
 have s0:=same_new hd (.dT [])
 have e0:(upd H d (.dT [])) d=some (.dT []):=upd_same
 generalize upd H d (.dT [])=H0 at s0 e0 ⊢
 refine ⟨_,rfl,l,rfl,⟨_,SqL.of (s0 _ _ hl)⟩,for_list (xs:=vls ls) (fun i σ' H'=>∃(v2 v3:Option V) (kvs:List (List Key × V)),σ'=[some (.ref l),some (.ref d),v2,v3]/\Same H H'/\H' d=some (.dT kvs)/\DictOf (dsOf (ls.take i)) kvs) ⟨none,none,[],rfl,s0,e0,DictOf.nil⟩ (fun i σ' H' _ ⟨_,_,_,_,e,_⟩=>SqL.of (e _ _ hl)) ?_ ?_⟩
 ·rintro i x σ' H' hx ⟨v2,v3,kvs,rfl,s1,e1,dk⟩
  obtain ⟨f,hf,rfl,fm,et⟩:=vls_get hx
  obtain ⟨g1,g2⟩:=g f fm
  have sub:∀q∈dsOf (ls.take i),q.1∈p:=fun q m=>by
   obtain ⟨r,rm,rfl⟩:=List.mem_map.mp m
   exact hp _ (List.mem_map.mpr ⟨r,List.mem_of_mem_take rm,rfl⟩)
  have lim:=dk.len sub
  have kt:H' f.2.1=some (.tup ((f.2.2.1.map Sum.inl:List Key).map kV)):=by rw [kv_map];exact s1 _ _ g2
  refine ⟨f.1,_,rfl,SqT.of (s1 _ _ g1),rfl,_,_,rfl,_,_,rfl,rfl,?_⟩
  refine ⟨_,rfl,d,rfl,.inr ⟨_,.inl e1⟩,_,rfl,_,DGet.t e1 kt,?_⟩
  rw [old_val dk]
  refine ⟨_,rfl,_,_,rfl,rfl,_,rfl,_,rfl,d,_,rfl,DPut.t e1 kt (small1000 (by omega)),?_⟩
  refine ⟨_,_,_,rfl,same_upd s1 hd,upd_same,?_⟩
  rw [et,dsOf_append]
  exact dk.put f.2.2.1 f.2.2.2
 ·rintro σ' H' ⟨v2,v3,kvs,rfl,s1,e1,dk⟩
  rw [vls_len,List.take_of_length_le (Nat.le_refl _)] at dk
  have k64:=dk.len (fun q m=>hp q m)
  obtain ⟨ks,k1,k2,knd,kmem⟩:=dk.vd.keys
  refine ⟨_,rfl,d,kvs,ks,rfl,.inl e1,k1,by omega,fun l2 rs r1 r2 r3 hl2=>?_⟩
  have sl:=same_new hl2 (.lst (rs.map fun q=>V.ref q.1))
  have el:(upd H' l2 (.lst (rs.map fun q=>V.ref q.1))) l2=some (.lst (rs.map fun q=>V.ref q.1)):=upd_same
  generalize upd H' l2 (.lst (rs.map fun q=>V.ref q.1))=H1 at sl el ⊢
  have rl:rs.length=ks.length:=by
   have:=r2.length_eq
   rw [List.length_map] at this
   exact this
  have ov:∀r∈rs,valV kvs (r.2.map Sum.inl:List Key)=some (.int (oldV kvs r.2)):=fun r m=>by
   obtain ⟨n,e⟩:=(kmem r.2).mp (r2.mem_iff.mp (List.mem_map.mpr ⟨r,m,rfl⟩))
   unfold oldV
   rw [e]
  refine ⟨l2,rfl,⟨_,SqL.of el⟩,?_⟩
  refine comp_list (xs:=rs.map fun q=>V.ref q.1) (by rw [List.length_map];exact small63 (by omega)) (fun D i ys H2=>∃ms:Ls,ys=vls ms/\ms.length=i/\H2 D=some (.lst ys)/\Same H1 H2/\GoodL H2 ms/\dsOf ms=(rs.take i).map fun r=>(r.2,oldV kvs r.2)) (fun D hD=>⟨[],rfl,rfl,upd_same,same_new hD _,(fun _ m=>nomatch m),rfl⟩) (fun D i ys H2 ⟨ms,f1,f2,f3,_⟩=>⟨f3,by rw [f1,vls_len,f2];exact Nat.le_refl _⟩) (fun D i ys H2 hD ⟨ms,_,_,_,f4,_⟩=>SqL.of (f4 _ _ el)) ?_ ?_
  ·rintro D i x ys H2 K1 K2 hD hx ⟨ms,rfl,f2,f3,f4,f5,f6⟩ kk1 kk2
   rw [List.getElem?_map] at hx
   obtain ⟨r,er,rfl⟩:=Option.map_eq_some_iff.mp hx
   have rm:=List.mem_of_getElem? er
   have et:rs.take (i+1)=rs.take i++[r]:=by rw [List.take_succ,er];rfl
   have sH:=sl.trans f4
   have ek:=sH _ _ (r1 r rm)
   have dg:=DGet.t (k:=(r.2.map Sum.inl:List Key)) (sH _ _ e1) (by rw [kv_map];exact ek)
   rw [ov r rm] at dg
   refine yes (ifT rfl ?_)
   refine ⟨_,rfl,_,rfl,_,rfl,d,_,rfl,dg,(by show 2<=sizeLine;decide),fun t ht=>?_⟩
   have s6:=same_new ht (.tup [V.ref r.1,V.int (oldV kvs r.2)])
   refine kk1 _ _ (s6 _ _ f3) ⟨ms++[(t,r.1,r.2,oldV kvs r.2)],by rw [vls_append];rfl,by rw [List.length_append,f2];rfl,upd_same,same_upd (f4.trans s6) hD,?_,?_⟩
   ·refine GoodL.upd (s6 _ _ f3) ((f5.same s6).append fun q m=>?_)
    rw [List.mem_singleton.mp m]
    exact ⟨upd_same,s6 _ _ ek⟩
   ·rw [dsOf_append,f6,et,List.map_append]
    rfl
  ·rintro D ys H2 hD ⟨ms,rfl,f2,f3,f4,f5,f6⟩
   rw [List.length_map] at f2 f6
   rw [List.take_length] at f6
   have rnd:(rs.map (·.2)).Nodup:=r2.nodup_iff.mpr knd
   have pv:∀(ts:List Int) (n:Int),valV kvs (ts.map Sum.inl)=some (.int n)->0 < n:=fun ts n e=>by
    rw [dk.val] at e
    by_cases c:ts∈(dsOf ls).map (·.1)
    ·rw [if_pos c] at e
     injection e with e
     injection e with e
     rw [<- e]
     exact tot_in pos c
    ·rw [if_neg c] at e
     cases e
   refine q D ms H2 (none_of (s1.trans sl) hD) ((s1.trans sl).trans f4) f3 f5 (dk.sheet pos ?_ (fun ts n=>?_)) (by omega)
   ·rw [f6,List.pairwise_map]
    have nd2:rs.Pairwise (fun x y=>x.2≠y.2):=List.pairwise_map.mp rnd
    exact (r3.and nd2).imp fun ⟨h1,h2⟩=>lex_tot h1 h2
   ·rw [f6]
    constructor
    ·intro m
     obtain ⟨r,rm,e⟩:=List.mem_map.mp m
     injection e with e1 e2
     subst e1
     subst e2
     exact ⟨ov r rm,pv _ _ (ov r rm)⟩
    ·rintro ⟨e,n0⟩
     have tk:ts∈ks:=(kmem ts).mpr ⟨n,e⟩
     obtain ⟨r,rm,rfl⟩:=List.mem_map.mp (r2.mem_iff.mpr tk)
     have o:=ov r rm
     rw [e] at o
     injection o with o
     injection o with o
     exact List.mem_map.mpr ⟨r,rm,by rw [<- o]⟩
theorem ok_law_kind (T:Tx K mg ad):FnOkE P w K mg base 1 ad.f_law_kind ad.d_law_kind ["_law_e"] (spKind [ad.c_NoWay,ad.c_Torn,ad.c_NoBallot,ad.c_NoBundle]):=by
 refine T.F_law_kind.okE sc_law_kind (fun e vs H Q E h=>?_) (fun e cdv A outer s H vs Q E hr hh h=>?_)
 ·obtain ⟨k,C,rfl,_⟩:=h
  rfl
 obtain ⟨k,C,rfl,hk,he,q⟩:=h
 refine ⟨_,(@pss_cons _ _ _ _ _ (@ps_if _ _ _ _ _ _ _ _ (@pt_not _ _ _ _ (@pt_val _ _ _ (@pe_callB _ _ _ _ _ _ _ _ _ (call_isx (K:=K)) (by rfl) T.z_isinstance PyProof.Rows.boot_isinstance (@pa_cons _ _ _ _ _ (pv 0) (@pa_cons _ _ _ _ _ (pe_bltn (v:=.ty "ValueError") rfl T.z_ValueError PyProof.Rows.Boot.«ValueError» rfl) pa_nil (by rfl)) (by rfl)) (by decide) (by decide) (by rfl) (by rfl)) (by intro _;rfl))) (@pss_one _ _ _ (@ps_ret _ _ _ _ (@pe_tup _ _ _ _ _ pa_nil))) pss_nil) (@pss_cons _ _ _ _ _ (@ps_set _ _ (1) _ _ _ _ sc_law_kind.nd rfl (Or.inr rfl) (@pe_lst _ _ _ _ (@pa_cons _ _ _ _ _ (@pe_callB _ _ _ _ _ _ _ _ _ (call_isx (K:=K)) (by rfl) T.z_isinstance PyProof.Rows.boot_isinstance (@pa_cons _ _ _ _ _ (pv 0) (@pa_cons _ _ _ _ _ (pe_glob (v:=.ref ad.c_NoWay) rfl T.m_NoWay rfl) pa_nil (by rfl)) (by rfl)) (by decide) (by decide) (by rfl) (by rfl)) (@pa_cons _ _ _ _ _ (@pe_callB _ _ _ _ _ _ _ _ _ (call_isx (K:=K)) (by rfl) T.z_isinstance PyProof.Rows.boot_isinstance (@pa_cons _ _ _ _ _ (pv 0) (@pa_cons _ _ _ _ _ (pe_glob (v:=.ref ad.c_Torn) rfl T.m_Torn rfl) pa_nil (by rfl)) (by rfl)) (by decide) (by decide) (by rfl) (by rfl)) (@pa_cons _ _ _ _ _ (@pe_callB _ _ _ _ _ _ _ _ _ (call_isx (K:=K)) (by rfl) T.z_isinstance PyProof.Rows.boot_isinstance (@pa_cons _ _ _ _ _ (pv 0) (@pa_cons _ _ _ _ _ (pe_glob (v:=.ref ad.c_NoBallot) rfl T.m_NoBallot rfl) pa_nil (by rfl)) (by rfl)) (by decide) (by decide) (by rfl) (by rfl)) (@pa_cons _ _ _ _ _ (@pe_callB _ _ _ _ _ _ _ _ _ (call_isx (K:=K)) (by rfl) T.z_isinstance PyProof.Rows.boot_isinstance (@pa_cons _ _ _ _ _ (pv 0) (@pa_cons _ _ _ _ _ (pe_glob (v:=.ref ad.c_NoBundle) rfl T.m_NoBundle rfl) pa_nil (by rfl)) (by rfl)) (by decide) (by decide) (by rfl) (by rfl)) pa_nil (by rfl)) (by rfl)) (by rfl)) (by rfl))) (by rfl) (by first | exact .inl rfl | exact .inr rfl | assumption)) (@pss_cons _ _ _ _ _ (@ps_if _ _ _ _ _ _ _ _ (PW.pt (@pw_or _ _ _ _ _ _ _ (@pt_val _ _ _ (@pe_callB _ _ _ _ _ _ _ _ _ (call_isxT (K:=K)) (by rfl) T.z_isinstance PyProof.Rows.boot_isinstance (@pa_cons _ _ _ _ _ (pv 0) (@pa_cons _ _ _ _ _ (@pe_tup _ _ _ _ _ (@pa_cons _ _ _ _ _ (pe_glob (v:=.ref ad.c_Ended) rfl T.m_Ended rfl) (@pa_cons _ _ _ _ _ (pe_glob (v:=.ref ad.c_NoChange) rfl T.m_NoChange rfl) (@pa_cons _ _ _ _ _ (pe_glob (v:=.ref ad.c_NoNumber) rfl T.m_NoNumber rfl) (@pa_cons _ _ _ _ _ (pe_glob (v:=.ref ad.c_NoRow) rfl T.m_NoRow rfl) (@pa_cons _ _ _ _ _ (pe_glob (v:=.ref ad.c_NoSheet) rfl T.m_NoSheet rfl) pa_nil (by rfl)) (by rfl)) (by rfl)) (by rfl)) (by rfl))) pa_nil (by rfl)) (by rfl)) (by decide) (by decide) (by rfl) (by rfl)) (by intro _;rfl)) (@pw_or1 _ _ _ _ (@pt_val _ _ _ (@pe_callB _ _ _ _ _ _ _ _ _ (call_isxT (K:=K)) (by rfl) T.z_isinstance PyProof.Rows.boot_isinstance (@pa_cons _ _ _ _ _ (pv 0) (@pa_cons _ _ _ _ _ (@pe_tup _ _ _ _ _ (@pa_cons _ _ _ _ _ (pe_glob (v:=.ref ad.c_TooHard) rfl T.m_TooHard rfl) (@pa_cons _ _ _ _ _ (pe_glob (v:=.ref ad.c_WrongNumber) rfl T.m_WrongNumber rfl) pa_nil (by rfl)) (by rfl))) pa_nil (by rfl)) (by rfl)) (by decide) (by decide) (by rfl) (by rfl)) (by intro _;rfl))))) (@pss_one _ _ _ (@ps_ret _ _ _ _ (@pe_tup _ _ _ _ _ pa_nil))) pss_nil) (@pss_one _ _ _ (@ps_ret _ _ _ _ (@pe_callTy _ _ _ _ _ _ _ _ _ call_tuple_of (by rfl) T.z_tuple PyProof.Rows.boot_tuple (@pa_cons _ _ _ _ _ (pe_compH (fsc:=defScope s_law_kind) (N:=["_law_e","_law_one"]) (Nc:=["_law_e","_law_one","_law_k"]) ⟨rfl,rfl,rfl⟩ rfl hh rfl rfl ⟨rfl,by decide +kernel,by decide +kernel,rfl,by decide +kernel,rfl,by decide +kernel,rfl,by decide +kernel⟩ rfl T.z_range (@pa_cons _ _ _ _ _ pe_int pa_nil (by rfl)) (fun _ _ _ _=>(pif_one (@pt_val _ _ _ (@pe_ix _ _ _ _ _ _ _ (ix_listK K) (pv 1) (pv 2) (fun _ _=>rfl)) (by intro _;rfl)))) (fun _ _ _ _=>(pv 2))) pa_nil (by rfl)) (by decide) (by decide) (by rfl) (by rfl))))))),?_⟩
 obtain ⟨xk,kv,k0,k1,k2,k3,n1,n2⟩:XKit K C/\PySem.W.kitOne K (.ref C) (.type "ValueError")=some true/\PySem.W.kitOne K (.ref C) (.ref ad.c_NoWay)=some (decide (k=0))/\PySem.W.kitOne K (.ref C) (.ref ad.c_Torn)=some (decide (k=1))/\PySem.W.kitOne K (.ref C) (.ref ad.c_NoBallot)=some (decide (k=2))/\PySem.W.kitOne K (.ref C) (.ref ad.c_NoBundle)=some (decide (k=3))/\PySem.W.kitAny K (.ref C) [.ref ad.c_Ended,.ref ad.c_NoChange,.ref ad.c_NoNumber,.ref ad.c_NoRow,.ref ad.c_NoSheet]=some false/\PySem.W.kitAny K (.ref C) [.ref ad.c_TooHard,.ref ad.c_WrongNumber]=some false:=by
  rcases k with _ | _ | _ | _ | k
  ·obtain rfl:=Option.some.inj hk
   have kit:∀{B:Addr} {b:Bool},HCls K B->PySem.W.subIn K (.ref ad.c_NoWay) (.ref B)=some b->PySem.W.kitOne K (.ref ad.c_NoWay) (.ref B)=some b:=fun c h=>kit_cc c h T.s_NoWay_NoWay
   exact ⟨T.k_NoWay,kit_cv kitMeta_ve T.v_NoWay,kit T.h_NoWay T.s_NoWay_NoWay,kit T.h_Torn T.s_NoWay_Torn,kit T.h_NoBallot T.s_NoWay_NoBallot,kit T.h_NoBundle T.s_NoWay_NoBundle,(kan (kit T.h_Ended T.s_NoWay_Ended) (kan (kit T.h_NoChange T.s_NoWay_NoChange) (kan (kit T.h_NoNumber T.s_NoWay_NoNumber) (kan (kit T.h_NoRow T.s_NoWay_NoRow) (kan (kit T.h_NoSheet T.s_NoWay_NoSheet) kan_nil))))),(kan (kit T.h_TooHard T.s_NoWay_TooHard) (kan (kit T.h_WrongNumber T.s_NoWay_WrongNumber) kan_nil))⟩
  ·obtain rfl:=Option.some.inj hk
   have kit:∀{B:Addr} {b:Bool},HCls K B->PySem.W.subIn K (.ref ad.c_Torn) (.ref B)=some b->PySem.W.kitOne K (.ref ad.c_Torn) (.ref B)=some b:=fun c h=>kit_cc c h T.s_Torn_Torn
   exact ⟨T.k_Torn,kit_cv kitMeta_ve T.v_Torn,kit T.h_NoWay T.s_Torn_NoWay,kit T.h_Torn T.s_Torn_Torn,kit T.h_NoBallot T.s_Torn_NoBallot,kit T.h_NoBundle T.s_Torn_NoBundle,(kan (kit T.h_Ended T.s_Torn_Ended) (kan (kit T.h_NoChange T.s_Torn_NoChange) (kan (kit T.h_NoNumber T.s_Torn_NoNumber) (kan (kit T.h_NoRow T.s_Torn_NoRow) (kan (kit T.h_NoSheet T.s_Torn_NoSheet) kan_nil))))),(kan (kit T.h_TooHard T.s_Torn_TooHard) (kan (kit T.h_WrongNumber T.s_Torn_WrongNumber) kan_nil))⟩
  ·obtain rfl:=Option.some.inj hk
   have kit:∀{B:Addr} {b:Bool},HCls K B->PySem.W.subIn K (.ref ad.c_NoBallot) (.ref B)=some b->PySem.W.kitOne K (.ref ad.c_NoBallot) (.ref B)=some b:=fun c h=>kit_cc c h T.s_NoBallot_NoBallot
   exact ⟨T.k_NoBallot,kit_cv kitMeta_ve T.v_NoBallot,kit T.h_NoWay T.s_NoBallot_NoWay,kit T.h_Torn T.s_NoBallot_Torn,kit T.h_NoBallot T.s_NoBallot_NoBallot,kit T.h_NoBundle T.s_NoBallot_NoBundle,(kan (kit T.h_Ended T.s_NoBallot_Ended) (kan (kit T.h_NoChange T.s_NoBallot_NoChange) (kan (kit T.h_NoNumber T.s_NoBallot_NoNumber) (kan (kit T.h_NoRow T.s_NoBallot_NoRow) (kan (kit T.h_NoSheet T.s_NoBallot_NoSheet) kan_nil))))),(kan (kit T.h_TooHard T.s_NoBallot_TooHard) (kan (kit T.h_WrongNumber T.s_NoBallot_WrongNumber) kan_nil))⟩
  ·obtain rfl:=Option.some.inj hk
   have kit:∀{B:Addr} {b:Bool},HCls K B->PySem.W.subIn K (.ref ad.c_NoBundle) (.ref B)=some b->PySem.W.kitOne K (.ref ad.c_NoBundle) (.ref B)=some b:=fun c h=>kit_cc c h T.s_NoBundle_NoBundle
   exact ⟨T.k_NoBundle,kit_cv kitMeta_ve T.v_NoBundle,kit T.h_NoWay T.s_NoBundle_NoWay,kit T.h_Torn T.s_NoBundle_Torn,kit T.h_NoBallot T.s_NoBundle_NoBallot,kit T.h_NoBundle T.s_NoBundle_NoBundle,(kan (kit T.h_Ended T.s_NoBundle_Ended) (kan (kit T.h_NoChange T.s_NoBundle_NoChange) (kan (kit T.h_NoNumber T.s_NoBundle_NoNumber) (kan (kit T.h_NoRow T.s_NoBundle_NoRow) (kan (kit T.h_NoSheet T.s_NoBundle_NoSheet) kan_nil))))),(kan (kit T.h_TooHard T.s_NoBundle_TooHard) (kan (kit T.h_WrongNumber T.s_NoBundle_WrongNumber) kan_nil))⟩
  ·cases hk
 have k4:k < 4:=(List.getElem?_eq_some_iff.mp hk).1
 refine ⟨_,rfl,e,C,none,_,_,_,rfl,he,.inl rfl,xk,rfl,kv,_,rfl,?_⟩
 refine iteF ?_
 and_intros
 refine ⟨e,C,none,_,_,_,rfl,he,.inl rfl,xk,rfl,k0,?_⟩
 and_intros
 refine ⟨e,C,none,_,_,_,rfl,he,.inl rfl,xk,rfl,k1,?_⟩
 and_intros
 refine ⟨e,C,none,_,_,_,rfl,he,.inl rfl,xk,rfl,k2,?_⟩
 and_intros
 refine ⟨e,C,none,_,_,_,rfl,he,.inl rfl,xk,rfl,k3,?_⟩
 refine ⟨(by show 4<=sizeLine;decide),fun l hl=>?_⟩
 have s1:=same_new hl (.lst [V.bl (decide (k=0)),V.bl (decide (k=1)),V.bl (decide (k=2)),V.bl (decide (k=3))])
 have el:(upd H l (.lst [V.bl (decide (k=0)),V.bl (decide (k=1)),V.bl (decide (k=2)),V.bl (decide (k=3))])) l=some (.lst [V.bl (decide (k=0)),V.bl (decide (k=1)),V.bl (decide (k=2)),V.bl (decide (k=3))]):=upd_same
 generalize upd H l (.lst [V.bl (decide (k=0)),V.bl (decide (k=1)),V.bl (decide (k=2)),V.bl (decide (k=3))])=H1 at s1 el ⊢
 and_intros
 refine ⟨(by show 5<=sizeLine;decide),fun t1 ht1=>?_⟩
 have s2:=same_new ht1 (.tup [V.ref ad.c_Ended,V.ref ad.c_NoChange,V.ref ad.c_NoNumber,V.ref ad.c_NoRow,V.ref ad.c_NoSheet])
 have et1:(upd H1 t1 (.tup [V.ref ad.c_Ended,V.ref ad.c_NoChange,V.ref ad.c_NoNumber,V.ref ad.c_NoRow,V.ref ad.c_NoSheet])) t1=some (.tup [V.ref ad.c_Ended,V.ref ad.c_NoChange,V.ref ad.c_NoNumber,V.ref ad.c_NoRow,V.ref ad.c_NoSheet]):=upd_same
 generalize upd H1 t1 (.tup [V.ref ad.c_Ended,V.ref ad.c_NoChange,V.ref ad.c_NoNumber,V.ref ad.c_NoRow,V.ref ad.c_NoSheet])=H2 at s2 et1 ⊢
 refine ⟨e,C,none,t1,_,_,false,rfl,(s1.trans s2) _ _ he,.inl rfl,xk,SqT.of et1,rfl,n1,?_⟩
 and_intros
 refine ⟨(by show 2<=sizeLine;decide),fun t2 ht2=>?_⟩
 have s3:=same_new ht2 (.tup [V.ref ad.c_TooHard,V.ref ad.c_WrongNumber])
 have et2:(upd H2 t2 (.tup [V.ref ad.c_TooHard,V.ref ad.c_WrongNumber])) t2=some (.tup [V.ref ad.c_TooHard,V.ref ad.c_WrongNumber]):=upd_same
 generalize upd H2 t2 (.tup [V.ref ad.c_TooHard,V.ref ad.c_WrongNumber])=H3 at s3 et2 ⊢
 have s13:=(s1.trans s2).trans s3
 have he3:=s13 _ _ he
 have el3:=(s2.trans s3) _ _ el
 refine ⟨e,C,none,t2,_,_,false,rfl,he3,.inl rfl,xk,SqT.of et2,rfl,n2,?_⟩
 and_intros
 refine ⟨by omega,by omega,comp_rangeH (small63 (by show 4<=1000;decide)) (fun D i ys H'=>ys=(if k < i then [V.int (k:Int)] else [])/\H' D=some (.lst ys)/\Same H3 H') (fun D hD=>⟨(if_neg (Nat.not_lt_zero k)).symm,upd_same,same_new hD _⟩) (fun D i ys H' ⟨f1,f2,_⟩=>⟨f2,by rw [f1];split;show 1<=i;omega;exact Nat.zero_le i⟩) (fun D i ys H' ⟨_,_,f3⟩=>⟨_,_,f3 _ _ he3⟩) ?_ ?_⟩
 ·rintro D i ys H' K1 K2 hD hi ⟨f1,f2,f3⟩ k1 k2
  have i4:i < 4:=hi
  have hat:atI [V.bl (decide (k=0)),V.bl (decide (k=1)),V.bl (decide (k=2)),V.bl (decide (k=3))] (0+(i:Int))=some (.bl (decide (k=i))):=by
   rcases i with _ | _ | _ | _ | i
   ·rfl
   ·rfl
   ·rfl
   ·rfl
   ·omega
  and_intros
  refine ⟨l,_,_,_,rfl,rfl,SqL.of (f3 _ _ el3),hat,_,rfl,?_⟩
  by_cases c:k=i
  ·refine ifT (decide_eq_true c) ⟨_,rfl,k1 _ _ f2 ⟨?_,upd_same,same_upd f3 hD⟩⟩
   rw [f1,if_neg (by omega),if_pos (by omega),c,Int.zero_add]
   rfl
  ·refine ifF (decide_eq_false c) (k2 _ ⟨?_,f2,f3⟩)
   rw [f1]
   by_cases d:k < i
   ·rw [if_pos d,if_pos (by omega)]
   ·rw [if_neg d,if_neg (by omega)]
 ·rintro D ys H' hD ⟨f1,f2,f3⟩
  have f1':ys=[V.int (k:Int)]:=f1.trans (if_pos k4)
  subst f1'
  exact ⟨D,_,rfl,.inl ⟨SqL.of f2,fun t ht=>q t _ ((s13.trans f3).trans (same_new ht _)) upd_same⟩⟩
theorem ok_Box_many (T:Tx K mg ad):FnOk P w K mg base CX0 1 ad.f_Box_many ad.d_Box_many ["self"] (spMany ad.c_Box):=by
 refine T.F_Box_many.ok sc_Box_many (fun vs H Q E h=>?_) (fun cdv A outer s H vs Q E hr h=>?_)
 ·obtain ⟨b,L,n,bs,rfl,_⟩:=h
  rfl
 obtain ⟨b,L,n,bs,rfl,ib,q⟩:=h
 refine ⟨_,(@pss_one _ _ _ (@ps_ret _ _ _ _ (@pe_callB _ _ _ _ _ _ _ _ _ call_len_seq (by rfl) T.z_len PySem.boot_len (@pa_cons _ _ _ _ _ (pe_fld (pv 0) rfl) pa_nil (by rfl)) (by decide) (by decide) (by rfl) (by rfl)))),?_⟩
 obtain ⟨⟨dx,hb⟩,hL,hx,hn⟩:=ib
 refine ⟨_,rfl,b,_,dx,_,_,rfl,hb,T.cl_Box,T.na_Box_bundles,rfl,?_⟩
 refine ⟨L,_,rfl,.inl (SqL.of hL),?_⟩
 rw [List.length_map]
 exact q
theorem ok_is_rank (T:Tx K mg ad):FnOk P w K mg base CX0 2 ad.f_is_rank ad.d_is_rank ["thing"] spRank:=by
 refine T.F_is_rank.ok sc_is_rank (fun vs H Q E h=>?_) (fun cdv A outer s H vs Q E hr h=>?_)
 ·obtain ⟨r,rfl,_⟩:=h
  rfl
 obtain ⟨r,rfl,r0,r1,q⟩:=h
 refine ⟨_,(@pss_one _ _ _ (@ps_ret _ _ _ _ (@pe_and _ _ _ _ _ _ _ (@pe_call _ _ _ _ _ _ _ _ _ _ _ _ _ _ _ _ (ok_is_whole T) (hr.mono (by decide)) rfl T.m_is_whole T.F_is_whole.kp T.b_is_whole .nil pass0 (@pa_cons _ _ _ _ _ (pv 0) pa_nil (by rfl)) (by decide) (by rfl) (by rfl)) (@pe_one _ _ _ _ _ (pe_chain op_le op_le pe_int (pv 0) (pe_glob (v:=.int 1000000000) rfl T.k_MOST_RANK ⟨_,rfl⟩)))))),?_⟩
 refine ⟨_,rfl,r,rfl,?_⟩
 and_intros
 refine ifT (decide_eq_true r0) ?_
 and_intros
 show Q (.bl (decide (r<=1000000000))) H
 rw [decide_eq_true r1]
 exact q
theorem ok_tier_at (T:Tx K mg ad):FnOk P w K mg base CX0 2 ad.f_tier_at ad.d_tier_at ["ranks","wanted"] (spTier K):=by
 refine T.F_tier_at.ok sc_tier_at (fun vs H Q E h=>?_) (fun cdv A outer s H vs Q E hr h=>?_)
 ·obtain ⟨p,rs,r,rfl,_⟩:=h
  rfl
 obtain ⟨p,rs,r,rfl,hS,h12,q⟩:=h
 refine ⟨_,(@pss_cons _ _ _ _ _ (@ps_set _ _ (2) _ _ _ _ sc_tier_at.nd rfl (Or.inl rfl) pe_int (by rfl) (by first | exact .inl rfl | exact .inr rfl | assumption)) (@pss_cons _ _ _ _ _ (ps_for PassesOwn.never rfl (pi_enum rfl T.z_enumerate (@pa_cons _ _ _ _ _ (pv 0) pa_nil (by rfl))) (pg_tup rfl (pgs_cons (pg_name (i:=3) sc_tier_at.nd rfl (Or.inl rfl)) (pgs_cons (pg_name (i:=4) sc_tier_at.nd rfl (Or.inl rfl)) pgs_nil))) (@pss_one _ _ _ (@ps_if _ _ _ _ _ _ _ _ (@pt_cmpR _ _ _ _ _ _ _ _ op_eq (pv 4) (pv 1) (nomark _)) (@pss_one _ _ _ (@ps_set _ _ (2) _ _ _ _ sc_tier_at.nd rfl (Or.inl rfl) (@pe_call _ _ _ _ _ _ _ _ _ _ _ _ _ _ _ _ (ok_with_one T) (hr.mono (by decide)) rfl T.m_with_one T.F_with_one.kp T.b_with_one .nil pass0 (@pa_cons _ _ _ _ _ (pv 2) (@pa_cons _ _ _ _ _ (pv 3) pa_nil (by rfl)) (by rfl)) (by decide) (by rfl) (by rfl)) (by rfl) (by first | exact .inl rfl | exact .inr rfl | assumption))) pss_nil))) (@pss_one _ _ _ (@ps_ret _ _ _ _ (pv 2))))),?_⟩
 refine ⟨_,rfl,p,rfl,⟨_,hS⟩,for_enum (xs:=rs.map V.int) (fun i σ' H'=>∃v3 v4,σ'=[some (.ref p),some (.int r),some (.int (msum i (isR rs r))),v3,v4]/\Same H H') ⟨none,none,rfl,fun _ _ e=>e⟩ (fun i σ' H' _ ⟨_,_,_,e⟩=>e.seq hS) ?_ ?_⟩
 ·rintro i x T0 σ' H' hx ⟨v3,v4,rfl,s1⟩ hT
  obtain ⟨z,hz,rfl⟩:=int_at hx
  have hi:i < rs.length:=(List.getElem?_eq_some_iff.mp hz).1
  have s2:=same_new hT (.tup [.int (i:Int),.int z])
  have eT:(upd H' T0 (.tup [.int (i:Int),.int z])) T0=some (.tup [.int (i:Int),.int z]):=upd_same
  generalize upd H' T0 (.tup [.int (i:Int),.int z])=H2 at s2 eT ⊢
  refine ⟨T0,_,rfl,SqT.of eT,rfl,_,_,rfl,_,_,rfl,rfl,?_⟩
  have ms:=msum_succ i (isR rs r)
  have eb:decide (V.int z=V.int r)=isR rs r i:=by
   unfold isR
   rw [hz]
   by_cases c:z=r
   ·rw [decide_eq_true (by rw [c]),decide_eq_true (by rw [c])]
   ·rw [decide_eq_false (fun e=>c (V.int.inj e)),decide_eq_false (fun e=>c (Option.some.inj e))]
  and_intros
  cases er:isR rs r i with
  | true =>
    refine ifT (eb.trans er) ?_
    refine ⟨_,rfl,_,rfl,msum i (isR rs r),(i:Int),rfl,by omega,by omega,?_⟩
    have e:Builtin.bitOr (msum i (isR rs r)) (1*2 ^ (i:Int).toNat)=msum (i+1) (isR rs r):=by
     rw [ms,er,if_pos rfl,Int.toNat_natCast]
     exact or_msum i _
    rw [e]
    exact ⟨_,_,rfl,s1.trans s2⟩
  | false =>
    refine ifF (eb.trans er) ?_
    rw [er,if_neg (by decide),Int.add_zero] at ms
    exact ⟨_,_,by rw [ms];rfl,s1.trans s2⟩
 ·rintro σ' H' ⟨v3,v4,rfl,s1⟩
  refine ⟨_,rfl,?_⟩
  rw [List.length_map]
  exact q _ s1
theorem ok_ranks_of (T:Tx K mg ad):FnOk P w K mg base CX0 2 ad.f_ranks_of ad.d_ranks_of ["slip","hands"] spRanksOf:=by
 refine T.F_ranks_of.ok sc_ranks_of (fun vs H Q E h=>?_) (fun cdv A outer s H vs Q E hr h=>?_)
 ·obtain ⟨t,ts,n,rfl,_⟩:=h
  rfl
 obtain ⟨t,ts,n,rfl,ht,n12,hts,q⟩:=h
 refine ⟨_,(@pss_cons _ _ _ _ _ (ps_setC (j:=2) (fsc:=defScope s_ranks_of) (N:=["slip","hands","ranks","place","tier","hand"]) (Nc:=["slip","hands","ranks","place","tier",".s5","hand"]) rfl rfl ⟨rfl,by decide +kernel,by decide +kernel,rfl,by decide +kernel,rfl,by decide +kernel,rfl,by decide +kernel⟩ rfl sc_ranks_of.nd rfl rfl (pi_range1 rfl T.z_range (@pa_cons _ _ _ _ _ (pv 1) pa_nil (by rfl))) (fun _ _ _ _=>pif_nil) (fun _ _ _ _=>pe_int) rfl) (@pss_cons _ _ _ _ _ (ps_for PassesOwn.never rfl (pi_enumT rfl T.z_enumerate (@pa_cons _ _ _ _ _ (pv 0) pa_nil (by rfl))) (pg_tup rfl (pgs_cons (pg_name (i:=3) sc_ranks_of.nd rfl (Or.inl rfl)) (pgs_cons (pg_name (i:=4) sc_ranks_of.nd rfl (Or.inl rfl)) pgs_nil))) (@pss_one _ _ _ (ps_for PassesOwn.never rfl (pi_list (@pe_call _ _ _ _ _ _ _ _ _ _ _ _ _ _ _ _ (ok_members T) (hr.mono (by decide)) rfl T.m_members T.F_members.kp T.b_members .nil pass0 (@pa_cons _ _ _ _ _ (pv 4) pa_nil (by rfl)) (by decide) (by rfl) (by rfl))) (pg_name (i:=5) sc_ranks_of.nd rfl (Or.inl rfl)) (@pss_one _ _ _ (ps_asg (@pe_op _ _ _ _ _ _ _ _ op_add (pv 3) pe_int) (pg_sub (pv 2) (pv 5) set_list)))))) (@pss_one _ _ _ (@ps_ret _ _ _ _ (pv 2))))),?_⟩
 refine ⟨_,rfl,(n:Int),rfl,by omega,by omega,?_⟩
 rw [show ((n:Int)).toNat=n from Int.toNat_natCast n]
 refine comp_range (small63 (by omega)) (fun D i ys H'=>ys=(List.replicate i (0:Int)).map V.int/\H'=upd H D (.lst ys)) (fun D hD=>⟨rfl,rfl⟩) (fun D i ys H' ⟨f1,f2⟩=>⟨by rw [f2];exact upd_same,by rw [f1,List.length_map,List.length_replicate];exact Nat.le_refl _⟩) ?_ ?_
 ·rintro D i ys H' K1 K2 hD hi ⟨f1,rfl⟩ k1 k2
  refine yes (ifT rfl ?_)
  refine k1 _ _ upd_same ⟨?_,by rw [upd_upd]⟩
  rw [f1,List.replicate_succ',List.map_append]
  rfl
 rintro l ys H1 hl ⟨rfl,rfl⟩
 have s1:=same_new hl (.lst ((List.replicate n (0:Int)).map V.int))
 have e1:(upd H l (.lst ((List.replicate n (0:Int)).map V.int))) l=some (.lst ((List.replicate n (0:Int)).map V.int)):=upd_same
 generalize upd H l (.lst ((List.replicate n (0:Int)).map V.int))=H1 at s1 e1 ⊢
 have e0:H1 l=some (.lst (((List.range n).map fun h=>rk ts h 0).map V.int)):=by
  rw [e1]
  congr 3
  apply List.ext_getElem
  ·simp
  ·intro i h1 h2
   simp [rk]
 refine ⟨_,rfl,t,rfl,⟨_,SqT.of (s1 _ _ ht)⟩,for_enumT (xs:=ts.map V.int) (fun i σ' H'=>∃v3 v4 v5,σ'=[some (.ref t),some (.int (n:Int)),some (.ref l),v3,v4,v5]/\Same H H'/\H' l=some (.lst (((List.range n).map fun h=>rk ts h i).map V.int))) ⟨none,none,none,rfl,s1,e0⟩ (fun i σ' H' _ ⟨_,_,_,_,e,_⟩=>SqT.of (e _ _ ht)) ?_ ?_⟩
 ·rintro i x T0 σ' H' hx ⟨v3,v4,v5,rfl,s2,e2⟩ hT
  obtain ⟨z,hz,rfl⟩:=int_at hx
  have hi:i < ts.length:=(List.getElem?_eq_some_iff.mp hz).1
  obtain ⟨z0,z1⟩:=hts z (List.mem_of_getElem? hz)
  have z12:z < 4096:=by
   have q:2 ^ n<=2 ^ 12:=Nat.pow_le_pow_right (by decide) n12
   have a1:((2 ^ n:Nat):Int)=(2:Int) ^ n:=by simp
   omega
  have s3:=same_new hT (.tup [.int (i:Int),.int z])
  have eT:(upd H' T0 (.tup [.int (i:Int),.int z])) T0=some (.tup [.int (i:Int),.int z]):=upd_same
  generalize upd H' T0 (.tup [.int (i:Int),.int z])=H2 at s3 eT ⊢
  refine ⟨T0,_,rfl,SqT.of eT,rfl,_,_,rfl,_,_,rfl,rfl,?_⟩
  refine ⟨_,rfl,z,rfl,z0,z12,fun m H3 hm s4 e4=>?_⟩
  have e3:=(s3.trans s4) _ _ e2
  have lm:l≠m:=fun e=>by
   rw [<- e] at hm
   rw [s3 _ _ e2] at hm
   cases hm
  have sH3:=s2.trans (s3.trans s4)
  refine ⟨m,rfl,⟨_,SqL.of e4⟩,for_list (xs:=(hands 12 (bit z)).map V.int) (fun j σ' H'=>∃v5,σ'=[some (.ref t),some (.int (n:Int)),some (.ref l),some (.int (i:Int)),some (.int z),v5]/\Same H H'/\H' m=some (.lst ((hands 12 (bit z)).map V.int))/\H' l=some (.lst (((List.range n).map fun h:Nat=>if (h:Int)∈(hands 12 (bit z)).take j then (i:Int)+1 else rk ts h i).map V.int))) ⟨_,rfl,sH3,e4,by rw [e3];simp⟩ (fun j σ' H' _ ⟨_,_,_,e,_⟩=>SqL.of e) ?_ ?_⟩
  ·rintro j y σ' H4 hy ⟨v5',rfl,s5,e5,e6⟩
   obtain ⟨h,hh,rfl⟩:=int_at hy
   obtain ⟨h',h12,hb,rfl⟩:=hands_mem.mp (List.mem_of_getElem? hh)
   have hn:h' < n:=by
    cases Nat.lt_or_ge h' n with
    | inl c=>exact c
    | inr c =>
      have p:(2:Int) ^ n<=2 ^ h':=by
       have q:2 ^ n<=2 ^ h':=Nat.pow_le_pow_right (by decide) c
       have a1:((2 ^ n:Nat):Int)=(2:Int) ^ n:=by simp
       have a2:((2 ^ h':Nat):Int)=(2:Int) ^ h':=by simp
       omega
      rw [bit_high z0 (by omega)] at hb
      cases hb
   have et:(hands 12 (bit z)).take (j+1)=(hands 12 (bit z)).take j++[(h':Int)]:=by rw [List.take_succ,hh];rfl
   and_intros
   refine ⟨l,_,_,h',rfl,rfl,e6,ixN_nat (by rw [List.length_map,List.length_map,List.length_range];exact hn),?_⟩
   refine ⟨_,rfl,same_upd s5 hl,?_,?_⟩
   ·rw [upd_ne (Ne.symm lm)];exact e5
   ·rw [upd_same,<- List.map_set,set_range _ _ hn,et]
    congr 3
    apply List.map_congr_left
    intro k _
    by_cases c:k=h'
    ·subst c;simp
    ·have c':¬ (k:Int)=(h':Int):=by omega
     simp [c,c']
  ·rintro σ' H4 ⟨v5',rfl,s5,e5,e6⟩
   refine ⟨_,_,_,rfl,s5,?_⟩
   rw [List.length_map,List.take_of_length_le (Nat.le_refl _)] at e6
   rw [e6]
   congr 3
   apply List.map_congr_left
   intro h hm'
   have hn:=List.mem_range.mp hm'
   show _=if bit (ts.getD i 0) h=true then (i:Int)+1 else rk ts h i
   rw [List.getD_eq_getElem?_getD,hz,Option.getD_some]
   have iff:(h:Int)∈hands 12 (bit z)↔bit z h=true:=by
    rw [hands_mem]
    constructor
    ·rintro ⟨k,_,k2,k3⟩
     have:h=k:=by omega
     rw [this];exact k2
    ·intro b
     exact ⟨h,by omega,b,rfl⟩
   by_cases c:bit z h=true
   ·rw [if_pos c,if_pos (iff.mpr c)]
   ·rw [if_neg c,if_neg (fun e=>c (iff.mp e))]
 ·rintro σ' H' ⟨v3,v4,v5,rfl,s2,e2⟩
  rw [List.length_map] at e2
  exact ⟨_,rfl,q l H' hl s2 e2⟩
theorem ok_is_number (T:Tx K mg ad):FnOk P w K mg base CX0 2 ad.f_is_number ad.d_is_number ["thing"] spNum:=by
 refine T.F_is_number.ok sc_is_number (fun vs H Q E h=>?_) (fun cdv A outer s H vs Q E hr h=>?_)
 ·obtain ⟨n,rfl,_⟩:=h
  rfl
 obtain ⟨n,rfl,n0,n1,q⟩:=h
 refine ⟨_,(@pss_one _ _ _ (@ps_ret _ _ _ _ (@pe_and _ _ _ _ _ _ _ (@pe_call _ _ _ _ _ _ _ _ _ _ _ _ _ _ _ _ (ok_is_whole T) (hr.mono (by decide)) rfl T.m_is_whole T.F_is_whole.kp T.b_is_whole .nil pass0 (@pa_cons _ _ _ _ _ (pv 0) pa_nil (by rfl)) (by decide) (by rfl) (by rfl)) (@pe_one _ _ _ _ _ (pe_chain op_le op_le pe_int (pv 0) (pe_glob (v:=.int 1000000000) rfl T.k_MOST_BALLOTS ⟨_,rfl⟩)))))),?_⟩
 refine ⟨_,rfl,n,rfl,?_⟩
 and_intros
 refine ifT (decide_eq_true n0) ?_
 and_intros
 show Q (.bl (decide (n<=1000000000))) H
 rw [decide_eq_true n1]
 exact q
theorem ok_is_numberX (T:Tx K mg ad):FnOk P w K mg base CX0 2 ad.f_is_number ad.d_is_number ["thing"] spNumX:=by
 refine T.F_is_number.ok sc_is_number (fun vs H Q E h=>?_) (fun cdv A outer s H vs Q E hr h=>?_)
 ·obtain ⟨n,rfl,_⟩:=h
  rfl
 obtain ⟨n,rfl,q⟩:=h
 refine ⟨_,(@pss_one _ _ _ (@ps_ret _ _ _ _ (@pe_and _ _ _ _ _ _ _ (@pe_call _ _ _ _ _ _ _ _ _ _ _ _ _ _ _ _ (ok_is_whole T) (hr.mono (by decide)) rfl T.m_is_whole T.F_is_whole.kp T.b_is_whole .nil pass0 (@pa_cons _ _ _ _ _ (pv 0) pa_nil (by rfl)) (by decide) (by rfl) (by rfl)) (@pe_one _ _ _ _ _ (pe_chain op_le op_le pe_int (pv 0) (pe_glob (v:=.int 1000000000) rfl T.k_MOST_BALLOTS ⟨_,rfl⟩)))))),?_⟩
 refine ⟨_,rfl,n,rfl,?_⟩
 and_intros
 by_cases n0:1<=n
 ·rw [decide_eq_true n0,Bool.true_and] at q
  refine ifT (decide_eq_true n0) ?_
  and_intros
  exact q
 ·rw [decide_eq_false n0,Bool.false_and] at q
  exact ifF (decide_eq_false n0) q
theorem ok_mended (T:Tx K mg ad):FnOk P w K mg base (CX1 P w) 2 ad.f_mended ad.d_mended ["codes","seal"] (spMend38 ad.c_Torn):=by
 refine T.F_mended.okX sc_mended (fun vs H Q E h=>?_) (fun cdv A outer s H vs Q E hr h=>?_)
 ·obtain ⟨p,r,cs,y0,y1,y2,y3,rfl,_⟩:=h
  rfl
 obtain ⟨p,r,cs,y0,y1,y2,y3,rfl,h1,h2,z1,h100,q⟩:=h
 refine ⟨_,(@pss_cons _ _ _ _ _ (@ps_set _ _ (2) _ _ _ _ sc_mended.nd rfl (Or.inr rfl) (@pe_call _ _ _ _ _ _ _ _ _ _ _ _ _ _ _ _ (ok_seal_of T) (hr.mono (by decide)) rfl T.m_seal_of T.F_seal_of.kp T.b_seal_of .nil pass0 (@pa_cons _ _ _ _ _ (pv 0) pa_nil (by rfl)) (by decide) (by rfl) (by rfl)) (by rfl) (by first | exact .inl rfl | exact .inr rfl | assumption)) (@pss_cons _ _ _ _ _ (@ps_if _ _ _ _ _ _ _ _ (@pt_cmpR _ _ _ _ _ _ _ _ (op_eqT hr.units0) (pv 2) (pv 1) (nomark _)) (@pss_one _ _ _ (@ps_ret _ _ _ _ (@pe_tup _ _ _ _ _ (@pa_cons _ _ _ _ _ (@pe_callTy _ _ _ _ _ _ _ _ _ call_list_of (by rfl) T.z_list PyProof.Rows.boot_list (@pa_cons _ _ _ _ _ (pv 0) pa_nil (by rfl)) (by decide) (by decide) (by rfl) (by rfl)) (@pa_cons _ _ _ _ _ pe_int pa_nil (by rfl)) (by rfl))))) pss_nil) (@pss_cons _ _ _ _ _ (@ps_set _ _ (3) _ _ _ _ sc_mended.nd rfl (Or.inl rfl) (@pe_call _ _ _ _ _ _ _ _ _ _ _ _ _ _ _ _ (ok_place_of T) (hr.mono (by decide)) rfl T.m_place_of T.F_place_of.kp T.b_place_of .nil pass0 (@pa_cons _ _ _ _ _ (pe_comp (fsc:=defScope s_mended) (N:=["codes","seal","own","place","right"]) (Nc:=["codes","seal","own","place","right","k"]) rfl rfl ⟨rfl,by decide +kernel,by decide +kernel,rfl,by decide +kernel,rfl,by decide +kernel,rfl,by decide +kernel⟩ rfl (pi_tup (@pe_tup _ _ _ _ _ (@pa_cons _ _ _ _ _ pe_int (@pa_cons _ _ _ _ _ pe_int (@pa_cons _ _ _ _ _ pe_int pa_nil (by rfl)) (by rfl)) (by rfl)))) (fun _ _ _ _=>pif_nil) (fun _ _ _ _=>(@pe_op _ _ _ _ _ _ _ _ op_sub (@pe_ix _ _ _ _ _ _ _ (ix_tupK K) (pv 1) (pv 5) (fun _ _=>rfl)) (@pe_ix _ _ _ _ _ _ _ (ix_tupK K) (pv 2) (pv 5) (fun _ _=>rfl))))) (@pa_cons _ _ _ _ _ (@pe_callB _ _ _ _ _ _ _ _ _ call_len_seq (by rfl) T.z_len PySem.boot_len (@pa_cons _ _ _ _ _ (pv 0) pa_nil (by rfl)) (by decide) (by decide) (by rfl) (by rfl)) pa_nil (by rfl)) (by rfl)) (by decide) (by rfl) (by rfl)) (by rfl) (by first | exact .inl rfl | exact .inr rfl | assumption)) (@pss_cons _ _ _ _ _ (@ps_if _ _ _ _ _ _ _ _ (PW.pt (@pw_or _ _ _ _ _ _ _ (@pt_cmpR _ _ _ _ _ _ _ _ op_ne (@pe_ix _ _ _ _ _ _ _ ix_tup (pv 2) pe_int (fun _ _=>rfl)) (@pe_ix _ _ _ _ _ _ _ ix_tup (pv 1) pe_int (fun _ _=>rfl)) (nomark _)) (@pw_or1 _ _ _ _ (@pt_cmpR _ _ _ _ _ _ _ _ op_eq (pv 3) pe_int (nomark _))))) (@pss_one _ _ _ (ps_raise ⟨rfl,rfl,rfl⟩ rfl rfl T.m_Torn T.x_Torn (@pa_cons _ _ _ _ _ pe_str pa_nil (by rfl)))) pss_nil) (@pss_cons _ _ _ _ _ (@ps_set _ _ (4) _ _ _ _ sc_mended.nd rfl (Or.inl rfl) (@pe_callTy _ _ _ _ _ _ _ _ _ call_list_of (by rfl) T.z_list PyProof.Rows.boot_list (@pa_cons _ _ _ _ _ (pv 0) pa_nil (by rfl)) (by decide) (by decide) (by rfl) (by rfl)) (by rfl) (by first | exact .inl rfl | exact .inr rfl | assumption)) (@pss_cons _ _ _ _ _ (ps_asg (@pe_op _ _ _ _ _ _ _ _ op_sub (@pe_op _ _ _ _ _ _ _ _ op_add (@pe_ix _ _ _ _ _ _ _ ix_list (pv 4) (@pe_op _ _ _ _ _ _ _ _ op_sub (pv 3) pe_int) (fun _ _=>rfl)) (@pe_ix _ _ _ _ _ _ _ ix_tup (pv 1) pe_int (fun _ _=>rfl))) (@pe_ix _ _ _ _ _ _ _ ix_tup (pv 2) pe_int (fun _ _=>rfl))) (pg_sub (pv 4) (@pe_op _ _ _ _ _ _ _ _ op_sub (pv 3) pe_int) set_list)) (@pss_one _ _ _ (@ps_ret _ _ _ _ (@pe_tup _ _ _ _ _ (@pa_cons _ _ _ _ _ (pv 4) (@pa_cons _ _ _ _ _ (pv 3) pa_nil (by rfl)) (by rfl))))))))))),?_⟩
 refine ⟨_,rfl,p,cs,rfl,h1,z1,h100,fun o H1 ho s1 e1=>?_⟩
 refine ⟨_,rfl,_,rfl,o,r,sealL cs,[y0,y1,y2,y3],rfl,rfl,SqT.of e1,SqT.of (s1 _ _ h2),_,rfl,?_⟩
 have q:(sealL cs=[y0,y1,y2,y3]/\∀(a t:Addr) (H':Hp),H a=none->Same H H'->H' a=some (.lst (cs.map V.int))->H' t=some (.tup [.ref a,.int 0])->Q (.ref t) H')\/(sealL cs≠[y0,y1,y2,y3]/\Sz 900 (y1 - ws f1 0 cs)/\Sz 900 (y2 - ws f2 0 cs)/\((((cs.length:Int)≠y0\/placeI (y1 - ws f1 0 cs) (y2 - ws f2 0 cs) (y3 - ws f3 0 cs) cs.length=0)/\∀H':Hp,Same H H'->E (.ref ad.c_Torn) none H') \/
  ∃(i:Nat) (c d:Int),cs[i]?=some c/\y1=ws f1 0 cs+d/\(cs.length:Int)=y0/\placeI (y1 - ws f1 0 cs) (y2 - ws f2 0 cs) (y3 - ws f3 0 cs) cs.length=(i:Int)+1/\∀(a t:Addr) (H':Hp),H a=none->Same H H'->H' a=some (.lst ((cs.set i (c+d)).map V.int))->H' t=some (.tup [.ref a,.int ((i:Int)+1)])->Q (.ref t) H')):=by
  rcases q with ⟨es,pl,⟨e,rfl,rfl⟩ | ⟨i,c,d,hc,d0,szd',e,rfl,rfl⟩,q⟩ | ⟨⟨⟨ne,torn⟩,w1,w2⟩,q⟩
  ·exact .inl ⟨e,q⟩
  ·have hi:i < cs.length:=(List.getElem?_eq_some_iff.mp hc).1
   have w:∀f,ws f 0 (cs.set i (c+d))=ws f 0 cs+d*f ((i:Int)+1):=fun f=>by rw [ws_set f 0 cs i c d hc,Int.zero_add]
   unfold sealL at e
   rw [w,w,w,List.length_set] at e
   injection e with e0 e
   injection e with e1 e
   injection e with e2 e
   injection e with e3 _
   have g1:y1=ws f1 0 cs+d:=by rw [<- e1];show _+d*1=_;omega
   have g2:y2 - ws f2 0 cs=d*((i:Int)+1):=by rw [<- e2];show _+d*((i:Int)+1) - _=_;omega
   have g3:y3 - ws f3 0 cs=d*(((i:Int)+1)*((i:Int)+1)):=by rw [<- e3];show _+d*(((i:Int)+1)*((i:Int)+1)) - _=_;omega
   have szi:Sz 64 ((i:Int)+1):=sz_of (by omega) (by omega)
   have g1':y1 - ws f1 0 cs=d:=by omega
   refine .inr ⟨fun z=>?_,by rw [g1'];exact szd'.mono (by decide),by rw [g2];exact (szd'.mul szi).mono (by decide),.inr ⟨i,c,d,hc,g1,e0,by rw [g1',g2,g3];exact place_at d0 (by omega) (by omega),q⟩⟩
   unfold sealL at z
   injection z with _ z
   injection z with z _
   omega
  ·exact .inr ⟨ne,w1,w2,.inl ⟨torn,q⟩⟩
 rcases q with ⟨eq,q⟩ | ⟨ne,w1,w2,q⟩
 ·refine ifT (decide_eq_true eq) ?_
  refine ⟨_,rfl,p,_,rfl,.inl (SqL.of (s1 _ _ h1)),fun a ha=>⟨(by show 2<=sizeLine;decide),fun t ht=>?_⟩⟩
  exact q a t _ (none_of s1 ha) (s1.trans ((same_new ha _).trans (same_new ht _))) (same_new ht _ _ _ upd_same) upd_same
 refine ifF (decide_eq_false ne) ?_
 refine ⟨(by show 3<=sizeLine;decide),fun a ha=>?_⟩
 have s2:=s1.trans (same_new ha (.tup [V.int 1,V.int 2,V.int 3]))
 have ea:(upd H1 a (.tup [V.int 1,V.int 2,V.int 3])) a=some (.tup [V.int 1,V.int 2,V.int 3]):=upd_same
 have eo:=same_new ha (.tup [V.int 1,V.int 2,V.int 3]) _ _ e1
 generalize upd H1 a (.tup [V.int 1,V.int 2,V.int 3])=H2 at s2 ea eo ⊢
 refine ⟨a,rfl,⟨_,SqT.of ea⟩,?_⟩
 refine comp_tup (xs:=[V.int 1,V.int 2,V.int 3]) (by show 3<=sizeLine;decide) (fun D j ys H'=>ys=([y1 - ws f1 0 cs,y2 - ws f2 0 cs,y3 - ws f3 0 cs].take j).map V.int/\H'=upd H2 D (.lst ys)) (fun D hD=>⟨rfl,rfl⟩) (fun D j ys H' ⟨f1,f2⟩=>⟨by rw [f2];exact upd_same,by rw [f1,List.length_map];exact List.length_take_le _ _⟩) (fun D j ys H' hD ⟨_,f2⟩=>by rw [f2];exact SqT.of (same_new hD _ _ _ ea)) ?_ ?_
 ·rintro D j x ys H' K1 K2 hD hx ⟨e9,rfl⟩ k1 k2
  have er:=(s2.trans (same_new hD (.lst ys))) _ _ h2
  have eo':=same_new hD (.lst ys) _ _ eo
  refine yes (ifT rfl ?_)
  rcases j with _ | _ | _ | j
  ·cases Option.some.inj hx
   refine ⟨_,rfl,_,rfl,r,_,_,_,rfl,rfl,SqT.of er,rfl,_,rfl,_,rfl,o,_,_,_,rfl,rfl,SqT.of eo',rfl,_,_,rfl,rfl,?_⟩
   refine k1 _ _ upd_same ⟨?_,by rw [upd_upd]⟩
   rw [e9]
   rfl
  ·cases Option.some.inj hx
   refine ⟨_,rfl,_,rfl,r,_,_,_,rfl,rfl,SqT.of er,rfl,_,rfl,_,rfl,o,_,_,_,rfl,rfl,SqT.of eo',rfl,_,_,rfl,rfl,?_⟩
   refine k1 _ _ upd_same ⟨?_,by rw [upd_upd]⟩
   rw [e9]
   rfl
  ·cases Option.some.inj hx
   refine ⟨_,rfl,_,rfl,r,_,_,_,rfl,rfl,SqT.of er,rfl,_,rfl,_,rfl,o,_,_,_,rfl,rfl,SqT.of eo',rfl,_,_,rfl,rfl,?_⟩
   refine k1 _ _ upd_same ⟨?_,by rw [upd_upd]⟩
   rw [e9]
   rfl
  ·cases hx
 rintro D ys H3 hD ⟨rfl,rfl⟩
 rw [show ([y1 - ws f1 0 cs,y2 - ws f2 0 cs,y3 - ws f3 0 cs].take [V.int 1,V.int 2,V.int 3].length).map V.int=[V.int (y1 - ws f1 0 cs),V.int (y2 - ws f2 0 cs),V.int (y3 - ws f3 0 cs)] from rfl]
 have s3:=s2.trans (same_new hD (.lst [V.int (y1 - ws f1 0 cs),V.int (y2 - ws f2 0 cs),V.int (y3 - ws f3 0 cs)]))
 have eo3:=same_new hD (.lst [V.int (y1 - ws f1 0 cs),V.int (y2 - ws f2 0 cs),V.int (y3 - ws f3 0 cs)]) _ _ eo
 have eD:(upd H2 D (.lst [V.int (y1 - ws f1 0 cs),V.int (y2 - ws f2 0 cs),V.int (y3 - ws f3 0 cs)])) D=some (.lst [V.int (y1 - ws f1 0 cs),V.int (y2 - ws f2 0 cs),V.int (y3 - ws f3 0 cs)]):=upd_same
 generalize upd H2 D (.lst [V.int (y1 - ws f1 0 cs),V.int (y2 - ws f2 0 cs),V.int (y3 - ws f3 0 cs)])=H3 at s3 eo3 eD ⊢
 have hp3:=s3 _ _ h1
 have hr3:=s3 _ _ h2
 refine ⟨_,rfl,p,_,rfl,.inl (SqL.of hp3),?_⟩
 refine ⟨D,_,_,_,_,rfl,eD,w1.mono (by decide),w2.mono (by decide),?_⟩
 rw [show (((cs.map V.int).length:Nat):Int)=(cs.length:Int) from by rw [List.length_map]]
 and_intros
 rcases q with ⟨torn,q⟩ | ⟨i,c,d,hc,g1,c0,pz,q⟩
 ·have fin:1<=sizeLine/\E (.ref ad.c_Torn) none H3:=⟨by show 1<=sizeLine;decide,q H3 s3⟩
  by_cases c0:(cs.length:Int)=y0
  ·have pz:=torn.resolve_left (fun z=>z c0)
   rw [pz]
   refine ifF (ne_f c0) ?_
   and_intros
   exact fin
  ·exact ifT (ne_t c0) (ifT rfl fin)
 have hi:i < cs.length:=(List.getElem?_eq_some_iff.mp hc).1
 rw [pz]
 refine ifF (ne_f c0) ?_
 and_intros
 intro b hb
 have s4:=s3.trans (same_new hb (.lst (cs.map V.int)))
 have eb:(upd H3 b (.lst (cs.map V.int))) b=some (.lst (cs.map V.int)):=upd_same
 have eo4:=same_new hb (.lst (cs.map V.int)) _ _ eo3
 have hbH:=none_of s3 hb
 generalize upd H3 b (.lst (cs.map V.int))=H4 at s4 eb eo4 ⊢
 have hr4:=s4 _ _ h2
 have e1':(i:Int)+1 - 1=(i:Int):=by omega
 refine ⟨_,rfl,_,rfl,_,_,rfl,rfl,b,_,_,_,rfl,rfl,SqL.of eb,(by rw [e1'];exact atN hc),?_⟩
 and_intros
 refine ⟨b,_,_,i,rfl,rfl,eb,(by rw [e1'];exact ixN_nat (by rw [List.length_map];exact hi)),?_⟩
 have ev:c+y1 - ws f1 0 cs=c+d:=by omega
 have es:(cs.map V.int).set i (V.int (c+y1 - ws f1 0 cs))=(cs.set i (c+d)).map V.int:=by rw [ev,List.map_set]
 show (fun (σ':St) (H':Hp)=>_) _ (upd H4 b (.lst ((cs.map V.int).set i (V.int (c+y1 - ws f1 0 cs)))))
 rw [es]
 and_intros
 refine ⟨(by show 2<=sizeLine;decide),fun t ht=>?_⟩
 exact q b t _ hbH ((same_upd s4 hbH).trans (same_new ht _)) (same_new ht _ _ _ upd_same) upd_same
theorem ok_are_hands (T:Tx K mg ad):FnOk P w K mg base CX0 2 ad.f_are_hands ad.d_are_hands ["thing"] (spUpTo K 12):=by
 refine T.F_are_hands.ok sc_are_hands (fun vs H Q E h=>?_) (fun cdv A outer s H vs Q E hr h=>?_)
 ·obtain ⟨x,rfl,_⟩:=h
  rfl
 obtain ⟨x,rfl,wx,q⟩:=h
 refine ⟨_,(@pss_one _ _ _ (@ps_ret _ _ _ _ (@pe_and _ _ _ _ _ _ _ (@pe_call _ _ _ _ _ _ _ _ _ _ _ _ _ _ _ _ (ok_is_wholeX T) (hr.mono (by decide)) rfl T.m_is_whole T.F_is_whole.kp T.b_is_whole .nil pass0 (@pa_cons _ _ _ _ _ (pv 0) pa_nil (by rfl)) (by decide) (by rfl) (by rfl)) (@pe_one _ _ _ _ _ (pe_chain op_le op_le pe_int (pv 0) (pe_glob (v:=.int 12) rfl T.k_MOST_HANDS ⟨_,rfl⟩)))))),?_⟩
 refine ⟨_,rfl,x,_,rfl,wx,_,rfl,?_⟩
 cases x with
 | int n =>
   refine ifT rfl ?_
   by_cases n0:1<=n
   ·and_intros
    refine ifT (decide_eq_true n0) ?_
    and_intros
    have e:okTo 12 (.int n)=decide (n<=12):=by show (decide (1<=n) && decide (n<=12))=_;rw [decide_eq_true n0];rfl
    rw [e] at q
    exact q
   ·and_intros
    refine ifF (decide_eq_false n0) ?_
    have e:okTo 12 (.int n)=false:=by show (decide (1<=n) && decide (n<=12))=_;rw [decide_eq_false n0];rfl
    rw [e] at q
    exact q
 | _=>exact ifF rfl q
theorem ok_law_ranks (T:Tx K mg ad):FnOk P w K mg base CX0 2 ad.f_law_ranks ad.d_law_ranks ["_law_cell_here","_law_hands"] spRanks31:=by
 refine T.F_law_ranks.ok sc_law_ranks (fun vs H Q E h=>?_) (fun cdv A outer s H vs Q E hr h=>?_)
 ·obtain ⟨c,n,rfl,_⟩:=h
  rfl
 obtain ⟨c,n,rfl,c0,c1,n1,n12,q⟩:=h
 refine ⟨_,(@pss_cons _ _ _ _ _ (@ps_set _ _ (2) _ _ _ _ sc_law_ranks.nd rfl (Or.inl rfl) (@pe_call _ _ _ _ _ _ _ _ _ _ _ _ _ _ _ _ (ok_law_mixed T) (hr.mono (by decide)) rfl T.m_law_mixed T.F_law_mixed.kp T.b_law_mixed .nil pass0 (@pa_cons _ _ _ _ _ (pv 0) (@pa_cons _ _ _ _ _ pe_int pa_nil (by rfl)) (by rfl)) (by decide) (by rfl) (by rfl)) (by rfl) (by first | exact .inl rfl | exact .inr rfl | assumption)) (@pss_cons _ _ _ _ _ (@ps_set _ _ (3) _ _ _ _ sc_law_ranks.nd rfl (Or.inl rfl) (@pe_op _ _ _ _ _ _ _ _ op_modN (pv 2) pe_int) (by rfl) (by first | exact .inl rfl | exact .inr rfl | assumption)) (@pss_cons _ _ _ _ _ (@ps_if _ _ _ _ _ _ _ _ (@pt_cmpR _ _ _ _ _ _ _ _ op_eq (pv 3) pe_int (nomark _)) (@pss_cons _ _ _ _ _ (@ps_set _ _ (4) _ _ _ _ sc_law_ranks.nd rfl (Or.inr rfl) (@pe_callB _ _ _ _ _ _ _ _ _ (call_sortedT hr.units) (by rfl) T.z_sorted PyProof.Rows.boot_sorted (@pa_cons _ _ _ _ _ (pe_comp (fsc:=defScope s_law_ranks) (N:=["_law_cell_here","_law_hands","_law_number","_law_way","_law_order","_law_spread","_law_raw","_law_there"]) (Nc:=["_law_cell_here","_law_hands","_law_number","_law_way","_law_order","_law_spread","_law_raw","_law_there","_law_hand"]) rfl rfl ⟨rfl,by decide +kernel,by decide +kernel,rfl,by decide +kernel,rfl,by decide +kernel,rfl,by decide +kernel⟩ rfl (pi_range1 rfl T.z_range (@pa_cons _ _ _ _ _ (pv 1) pa_nil (by rfl))) (fun _ _ _ _=>pif_nil) (fun _ _ _ _=>(@pe_tup _ _ _ _ _ (@pa_cons _ _ _ _ _ (@pe_call _ _ _ _ _ _ _ _ _ _ _ _ _ _ _ _ (ok_law_mixed T) (hr.mono (by decide)) rfl T.m_law_mixed T.F_law_mixed.kp T.b_law_mixed .nil pass0 (@pa_cons _ _ _ _ _ (pv 0) (@pa_cons _ _ _ _ _ (@pe_op _ _ _ _ _ _ _ _ op_add pe_int (pv 8)) pa_nil (by rfl)) (by rfl)) (by decide) (by rfl) (by rfl)) (@pa_cons _ _ _ _ _ (pv 8) pa_nil (by rfl)) (by rfl))))) pa_nil (by rfl)) (by decide) (by decide) (by rfl) (by rfl)) (by rfl) (by first | exact .inl rfl | exact .inr rfl | assumption)) (@pss_cons _ _ _ _ _ (@ps_set _ _ (4) _ _ _ _ sc_law_ranks.nd rfl (Or.inr rfl) (pe_comp (fsc:=defScope s_law_ranks) (N:=["_law_cell_here","_law_hands","_law_number","_law_way","_law_order","_law_spread","_law_raw","_law_there"]) (Nc:=["_law_cell_here","_law_hands","_law_number","_law_way","_law_order","_law_spread","_law_raw","_law_there","_law_pair"]) rfl rfl ⟨rfl,by decide +kernel,by decide +kernel,rfl,by decide +kernel,rfl,by decide +kernel,rfl,by decide +kernel⟩ rfl (pi_list (pv 4)) (fun _ _ _ _=>pif_nil) (fun _ _ _ _=>(@pe_ix _ _ _ _ _ _ _ (ix_tupK K) (pv 8) pe_int (fun _ _=>rfl)))) (by rfl) (by first | exact .inl rfl | exact .inr rfl | assumption)) (@pss_one _ _ _ (@ps_ret _ _ _ _ (pe_comp (fsc:=defScope s_law_ranks) (N:=["_law_cell_here","_law_hands","_law_number","_law_way","_law_order","_law_spread","_law_raw","_law_there"]) (Nc:=["_law_cell_here","_law_hands","_law_number","_law_way","_law_order","_law_spread","_law_raw","_law_there","_law_hand"]) rfl rfl ⟨rfl,by decide +kernel,by decide +kernel,rfl,by decide +kernel,rfl,by decide +kernel,rfl,by decide +kernel⟩ rfl (pi_range1 rfl T.z_range (@pa_cons _ _ _ _ _ (pv 1) pa_nil (by rfl))) (fun _ _ _ _=>pif_nil) (fun _ _ _ _=>(@pe_op _ _ _ _ _ _ _ _ op_add pe_int (@pe_bmK _ _ _ _ _ _ _ _ _ _ _ _ K PySem.F.plainAttrs_list PySem.F.slot_list_index PySem.F.type_list_index (mt_index (K:=K)) (pv 4) (@pa_cons _ _ _ _ _ (pv 8) pa_nil (by rfl)) (by rfl) (by rfl) (by rfl) (by rfl) (by rfl) (by rfl))))))))) pss_nil) (@pss_cons _ _ _ _ _ (@ps_set _ _ (5) _ _ _ _ sc_law_ranks.nd rfl (Or.inr rfl) (@pe_ix _ _ _ _ _ _ _ ix_list (@pe_lst _ _ _ _ (@pa_cons _ _ _ _ _ pe_int (@pa_cons _ _ _ _ _ pe_int (@pa_cons _ _ _ _ _ pe_int (@pa_cons _ _ _ _ _ (@pe_op _ _ _ _ _ _ _ _ op_add (pv 1) pe_int) pa_nil (by rfl)) (by rfl)) (by rfl)) (by rfl))) (pv 3) (fun _ _=>rfl)) (by rfl) (by first | exact .inl rfl | exact .inr rfl | assumption)) (@pss_cons _ _ _ _ _ (ps_setC (j:=6) (fsc:=defScope s_law_ranks) (N:=["_law_cell_here","_law_hands","_law_number","_law_way","_law_order","_law_spread","_law_raw","_law_there"]) (Nc:=["_law_cell_here","_law_hands","_law_number","_law_way","_law_order","_law_spread","_law_raw","_law_there","_law_hand"]) rfl rfl ⟨rfl,by decide +kernel,by decide +kernel,rfl,by decide +kernel,rfl,by decide +kernel,rfl,by decide +kernel⟩ rfl sc_law_ranks.nd rfl rfl (pi_range1 rfl T.z_range (@pa_cons _ _ _ _ _ (pv 1) pa_nil (by rfl))) (fun _ _ _ _=>pif_nil) (fun _ _ _ _=>(@pe_op _ _ _ _ _ _ _ _ op_modN (@pe_op _ _ _ _ _ _ _ _ op_fdivB (@pe_call _ _ _ _ _ _ _ _ _ _ _ _ _ _ _ _ (ok_law_mixed T) (hr.mono (by decide)) rfl T.m_law_mixed T.F_law_mixed.kp T.b_law_mixed .nil pass0 (@pa_cons _ _ _ _ _ (pv 0) (@pa_cons _ _ _ _ _ (@pe_op _ _ _ _ _ _ _ _ op_add pe_int (pv 8)) pa_nil (by rfl)) (by rfl)) (by decide) (by rfl) (by rfl)) pe_int) (pv 5))) rfl) (@pss_cons _ _ _ _ _ (@ps_set _ _ (7) _ _ _ _ sc_law_ranks.nd rfl (Or.inr rfl) (pe_sortedset rfl (by rfl) T.z_sorted (by rfl) T.z_set (@pe_op _ _ _ _ _ _ _ _ op_cat (pv 6) (@pe_lst _ _ _ _ (@pa_cons _ _ _ _ _ pe_int pa_nil (by rfl))))) (by rfl) (by first | exact .inl rfl | exact .inr rfl | assumption)) (@pss_one _ _ _ (@ps_ret _ _ _ _ (pe_comp (fsc:=defScope s_law_ranks) (N:=["_law_cell_here","_law_hands","_law_number","_law_way","_law_order","_law_spread","_law_raw","_law_there"]) (Nc:=["_law_cell_here","_law_hands","_law_number","_law_way","_law_order","_law_spread","_law_raw","_law_there","_law_rank"]) rfl rfl ⟨rfl,by decide +kernel,by decide +kernel,rfl,by decide +kernel,rfl,by decide +kernel,rfl,by decide +kernel⟩ rfl (pi_list (pv 6)) (fun _ _ _ _=>pif_nil) (fun _ _ _ _=>(@pe_bmK _ _ _ _ _ _ _ _ _ _ _ _ K PySem.F.plainAttrs_list PySem.F.slot_list_index PySem.F.type_list_index (mt_index (K:=K)) (pv 7) (@pa_cons _ _ _ _ _ (pv 8) pa_nil (by rfl)) (by rfl) (by rfl) (by rfl) (by rfl) (by rfl) (by rfl)))))))))))),?_⟩
 have szc:=sz40 c0 c1
 refine ⟨_,rfl,c,1,rfl,szc,szd 64,fun z z0 z1=>?_⟩
 and_intros
 have wm:=fmod_in z (show (0:Int) < 5 by decide)
 refine ite2 (fun cw=>?_) (fun cw=>?_)
 ·refine ⟨_,rfl,(n:Int),rfl,by omega,by omega,?_⟩
  rw [show ((n:Int)).toNat=n from Int.toNat_natCast n]
  refine comp_range (small63 (by omega)) (fun D i ys H'=>∃qs:List (Addr × List Int),ys=qs.map (fun q=>V.ref q.1)/\qs.map (fun q=>q.2.getD 1 0)=(List.range i).map (fun j:Nat=>(j:Int))/\(∀q∈qs,H' q.1=some (.tup (q.2.map V.int))/\∃z k,q.2=[z,k])/\H' D=some (.lst ys)/\Same H H') (fun D hD=>⟨[],rfl,rfl,(fun q m=>nomatch m),upd_same,same_new hD _⟩) (fun D i ys H' ⟨qs,f1,f2,_,f3,_⟩=>⟨f3,by
   have:=congrArg List.length f2
   rw [List.length_map,List.length_map,List.length_range] at this
   rw [f1,List.length_map];omega⟩) ?_ ?_
  ·rintro D i ys H' K1 K2 hD hi ⟨qs,rfl,f2,f3,f4,f5⟩ k1 k2
   refine yes (ifT rfl ?_)
   and_intros
   refine ⟨c,_,rfl,szc,sz_of (by omega) (by omega),fun y y0 y1=>?_⟩
   and_intros
   refine ⟨(by show 2<=sizeLine;decide),fun a ha=>?_⟩
   have e0:(0:Int)+(i:Int)=(i:Int):=Int.zero_add _
   rw [e0]
   have s6:=same_new ha (.tup [V.int y,V.int (i:Int)])
   have ea:(upd H' a (.tup [V.int y,V.int (i:Int)])) a=some (.tup [V.int y,V.int (i:Int)]):=upd_same
   have aD:a≠D:=fun e=>by rw [e,f4] at ha;cases ha
   generalize upd H' a (.tup [V.int y,V.int (i:Int)])=H5 at s6 ea ⊢
   refine k1 _ _ (s6 _ _ f4) ⟨qs++[(a,[y,(i:Int)])],by rw [List.map_append];rfl,by rw [List.map_append,f2,List.range_succ,List.map_append];rfl,fun q m=>?_,upd_same,same_upd (f5.trans s6) hD⟩
   rcases List.mem_append.mp m with m | m
   ·obtain ⟨g1,g2⟩:=f3 q m
    have qD:q.1≠D:=fun e=>by rw [e,f4] at g1;cases g1
    exact ⟨by rw [upd_ne qD];exact s6 _ _ g1,g2⟩
   ·obtain rfl:=List.mem_singleton.mp m
    exact ⟨by rw [upd_ne aD];exact ea,y,(i:Int),rfl⟩
  rintro D ys H1 hD ⟨qs,rfl,f2,f3,f4,f5⟩
  have lq:qs.length=n:=by
   have:=congrArg List.length f2
   rw [List.length_map,List.length_map,List.length_range] at this
   exact this
  refine ⟨D,qs,rfl,SqL.of f4,fun q m=>SqT.of (f3 q m).1,by omega,fun l ps pm _ hl=>?_⟩
  have pf:∀q∈ps,H1 q.1=some (.tup (q.2.map V.int))/\∃z k,q.2=[z,k]:=fun q m=>f3 q (pm.mem_iff.mp m)
  have po:(ps.map fun q=>q.2.getD 1 0).Perm ((List.range n).map fun j:Nat=>(j:Int)):=by rw [<- f2];exact pm.map _
  have lp:ps.length=n:=by rw [pm.length_eq,lq]
  have s6:=same_new hl (.lst (ps.map fun q=>V.ref q.1))
  have el:(upd H1 l (.lst (ps.map fun q=>V.ref q.1))) l=some (.lst (ps.map fun q=>V.ref q.1)):=upd_same
  generalize upd H1 l (.lst (ps.map fun q=>V.ref q.1))=H2 at s6 el ⊢
  refine ⟨_,rfl,l,rfl,⟨_,SqL.of el⟩,?_⟩
  refine comp_list (xs:=ps.map fun q=>V.ref q.1) (by rw [List.length_map];exact small63 (by omega)) (fun D2 i ys H'=>ys=((ps.take i).map fun q=>q.2.getD 1 0).map V.int/\H' D2=some (.lst ys)/\Same H2 H') (fun D2 hD2=>⟨rfl,upd_same,same_new hD2 _⟩) (fun D2 i ys H' ⟨g1,g2,_⟩=>⟨g2,by rw [g1,List.length_map,List.length_map];exact List.length_take_le _ _⟩) (fun D2 i ys H' hD2 ⟨_,_,g3⟩=>SqL.of (g3 _ _ el)) ?_ ?_
  ·rintro D2 i x ys H' K1 K2 hD2 hx ⟨g1,g2,g3⟩ k1 k2
   rw [List.getElem?_map] at hx
   obtain ⟨q0,hq0,rfl⟩:=Option.map_eq_some_iff.mp hx
   obtain ⟨h1,z,k,h2⟩:=pf q0 (List.mem_of_getElem? hq0)
   have et:ps.take (i+1)=ps.take i++[q0]:=by rw [List.take_succ,hq0];rfl
   rw [h2] at h1
   refine yes (ifT rfl ?_)
   refine ⟨_,rfl,q0.1,_,_,_,rfl,rfl,SqT.of (g3 _ _ (s6 _ _ h1)),rfl,?_⟩
   refine k1 _ _ g2 ⟨?_,upd_same,same_upd g3 hD2⟩
   rw [et,List.map_append,List.map_append,g1]
   show _=_++[V.int (q0.2.getD 1 0)]
   rw [h2]
   rfl
  rintro D2 ys H3 hD2 ⟨g1,g2,g3⟩
  rw [List.length_map,List.take_of_length_le (Nat.le_refl _)] at g1
  subst g1
  generalize (ps.map fun q=>q.2.getD 1 0)=os at po g2 ⊢
  obtain ⟨gp,g12⟩:=gap_perm po
  refine ⟨_,rfl,(n:Int),rfl,by omega,by omega,?_⟩
  rw [show ((n:Int)).toNat=n from Int.toNat_natCast n]
  refine comp_range (small63 (by omega)) (fun D4 i ys H'=>ys=((List.range i).map fun h:Nat=>1+((os.idxOf (h:Int):Nat):Int)).map V.int/\H' D4=some (.lst ys)/\Same H3 H') (fun D4 hD4=>⟨rfl,upd_same,same_new hD4 _⟩) (fun D4 i ys H' ⟨g1,g2,_⟩=>⟨g2,by rw [g1,List.length_map,List.length_map,List.length_range];exact Nat.le_refl _⟩) ?_ ?_
  ·rintro D4 i ys H' K1 K2 hD4 hi ⟨k3,k4,k5⟩ k1 k2
   have e0:(0:Int)+(i:Int)=(i:Int):=Int.zero_add _
   refine yes (ifT rfl ?_)
   rw [e0]
   refine ⟨_,rfl,.inl ⟨rfl,_,SqL.of (k5 _ _ g2)⟩,_,rfl,D2,os,(i:Int),rfl,rfl,SqL.of (k5 _ _ g2),po.mem_iff.mpr (List.mem_map.mpr ⟨i,List.mem_range.mpr hi,rfl⟩),?_⟩
   refine ⟨_,_,rfl,rfl,?_⟩
   refine k1 _ _ k4 ⟨?_,upd_same,same_upd k5 hD4⟩
   rw [List.range_succ,List.map_append,List.map_append,k3]
   rfl
  rintro D4 ys H4 hD4 ⟨rfl,k4,k5⟩
  exact q D4 _ n H4 (none_of' ((f5.trans s6).trans g3) hD4) (((f5.trans s6).trans g3).trans k5) k4 (by rw [List.length_map,List.length_range]) gp fun r m=>⟨gp.low r m,by have:=g12 r m;omega⟩
 ·have w4:z.fmod 5≠4:=fun e=>cw (eq_t e)
  and_intros
  refine ⟨(by show 4<=sizeLine;decide),fun a ha=>?_⟩
  have s1:=same_new ha (.lst [V.int 1,V.int 2,V.int 4,V.int ((n:Int)+2)])
  have ea:(upd H a (.lst [V.int 1,V.int 2,V.int 4,V.int ((n:Int)+2)])) a=some (.lst [V.int 1,V.int 2,V.int 4,V.int ((n:Int)+2)]):=upd_same
  generalize upd H a (.lst [V.int 1,V.int 2,V.int 4,V.int ((n:Int)+2)])=H1 at s1 ea ⊢
  obtain ⟨sp,hsp,sp1⟩:=pick4 (x0:=1) (x1:=2) (x2:=4) (x3:=(n:Int)+2) (fun v=>1<=v) (z.fmod 5) wm.1 (by omega) (by decide) (by decide) (by decide) (by omega)
  refine ⟨_,rfl,a,_,_,_,rfl,rfl,SqL.of ea,hsp,?_⟩
  refine ⟨_,rfl,(n:Int),rfl,by omega,by omega,?_⟩
  rw [show ((n:Int)).toNat=n from Int.toNat_natCast n]
  refine comp_range (small63 (by omega)) (fun D i ys H'=>∃zs:List Int,ys=zs.map V.int/\zs.length=i/\(∀z∈zs,0<=z)/\H' D=some (.lst ys)/\Same H1 H') (fun D hD=>⟨[],rfl,rfl,(fun z m=>nomatch m),upd_same,same_new hD _⟩) (fun D i ys H' ⟨zs,g1,g2,_,g3,_⟩=>⟨g3,by rw [g1,List.length_map];omega⟩) ?_ ?_
  ·rintro D i ys H' K1 K2 hD hi ⟨zs,rfl,f2,f3,f4,f5⟩ k1 k2
   refine yes (ifT rfl ?_)
   and_intros
   refine ⟨c,_,rfl,szc,sz_of (by omega) (by omega),fun y y0 y1=>?_⟩
   and_intros
   refine ⟨(by show (_:Int)≠0;omega),?_⟩
   have m:=fmod_in (y.fdiv 8) (show (0:Int) < sp by omega)
   refine k1 _ _ f4 ⟨zs++[(y.fdiv 8).fmod sp],by rw [List.map_append];rfl,by rw [List.length_append,f2];rfl,fun z mz=>?_,upd_same,same_upd f5 hD⟩
   rcases List.mem_append.mp mz with mz | mz
   ·exact f3 z mz
   ·rw [List.mem_singleton.mp mz];exact m.1
  rintro D ys H2 hD ⟨raw,rfl,lr,pr,f4,f5⟩
  refine ⟨_,rfl,(by show 1<=sizeLine;decide),fun b hb=>?_⟩
  have s3:=same_new hb (.lst [V.int 0])
  have eb:(upd H2 b (.lst [V.int 0])) b=some (.lst [V.int 0]):=upd_same
  generalize upd H2 b (.lst [V.int 0])=H3 at s3 eb ⊢
  refine ⟨D,b,_,_,rfl,rfl,s3 _ _ f4,eb,(by rw [List.length_map];exact Nat.le_of_lt (small1000 (by show raw.length+1<=1000;omega))),fun d hd=>?_⟩
  rw [show raw.map V.int++[V.int 0]=(raw++[0]).map V.int from (by rw [List.map_append];rfl)]
  have s4:=same_new hd (.lst ((raw++[0]).map V.int))
  have ed:(upd H3 d (.lst ((raw++[0]).map V.int))) d=some (.lst ((raw++[0]).map V.int)):=upd_same
  generalize upd H3 d (.lst ((raw++[0]).map V.int))=H4 at s4 ed ⊢
  refine ⟨d,raw++[0],rfl,SqL.of ed,(by rw [List.length_append];show raw.length+1 < 64;omega),fun l us u1 u2 hl=>?_⟩
  have s5:=same_new hl (.lst (us.map V.int))
  have el:(upd H4 l (.lst (us.map V.int))) l=some (.lst (us.map V.int)):=upd_same
  generalize upd H4 l (.lst (us.map V.int))=H5 at s5 el ⊢
  have gp:=gap_idx u1 u2 pr
  have lu:us.length<=13:=by
   obtain rfl:=sset_of u1 u2
   have:=sset_len (raw++[0])
   rw [List.length_append] at this
   have:(sset (raw++[0])).length<=raw.length+1:=this
   omega
  have f6:=s5 _ _ (s4 _ _ (s3 _ _ f4))
  refine ⟨_,rfl,D,rfl,⟨_,SqL.of f6⟩,?_⟩
  refine comp_list (xs:=raw.map V.int) (by rw [List.length_map];exact small63 (by omega)) (fun D4 i ys H'=>ys=((raw.take i).map fun r=>((us.idxOf r:Nat):Int)).map V.int/\H' D4=some (.lst ys)/\Same H5 H') (fun D4 hD4=>⟨rfl,upd_same,same_new hD4 _⟩) (fun D4 i ys H' ⟨g1,g2,_⟩=>⟨g2,by rw [g1,List.length_map,List.length_map];exact List.length_take_le _ _⟩) (fun D4 i ys H' hD4 ⟨_,_,g3⟩=>SqL.of (g3 _ _ f6)) ?_ ?_
  ·rintro D4 i x ys H' K1 K2 hD4 hx ⟨k3,k4,k5⟩ k1 k2
   obtain ⟨z,hz,rfl⟩:=int_at hx
   have et:raw.take (i+1)=raw.take i++[z]:=by rw [List.take_succ,hz];rfl
   refine yes (ifT rfl ?_)
   refine ⟨_,rfl,.inl ⟨rfl,_,SqL.of (k5 _ _ el)⟩,_,rfl,l,us,z,rfl,rfl,SqL.of (k5 _ _ el),(u2 z).mpr (List.mem_append_left _ (List.mem_of_getElem? hz)),?_⟩
   refine k1 _ _ k4 ⟨?_,upd_same,same_upd k5 hD4⟩
   rw [et,List.map_append,List.map_append,k3]
   rfl
  rintro D4 ys H6 hD4 ⟨k3,k4,k5⟩
  rw [List.length_map,List.take_of_length_le (Nat.le_refl _)] at k3
  subst k3
  refine q D4 _ (us.length - 1) H6 (none_of' ((((s1.trans f5).trans s3).trans s4).trans s5) hD4) (((((s1.trans f5).trans s3).trans s4).trans s5).trans k5) k4 (by rw [List.length_map];exact lr) gp fun r m=>⟨gp.low r m,?_⟩
  by_cases c:0 < r
  ·have:=(gp.all r c).mp m
   omega
  ·omega
theorem ok_law_many (T:Tx K mg ad):FnOk P w K mg base CX0 2 ad.f_law_many ad.d_law_many ["_law_cell_here","_law_k"] spMany31:=by
 refine T.F_law_many.ok sc_law_many (fun vs H Q E h=>?_) (fun cdv A outer s H vs Q E hr h=>?_)
 ·obtain ⟨c,k,rfl,_⟩:=h
  rfl
 obtain ⟨c,k,rfl,c0,c1,k0,k1,q⟩:=h
 refine ⟨_,(@pss_cons _ _ _ _ _ (@ps_set _ _ (2) _ _ _ _ sc_law_many.nd rfl (Or.inl rfl) (@pe_call _ _ _ _ _ _ _ _ _ _ _ _ _ _ _ _ (ok_law_mixed T) (hr.mono (by decide)) rfl T.m_law_mixed T.F_law_mixed.kp T.b_law_mixed .nil pass0 (@pa_cons _ _ _ _ _ (pv 0) (@pa_cons _ _ _ _ _ (@pe_op _ _ _ _ _ _ _ _ op_add (pv 1) pe_int) pa_nil (by rfl)) (by rfl)) (by decide) (by rfl) (by rfl)) (by rfl) (by first | exact .inl rfl | exact .inr rfl | assumption)) (@pss_one _ _ _ (@ps_ret _ _ _ _ (@pe_ix _ _ _ _ _ _ _ ix_list (@pe_lst _ _ _ _ (@pa_cons _ _ _ _ _ (@pe_op _ _ _ _ _ _ _ _ op_add pe_int (@pe_op _ _ _ _ _ _ _ _ op_modN (@pe_op _ _ _ _ _ _ _ _ op_fdivB (pv 2) pe_int) pe_int)) (@pa_cons _ _ _ _ _ (@pe_op _ _ _ _ _ _ _ _ op_add pe_int (@pe_op _ _ _ _ _ _ _ _ op_modN (@pe_op _ _ _ _ _ _ _ _ op_fdivB (pv 2) pe_int) (@pe_op _ _ _ _ _ _ _ _ op_pow pe_int pe_int))) (@pa_cons _ _ _ _ _ (@pe_op _ _ _ _ _ _ _ _ op_pow pe_int pe_int) (@pa_cons _ _ _ _ _ pe_int pa_nil (by rfl)) (by rfl)) (by rfl)) (by rfl))) (@pe_op _ _ _ _ _ _ _ _ op_modN (@pe_op _ _ _ _ _ _ _ _ op_fdivB (pv 2) pe_int) pe_int) (fun _ _=>rfl))))),?_⟩
 and_intros
 refine ⟨c,_,rfl,sz40 c0 c1,sz_of (by omega) (by omega),fun z z0 z1=>?_⟩
 and_intros
 refine ⟨(by show 4<=sizeLine;decide),fun a ha=>?_⟩
 and_intros
 have m4:=fmod_in (z.fdiv 3) (show (0:Int) < 4 by decide)
 have b9:=fmod_in (z.fdiv 8) (show (0:Int) < 9 by decide)
 have e9:(10:Int) ^ (9:Int).toNat=1000000000:=by decide
 have bb:=fmod_in (z.fdiv 8) (show (0:Int) < (10:Int) ^ (9:Int).toNat by decide)
 rw [e9] at bb
 obtain ⟨v,hv,v0,v1⟩:=pick4 (x0:=1+(z.fdiv 8).fmod 9) (x1:=1+(z.fdiv 8).fmod ((10:Int) ^ (9:Int).toNat)) (x2:=(10:Int) ^ (9:Int).toNat) (x3:=1) (fun v=>1<=v/\v<=1000000000) ((z.fdiv 3).fmod 4) m4.1 m4.2 ⟨by omega,by omega⟩ ⟨by rw [e9];omega,by rw [e9];omega⟩ ⟨by rw [e9];decide,by rw [e9];decide⟩ ⟨by decide,by decide⟩
 refine ⟨a,_,_,_,rfl,rfl,SqL.of upd_same,hv,?_⟩
 exact q v _ v0 v1 (same_new ha _)
theorem ok_law_line (T:Tx K mg ad):FnOk P w K mg base CX0 2 ad.f_law_line ad.d_law_line ["_law_found","_law_due"] spLine31:=by
 refine T.F_law_line.ok sc_law_line (fun vs H Q E h=>?_) (fun cdv A outer s H vs Q E hr h=>?_)
 ·obtain ⟨p,b,t,u,ts,c,rfl,_⟩:=h
  rfl
 obtain ⟨p,b,t,u,ts,c,rfl,l12,hp,ht,hb,hu,q⟩:=h
 refine ⟨_,(@pss_cons _ _ _ _ _ (@ps_if _ _ _ _ _ _ _ _ (PW.pt (@pw_or _ _ _ _ _ _ _ (@pt_not _ _ _ _ (@pt_val _ _ _ (@pe_callB _ _ _ _ _ _ _ _ _ call_isi (by rfl) T.z_isinstance PyProof.Rows.boot_isinstance (@pa_cons _ _ _ _ _ (pv 0) (@pa_cons _ _ _ _ _ (pe_bltn (v:=.ty "tuple") rfl T.z_tuple PyProof.Rows.boot_tuple rfl) pa_nil (by rfl)) (by rfl)) (by decide) (by decide) (by rfl) (by rfl)) (by intro _;rfl))) (@pw_or _ _ _ _ _ _ _ (@pt_cmpR _ _ _ _ _ _ _ _ op_ne (@pe_callB _ _ _ _ _ _ _ _ _ call_len_seq (by rfl) T.z_len PySem.boot_len (@pa_cons _ _ _ _ _ (pv 0) pa_nil (by rfl)) (by decide) (by decide) (by rfl) (by rfl)) pe_int (nomark _)) (@pw_or1 _ _ _ _ (@pt_not _ _ _ _ (@pt_val _ _ _ (@pe_callB _ _ _ _ _ _ _ _ _ call_isi (by rfl) T.z_isinstance PyProof.Rows.boot_isinstance (@pa_cons _ _ _ _ _ (@pe_ix _ _ _ _ _ _ _ ix_tup (pv 0) pe_int (fun _ _=>rfl)) (@pa_cons _ _ _ _ _ (pe_bltn (v:=.ty "tuple") rfl T.z_tuple PyProof.Rows.boot_tuple rfl) pa_nil (by rfl)) (by rfl)) (by decide) (by decide) (by rfl) (by rfl)) (by intro _;rfl))))))) (@pss_one _ _ _ (@ps_ret _ _ _ _ pe_bl)) pss_nil) (@pss_cons _ _ _ _ _ (@ps_if _ _ _ _ _ _ _ _ (@pt_cmpR _ _ _ _ _ _ _ _ op_gt (@pe_callB _ _ _ _ _ _ _ _ _ call_len_seq (by rfl) T.z_len PySem.boot_len (@pa_cons _ _ _ _ _ (pe_comp (fsc:=defScope s_law_line) (N:=["_law_found","_law_due"]) (Nc:=["_law_found","_law_due","_law_tier"]) rfl rfl ⟨rfl,by decide +kernel,by decide +kernel,rfl,by decide +kernel,rfl,by decide +kernel,rfl,by decide +kernel⟩ rfl (pi_tup (@pe_ix _ _ _ _ _ _ _ ix_tup (pv 0) pe_int (fun _ _=>rfl))) (fun _ _ _ _=>(pif_one (@pt_not _ _ _ _ (@pt_val _ _ _ (@pe_call _ _ _ _ _ _ _ _ _ _ _ _ _ _ _ _ (ok_law_whole T) (hr.mono (by decide)) rfl T.m_law_whole T.F_law_whole.kp T.b_law_whole .nil pass0 (@pa_cons _ _ _ _ _ (pv 2) pa_nil (by rfl)) (by decide) (by rfl) (by rfl)) (by intro _;rfl))))) (fun _ _ _ _=>(pv 2))) pa_nil (by rfl)) (by decide) (by decide) (by rfl) (by rfl)) pe_int (nomark _)) (@pss_one _ _ _ (@ps_ret _ _ _ _ pe_bl)) pss_nil) (@pss_one _ _ _ (@ps_ret _ _ _ _ (@pe_and _ _ _ _ _ _ _ (@pe_call _ _ _ _ _ _ _ _ _ _ _ _ _ _ _ _ (ok_law_whole T) (hr.mono (by decide)) rfl T.m_law_whole T.F_law_whole.kp T.b_law_whole .nil pass0 (@pa_cons _ _ _ _ _ (@pe_ix _ _ _ _ _ _ _ ix_tup (pv 0) pe_int (fun _ _=>rfl)) pa_nil (by rfl)) (by decide) (by rfl) (by rfl)) (@pe_one _ _ _ _ _ (@pe_cmpR _ _ _ _ _ _ _ _ (op_eqD (K:=K) hr.units) (pv 0) (pv 1) (nomark _)))))))),?_⟩
 refine ⟨_,rfl,_,_,_,_,rfl,TyOf.tup hp,kit_tuple_tuple,?_⟩
 and_intros
 refine ⟨_,_,_,_,rfl,TyOf.tup ht,kit_tuple_tuple,?_⟩
 and_intros
 refine ⟨⟨_,SqT.of ht⟩,?_⟩
 refine comp_tup (xs:=ts.map V.int) (by rw [List.length_map];exact small63 (by omega)) (fun D i ys H'=>ys=[]/\H'=upd H D (.lst [])) (fun D hD=>⟨rfl,rfl⟩) (fun D i ys H' ⟨f1,f2⟩=>by rw [f2,f1];exact ⟨upd_same,Nat.zero_le _⟩) (fun D i ys H' hD ⟨_,f2⟩=>by rw [f2];exact SqT.of (same_new hD _ _ _ ht)) ?_ ?_
 ·rintro D i x ys H' K1 K2 hD hx ⟨rfl,rfl⟩ k1 k2
  obtain ⟨z,hz,rfl⟩:=int_at hx
  refine ⟨_,rfl,z,rfl,_,rfl,?_⟩
  exact k2 _ ⟨rfl,rfl⟩
 rintro D ys H1 hD ⟨rfl,rfl⟩
 have s1:=same_new hD (.lst [])
 have eD:(upd H D (.lst [])) D=some (.lst []):=upd_same
 generalize upd H D (.lst [])=H1 at s1 eD ⊢
 have hp1:=s1 _ _ hp
 have ht1:=s1 _ _ ht
 and_intros
 refine ⟨.tuple [.tuple (ts.map .int),.int c],.tuple [.tuple (ts.map .int),.int c],.tup (SqT.of hp1) (.cons (.tup (SqT.of ht1) (.ints ts)) (.cons (.int c) .nil)),.tup (SqT.of (s1 _ _ hb)) (.cons (.tup (SqT.of (s1 _ _ hu)) (.ints ts)) (.cons (.int c) .nil)),shape_line ts c,shape_line ts c,?_⟩
 rw [eqv_line]
 exact q _ s1
theorem ok_law_codes_of (T:Tx K mg ad):FnOk P w K mg base CX0 2 ad.f_law_codes_of ad.d_law_codes_of ["_law_lines_here","_law_hands"] spCodesOf:=by
 refine T.F_law_codes_of.ok sc_law_codes_of (fun vs H Q E h=>?_) (fun cdv A outer s H vs Q E hr h=>?_)
 ·obtain ⟨l,ls,n,p,rfl,_⟩:=h
  rfl
 obtain ⟨l,ls,n,p,rfl,hl,g,ok,n12,l9,q⟩:=h
 refine ⟨_,(@pss_cons _ _ _ _ _ (@ps_set _ _ (2) _ _ _ _ sc_law_codes_of.nd rfl (Or.inl rfl) (@pe_lst _ _ _ _ pa_nil) (by rfl) (by first | exact .inl rfl | exact .inr rfl | assumption)) (@pss_cons _ _ _ _ _ (ps_for PassesOwn.never rfl (pi_list (pv 0)) (pg_tup rfl (pgs_cons (pg_name (i:=3) sc_law_codes_of.nd rfl (Or.inl rfl)) (pgs_cons (pg_name (i:=4) sc_law_codes_of.nd rfl (Or.inl rfl)) pgs_nil))) (@pss_cons _ _ _ _ _ (@ps_set _ _ (5) _ _ _ _ sc_law_codes_of.nd rfl (Or.inl rfl) (@pe_op _ _ _ _ _ _ _ _ op_rep (@pe_lst _ _ _ _ (@pa_cons _ _ _ _ _ pe_int pa_nil (by rfl))) (pv 1)) (by rfl) (by first | exact .inl rfl | exact .inr rfl | assumption)) (@pss_cons _ _ _ _ _ (ps_for PassesOwn.never rfl (pi_range1 rfl T.z_range (@pa_cons _ _ _ _ _ (@pe_callB _ _ _ _ _ _ _ _ _ call_len_seq (by rfl) T.z_len PySem.boot_len (@pa_cons _ _ _ _ _ (pv 3) pa_nil (by rfl)) (by decide) (by decide) (by rfl) (by rfl)) pa_nil (by rfl))) (pg_name (i:=6) sc_law_codes_of.nd rfl (Or.inl rfl)) (@pss_one _ _ _ (ps_for PassesOwn.never rfl (pi_range1 rfl T.z_range (@pa_cons _ _ _ _ _ (pv 1) pa_nil (by rfl))) (pg_name (i:=7) sc_law_codes_of.nd rfl (Or.inl rfl)) (@pss_one _ _ _ (@ps_if _ _ _ _ _ _ _ _ (@pt_cmpR _ _ _ _ _ _ _ _ op_eq (@pe_op _ _ _ _ _ _ _ _ op_modN (@pe_op _ _ _ _ _ _ _ _ op_fdivB (@pe_ix _ _ _ _ _ _ _ ix_tup (pv 3) (pv 6) (fun _ _=>rfl)) (@pe_op _ _ _ _ _ _ _ _ op_shl pe_int (pv 7))) pe_int) pe_int (nomark _)) (@pss_one _ _ _ (ps_asg (@pe_op _ _ _ _ _ _ _ _ op_add (pv 6) pe_int) (pg_sub (pv 5) (pv 7) set_list))) pss_nil))))) (@pss_one _ _ _ (@ps_expr _ _ _ _ (pe_bm PySem.F.plainAttrs_list PySem.F.slot_list_append PySem.F.type_list_append mt_append (pv 2) (@pa_cons _ _ _ _ _ (@pe_call _ _ _ _ _ _ _ _ _ _ _ _ _ _ _ _ (ok_law_code T) (hr.mono (by decide)) rfl T.m_law_code T.F_law_code.kp T.b_law_code .nil pass0 (@pa_cons _ _ _ _ _ (pv 5) (@pa_cons _ _ _ _ _ (pv 4) pa_nil (by rfl)) (by rfl)) (by decide) (by rfl) (by rfl)) pa_nil (by rfl))) (by rfl)))))) (@pss_one _ _ _ (@ps_ret _ _ _ _ (pv 2))))),?_⟩
 refine ⟨(by show 0<=sizeLine;decide),fun c hc=>?_⟩
 have s0:=same_new hc (.lst [])
 have e0:(upd H c (.lst [])) c=some (.lst []):=upd_same
 generalize upd H c (.lst [])=H0 at s0 e0 ⊢
 and_intros
 refine ⟨⟨_,SqL.of (s0 _ _ hl)⟩,for_list (xs:=vls ls) (fun i σ' H'=>∃(v3 v4 v5 v6 v7:Option V),σ'=[some (.ref l),some (.int (n:Int)),some (.ref c),v3,v4,v5,v6,v7]/\Same H H'/\H' c=some (.lst ((codesN n (dsOf (ls.take i))).map V.int))) ⟨none,none,none,none,none,rfl,s0,e0⟩ (fun i σ' H' _ ⟨_,_,_,_,_,_,e,_⟩=>SqL.of (e _ _ hl)) ?_ ?_⟩
 ·rintro i x σ' H' hx ⟨v3,v4,v5,v6,v7,rfl,s1,e1⟩
  obtain ⟨f,hf,rfl,fm,et⟩:=vls_get hx
  obtain ⟨g1,g2⟩:=g f fm
  obtain ⟨_,f1',f9,okf⟩:=ok (f.2.2.1,f.2.2.2) (List.mem_map.mpr ⟨f,fm,rfl⟩)
  have tl:f.2.2.1.length<=n:=okf.len
  obtain ⟨rs,m,er,_,ln,_,r12,tin⟩:=okf.ranks
  refine ⟨f.1,_,rfl,SqT.of (s1 _ _ g1),rfl,_,_,rfl,_,_,rfl,rfl,?_⟩
  refine ⟨(by show 1<=sizeLine;decide),fun z hz=>?_⟩
  have s2:=same_new hz (.lst [V.int 0])
  have e2:(upd H' z (.lst [V.int 0])) z=some (.lst [V.int 0]):=upd_same
  generalize upd H' z (.lst [V.int 0])=H2 at s2 e2 ⊢
  refine ⟨_,rfl,z,(n:Int),_,rfl,rfl,e2,by omega,by omega,small63 (by show 1*Int.toNat (n:Int)<=1000;omega),fun rl hrl=>?_⟩
  rw [Int.toNat_natCast,flat_rep]
  have s3:=same_new hrl (.lst ((List.replicate n (0:Int)).map V.int))
  have e3:(upd H2 rl (.lst ((List.replicate n (0:Int)).map V.int))) rl=some (.lst (((List.range n).map fun h=>rk f.2.2.1 h 0).map V.int)):=by
   rw [upd_same]
   congr 3
   apply List.ext_getElem
   ·simp
   ·intro i h1 h2
    simp [rk]
  generalize upd H2 rl (.lst ((List.replicate n (0:Int)).map V.int))=H3 at s3 e3 ⊢
  have s13:=s1.trans (s2.trans s3)
  have rlH:H' rl=none:=none_of s2 hrl
  have crl:c≠rl:=fun z=>by rw [<- z,e1] at rlH;cases rlH
  have c3:=(s2.trans s3) _ _ e1
  have t3:=s13 _ _ g2
  and_intros
  have lt:(f.2.2.1.map V.int).length=f.2.2.1.length:=List.length_map _
  have sv3:=s2.trans s3
  refine ⟨by omega,by omega,for_range (fun a σ' J=>∃v6 v7:Option V,σ'=[some (.ref l),some (.int (n:Int)),some (.ref c),some (.ref f.2.1),some (.int f.2.2.2),some (.ref rl),v6,v7]/\Same H' J/\J rl=some (.lst (((List.range n).map fun h=>rk f.2.2.1 h a).map V.int))) ⟨v6,v7,rfl,sv3,e3⟩ ?_ ?_⟩
  ·rintro a σ' J ha ⟨v6,v7,rfl,sJ,eJ⟩
   rw [lt,Int.toNat_natCast] at ha
   obtain ⟨z,hz'⟩:∃z:Int,f.2.2.1[a]?=some z:=⟨_,List.getElem?_eq_getElem ha⟩
   and_intros
   refine ⟨by omega,by omega,for_range (fun j σ' J=>∃v7:Option V,σ'=[some (.ref l),some (.int (n:Int)),some (.ref c),some (.ref f.2.1),some (.int f.2.2.2),some (.ref rl),some (.int (0+(a:Int))),v7]/\Same H' J/\J rl=some (.lst (((List.range n).map fun h=>if h < j then rk f.2.2.1 h (a+1) else rk f.2.2.1 h a).map V.int))) ⟨v7,rfl,sJ,by rw [eJ];simp⟩ ?_ ?_⟩
   ·rintro j σ' J2 hj ⟨v7,rfl,sJ2,eJ2⟩
    rw [Int.toNat_natCast] at hj
    obtain ⟨p1,p2⟩:=pow_div (i:=j) (by omega)
    have ej:(0+(j:Int)).toNat=j:=by omega
    have step:∀h:Nat,(if h=j then rk f.2.2.1 j (a+1) else if h < j then rk f.2.2.1 h (a+1) else rk f.2.2.1 h a)=if h < j+1 then rk f.2.2.1 h (a+1) else rk f.2.2.1 h a:=fun h=>by
     by_cases c1:h=j
     ·rw [if_pos c1,if_pos (by omega),c1]
     ·rw [if_neg c1]
      by_cases c2:h < j
      ·rw [if_pos c2,if_pos (by omega)]
      ·rw [if_neg c2,if_neg (by omega)]
    have rkj:rk f.2.2.1 j (a+1)=if bit z j=true then (a:Int)+1 else rk f.2.2.1 j a:=by
     show (if bit (f.2.2.1.getD a 0) j=true then _ else _)=_
     rw [List.getD_eq_getElem?_getD,hz',Option.getD_some]
    and_intros
    refine ⟨f.2.1,_,_,_,rfl,rfl,SqT.of (sJ2 _ _ (s1 _ _ g2)),(by rw [Int.zero_add];exact atN hz'),?_⟩
    and_intros
    refine ⟨(by rw [Int.zero_add];exact pow_small (by omega)),?_⟩
    refine ⟨_,_,rfl,rfl,(by rw [ej];exact ⟨p1,p2⟩),?_⟩
    and_intros
    have ob:=own_bit z j
    cases eo:bit z j with
    | false =>
      refine ifF ?_ ⟨_,rfl,sJ2,?_⟩
      ·dsimp only
       rw [ej,ob,eo]
      ·rw [eJ2]
       congr 3
       apply List.map_congr_left
       intro h _
       rw [<- step h]
       by_cases c1:h=j
       ·rw [if_pos c1,if_neg (show ¬ h < j by omega),c1,rkj,eo]
        exact (if_neg (by decide)).symm
       ·rw [if_neg c1]
    | true =>
      refine ifT ?_ ?_
      ·dsimp only
       rw [ej,ob,eo]
      and_intros
      refine ⟨rl,_,_,j,rfl,rfl,eJ2,(by rw [Int.zero_add];exact ixN_nat (by rw [List.length_map,List.length_map,List.length_range];exact hj)),?_⟩
      refine ⟨_,rfl,same_upd sJ2 rlH,?_⟩
      rw [upd_same,<- List.map_set,set_range _ _ hj]
      congr 3
      apply List.map_congr_left
      intro h _
      rw [<- step h]
      by_cases c1:h=j
      ·rw [if_pos c1,if_pos c1,rkj,eo,if_pos rfl]
       omega
      ·rw [if_neg c1,if_neg c1]
   ·rintro σ' J2 ⟨v7,rfl,sJ2,eJ2⟩
    refine ⟨_,_,rfl,sJ2,?_⟩
    rw [eJ2]
    congr 3
    apply List.map_congr_left
    intro h hm
    have:=List.mem_range.mp hm
    rw [if_pos (by omega)]
  ·rintro σ' J ⟨v6,v7,rfl,sJ,eJ⟩
   rw [lt,Int.toNat_natCast] at eJ
   have eJ':J rl=some (.lst ((ranksOf f.2.2.1 n).map V.int)):=eJ
   have cJ:=sJ _ _ e1
   and_intros
   refine ⟨.inl ⟨rfl,_,SqL.of cJ⟩,?_⟩
   refine ⟨_,rfl,_,rfl,rl,_,f.2.2.2,rfl,eJ',(by rw [er,ln];exact n12),(by rw [er];exact r12),by omega,by omega,?_⟩
   refine ⟨c,_,_,rfl,rfl,cJ,(by rw [List.length_map,codes_len];unfold dsOf;rw [List.length_map];rw [List.length_take];exact small1000 (by omega)),?_⟩
   refine ⟨_,_,_,_,_,rfl,same_upd (s1.trans sJ) hc,?_⟩
   rw [upd_same,et,dsOf_append]
   unfold codesN
   rw [List.map_append,List.map_append]
   rfl
 ·rintro σ' H' ⟨v3,v4,v5,v6,v7,rfl,s1,e1⟩
  rw [vls_len,List.take_length] at e1
  exact ⟨_,rfl,q c H' hc s1 e1⟩
theorem ok_law_seal_is (T:Tx K mg ad):FnOk P w K mg base CX0 2 ad.f_law_seal_is ad.d_law_seal_is ["_law_found","_law_due"] spSealIs:=by
 refine T.F_law_seal_is.ok sc_law_seal_is (fun vs H Q E h=>?_) (fun cdv A outer s H vs Q E hr h=>?_)
 ·obtain ⟨a,b,ns,rfl,_⟩:=h
  rfl
 obtain ⟨a,b,ns,rfl,ha,hb,l60,q⟩:=h
 refine ⟨_,(@pss_cons _ _ _ _ _ (@ps_if _ _ _ _ _ _ _ _ (PW.pt (@pw_or _ _ _ _ _ _ _ (@pt_not _ _ _ _ (@pt_val _ _ _ (@pe_callB _ _ _ _ _ _ _ _ _ call_isi (by rfl) T.z_isinstance PyProof.Rows.boot_isinstance (@pa_cons _ _ _ _ _ (pv 0) (@pa_cons _ _ _ _ _ (pe_bltn (v:=.ty "tuple") rfl T.z_tuple PyProof.Rows.boot_tuple rfl) pa_nil (by rfl)) (by rfl)) (by decide) (by decide) (by rfl) (by rfl)) (by intro _;rfl))) (@pw_or1 _ _ _ _ (@pt_cmpR _ _ _ _ _ _ _ _ op_gt (@pe_callB _ _ _ _ _ _ _ _ _ call_len_seq (by rfl) T.z_len PySem.boot_len (@pa_cons _ _ _ _ _ (pe_comp (fsc:=defScope s_law_seal_is) (N:=["_law_found","_law_due"]) (Nc:=["_law_found","_law_due","_law_one"]) rfl rfl ⟨rfl,by decide +kernel,by decide +kernel,rfl,by decide +kernel,rfl,by decide +kernel,rfl,by decide +kernel⟩ rfl (pi_tup (pv 0)) (fun _ _ _ _=>(pif_one (@pt_not _ _ _ _ (@pt_val _ _ _ (@pe_call _ _ _ _ _ _ _ _ _ _ _ _ _ _ _ _ (ok_law_whole T) (hr.mono (by decide)) rfl T.m_law_whole T.F_law_whole.kp T.b_law_whole .nil pass0 (@pa_cons _ _ _ _ _ (pv 2) pa_nil (by rfl)) (by decide) (by rfl) (by rfl)) (by intro _;rfl))))) (fun _ _ _ _=>(pv 2))) pa_nil (by rfl)) (by decide) (by decide) (by rfl) (by rfl)) pe_int (nomark _))))) (@pss_one _ _ _ (@ps_ret _ _ _ _ pe_bl)) pss_nil) (@pss_one _ _ _ (@ps_ret _ _ _ _ (@pe_cmpR _ _ _ _ _ _ _ _ (op_eqD (K:=K) hr.units) (pv 0) (pv 1) (nomark _))))),?_⟩
 refine ⟨_,rfl,_,_,_,_,rfl,TyOf.tup ha,kit_tuple_tuple,?_⟩
 and_intros
 refine ⟨⟨_,SqT.of ha⟩,?_⟩
 refine comp_tup (xs:=ns.map V.int) (by rw [List.length_map];exact small63 (by omega)) (fun D i ys H'=>ys=[]/\H'=upd H D (.lst [])) (fun D hD=>⟨rfl,rfl⟩) (fun D i ys H' ⟨f1,f2⟩=>by rw [f2,f1];exact ⟨upd_same,Nat.zero_le _⟩) (fun D i ys H' hD ⟨_,f2⟩=>by rw [f2];exact SqT.of (same_new hD _ _ _ ha)) ?_ ?_
 ·rintro D i x ys H' K1 K2 hD hx ⟨rfl,rfl⟩ k1 k2
  obtain ⟨z,hz,rfl⟩:=int_at hx
  refine ⟨_,rfl,z,rfl,_,rfl,?_⟩
  exact k2 _ ⟨rfl,rfl⟩
 rintro D ys H1 hD ⟨rfl,rfl⟩
 have s1:=same_new hD (.lst [])
 have eD:(upd H D (.lst [])) D=some (.lst []):=upd_same
 generalize upd H D (.lst [])=H1 at s1 eD ⊢
 refine ⟨D,_,rfl,.inl (SqL.of eD),?_⟩
 and_intros
 refine ⟨.tuple (ns.map .int),.tuple (ns.map .int),.tup (SqT.of (s1 _ _ ha)) (.ints _),.tup (SqT.of (s1 _ _ hb)) (.ints _),(shape_ints _).1,(shape_ints _).1,?_⟩
 rw [show PyData.eqv (.tuple (ns.map .int)) (.tuple (ns.map .int))=true from by show PyData.eqvAll _ _=true;rw [eqv_ints];exact decide_eq_true rfl]
 exact q _ s1
theorem ok_law_no_line (T:Tx K mg ad):FnOk P w K mg base CX0 2 ad.f_law_no_line ad.d_law_no_line ["_law_hands","_law_number"] spNoLine:=by
 refine T.F_law_no_line.ok sc_law_no_line (fun vs H Q E h=>?_) (fun cdv A outer s H vs Q E hr h=>?_)
 ·obtain ⟨n,z,rfl,_⟩:=h
  rfl
 obtain ⟨n,z,rfl,n1,n12,sz,q⟩:=h
 refine ⟨_,(@pss_cons _ _ _ _ _ (@ps_set _ _ (2) _ _ _ _ sc_law_no_line.nd rfl (Or.inl rfl) (@pe_op _ _ _ _ _ _ _ _ op_rep (@pe_lst _ _ _ _ (@pa_cons _ _ _ _ _ pe_int pa_nil (by rfl))) (pv 0)) (by rfl) (by first | exact .inl rfl | exact .inr rfl | assumption)) (@pss_cons _ _ _ _ _ (ps_asg (@pe_op _ _ _ _ _ _ _ _ op_add pe_int (@pe_op _ _ _ _ _ _ _ _ op_modN (@pe_op _ _ _ _ _ _ _ _ op_fdivB (pv 1) pe_int) pe_int)) (pg_sub (pv 2) (@pe_op _ _ _ _ _ _ _ _ op_modN (@pe_op _ _ _ _ _ _ _ _ op_fdivB (pv 1) pe_int) (pv 0)) set_list)) (@pss_cons _ _ _ _ _ (@ps_if _ _ _ _ _ _ _ _ (@pt_cmpR _ _ _ _ _ _ _ _ op_eq (@pe_op _ _ _ _ _ _ _ _ op_modN (pv 1) pe_int) pe_int (nomark _)) (@pss_one _ _ _ (@ps_ret _ _ _ _ (@pe_call _ _ _ _ _ _ _ _ _ _ _ _ _ _ _ _ (ok_law_code T) (hr.mono (by decide)) rfl T.m_law_code T.F_law_code.kp T.b_law_code .nil pass0 (@pa_cons _ _ _ _ _ (pv 2) (@pa_cons _ _ _ _ _ (@pe_op _ _ _ _ _ _ _ _ op_add pe_int (@pe_op _ _ _ _ _ _ _ _ op_modN (@pe_op _ _ _ _ _ _ _ _ op_fdivB (pv 1) pe_int) (@pe_op _ _ _ _ _ _ _ _ op_pow pe_int pe_int))) pa_nil (by rfl)) (by rfl)) (by decide) (by rfl) (by rfl)))) pss_nil) (@pss_cons _ _ _ _ _ (@ps_if _ _ _ _ _ _ _ _ (@pt_cmpR _ _ _ _ _ _ _ _ op_eq (@pe_op _ _ _ _ _ _ _ _ op_modN (pv 1) pe_int) pe_int (nomark _)) (@pss_one _ _ _ (@ps_ret _ _ _ _ (@pe_op _ _ _ _ _ _ _ _ op_sub (@pe_un _ _ _ _ _ _ un_neg pe_int) (@pe_op _ _ _ _ _ _ _ _ op_modN (@pe_op _ _ _ _ _ _ _ _ op_fdivB (pv 1) pe_int) (@pe_op _ _ _ _ _ _ _ _ op_pow pe_int pe_int))))) pss_nil) (@pss_cons _ _ _ _ _ (@ps_if _ _ _ _ _ _ _ _ (@pt_cmpR _ _ _ _ _ _ _ _ op_eq (@pe_op _ _ _ _ _ _ _ _ op_modN (pv 1) pe_int) pe_int (nomark _)) (@pss_one _ _ _ (@ps_ret _ _ _ _ (@pe_call _ _ _ _ _ _ _ _ _ _ _ _ _ _ _ _ (ok_law_code T) (hr.mono (by decide)) rfl T.m_law_code T.F_law_code.kp T.b_law_code .nil pass0 (@pa_cons _ _ _ _ _ (@pe_op _ _ _ _ _ _ _ _ op_rep (@pe_lst _ _ _ _ (@pa_cons _ _ _ _ _ pe_int pa_nil (by rfl))) (pv 0)) (@pa_cons _ _ _ _ _ pe_int pa_nil (by rfl)) (by rfl)) (by decide) (by rfl) (by rfl)))) pss_nil) (@pss_one _ _ _ (@ps_ret _ _ _ _ (@pe_call _ _ _ _ _ _ _ _ _ _ _ _ _ _ _ _ (ok_law_code T) (hr.mono (by decide)) rfl T.m_law_code T.F_law_code.kp T.b_law_code .nil pass0 (@pa_cons _ _ _ _ _ (@pe_op _ _ _ _ _ _ _ _ op_rep (@pe_lst _ _ _ _ (@pa_cons _ _ _ _ _ pe_int pa_nil (by rfl))) (pv 0)) (@pa_cons _ _ _ _ _ (@pe_op _ _ _ _ _ _ _ _ op_add (@pe_op _ _ _ _ _ _ _ _ op_add (@pe_op _ _ _ _ _ _ _ _ op_pow pe_int pe_int) pe_int) (@pe_op _ _ _ _ _ _ _ _ op_modN (@pe_op _ _ _ _ _ _ _ _ op_fdivB (pv 1) pe_int) pe_int)) pa_nil (by rfl)) (by rfl)) (by decide) (by rfl) (by rfl))))))))),?_⟩
 refine ⟨(by show 1<=sizeLine;decide),fun a1 ha1=>?_⟩
 have s1:=same_new ha1 (.lst [V.int 0])
 have e1:(upd H a1 (.lst [V.int 0])) a1=some (.lst [V.int 0]):=upd_same
 generalize upd H a1 (.lst [V.int 0])=A1 at s1 e1 ⊢
 refine ⟨_,rfl,a1,(n:Int),_,rfl,rfl,e1,by omega,by omega,small63 (by show 1*Int.toNat (n:Int)<=1000;omega),fun b1 hb1=>?_⟩
 rw [Int.toNat_natCast,flat_z]
 have t1:=same_new hb1 (.lst ((List.replicate n (0:Int)).map V.int))
 have f1:(upd A1 b1 (.lst ((List.replicate n (0:Int)).map V.int))) b1=some (.lst ((List.replicate n (0:Int)).map V.int)):=upd_same
 generalize upd A1 b1 (.lst ((List.replicate n (0:Int)).map V.int))=B1 at t1 f1 ⊢
 have s0:=s1.trans t1
 have m11:=fmod_in (z.fdiv 64) (show (0:Int) < 11 by decide)
 have mn:=fmod_in (z.fdiv 4) (show (0:Int) < (n:Int) by omega)
 obtain ⟨j,hj⟩:∃j:Nat,(z.fdiv 4).fmod (n:Int)=(j:Int):=⟨((z.fdiv 4).fmod (n:Int)).toNat,by omega⟩
 and_intros
 refine ⟨by show (n:Int)≠0;omega,?_⟩
 dsimp only
 rw [hj]
 refine ⟨b1,_,_,j,rfl,rfl,f1,ixN_nat (by rw [List.length_map,List.length_replicate];omega),?_⟩
 have su:Same H (upd B1 b1 (.lst (((List.replicate n (0:Int)).map V.int).set j (.int (2+(z.fdiv 64).fmod 11))))):=same_upd s0 (none_of s1 hb1)
 have eu:(upd B1 b1 (.lst (((List.replicate n (0:Int)).map V.int).set j (.int (2+(z.fdiv 64).fmod 11))))) b1=some (.lst (((List.replicate n (0:Int)).set j (2+(z.fdiv 64).fmod 11)).map V.int)):=by rw [upd_same,List.map_set]
 generalize upd B1 b1 (.lst (((List.replicate n (0:Int)).map V.int).set j (.int (2+(z.fdiv 64).fmod 11))))=U at su eu ⊢
 have r2:2<=2+(z.fdiv 64).fmod 11/\2+(z.fdiv 64).fmod 11<=12:=by omega
 generalize 2+(z.fdiv 64).fmod 11=r at r2 eu ⊢
 have jn:j < n:=by omega
 have rin:∀x∈(List.replicate n (0:Int)).set j r,0<=x/\x<=12:=fun x m=>by
  rcases List.mem_or_eq_of_mem_set m with m | rfl
  ·rw [List.eq_of_mem_replicate m]
   exact ⟨Int.le_refl _,by decide⟩
  ·omega
 have rln:((List.replicate n (0:Int)).set j r).length=n:=by rw [List.length_set,List.length_replicate]
 have t9:(10:Int) ^ (9:Int).toNat=1000000000:=by decide +kernel
 have m9:=fmod_in (z.fdiv 4096) (show (0:Int) < 10 ^ (9:Int).toNat by decide +kernel)
 have m4:=fmod_in (z.fdiv 4) (show (0:Int) < 10 ^ (9:Int).toNat by decide +kernel)
 have m99:=fmod_in (z.fdiv 4) (show (0:Int) < 99 by decide)
 and_intros
 refine ite2 (fun _=>?_) (fun _=>?_)
 ·and_intros
  refine ⟨b1,_,_,rfl,eu,(by rw [rln];exact n12),rin,(by show 0<=1+(z.fdiv 4096).fmod _;omega),(by show 1+(z.fdiv 4096).fmod _<=2000000000;omega),?_⟩
  have k:=code_lt (c:=1+(z.fdiv 4096).fmod (10 ^ (9:Int).toNat)) (by omega) (by omega) rin (by omega)
  exact q _ _ su ⟨_,_,rfl,rln,rin,.inr (bad_rank jn r2.1)⟩ (sz40 k.1 k.2)
 and_intros
 refine ite2 (fun _=>?_) (fun _=>?_)
 ·and_intros
  obtain ⟨q',rs,ln,hr',e,neg⟩:=cut13 n (-1 - (z.fdiv 4).fmod (10 ^ (9:Int).toNat))
  exact q _ _ su ⟨q',rs,e,ln,hr',.inl (fun h=>by have:=neg (by omega);omega)⟩ (sz_of (by omega) (by omega))
 and_intros
 refine ite2 (fun _=>?_) (fun _=>?_)
 ·and_intros
  refine ⟨(by show 1<=sizeLine;decide),fun a2 ha2=>?_⟩
  have s2:=same_new ha2 (.lst [V.int 0])
  have e2:(upd U a2 (.lst [V.int 0])) a2=some (.lst [V.int 0]):=upd_same
  generalize upd U a2 (.lst [V.int 0])=A2 at s2 e2 ⊢
  refine ⟨_,rfl,a2,(n:Int),_,rfl,rfl,e2,by omega,by omega,small63 (by show 1*Int.toNat (n:Int)<=1000;omega),fun b2 hb2=>?_⟩
  rw [Int.toNat_natCast,flat_z]
  have t2:=same_new hb2 (.lst ((List.replicate n (0:Int)).map V.int))
  have f2:(upd A2 b2 (.lst ((List.replicate n (0:Int)).map V.int))) b2=some (.lst ((List.replicate n (0:Int)).map V.int)):=upd_same
  generalize upd A2 b2 (.lst ((List.replicate n (0:Int)).map V.int))=B2 at t2 f2 ⊢
  refine ⟨b2,_,0,rfl,f2,(by rw [List.length_replicate];exact n12),rep_in ⟨by decide,by decide⟩,by decide,by decide,?_⟩
  have k:=code_lt (c:=0) (rs:=List.replicate n (0:Int)) (by decide) (by decide) (rep_in ⟨by decide,by decide⟩) (by rw [List.length_replicate];exact n12)
  exact q _ _ ((su.trans s2).trans t2) ⟨_,_,rfl,List.length_replicate,rep_in ⟨by decide,by decide⟩,.inl (fun h=>by omega)⟩ (sz40 k.1 k.2)
 refine ⟨(by show 1<=sizeLine;decide),fun a3 ha3=>?_⟩
 have s3:=same_new ha3 (.lst [V.int 1])
 have e3:(upd U a3 (.lst [V.int 1])) a3=some (.lst [V.int 1]):=upd_same
 generalize upd U a3 (.lst [V.int 1])=A3 at s3 e3 ⊢
 refine ⟨_,rfl,a3,(n:Int),_,rfl,rfl,e3,by omega,by omega,small63 (by show 1*Int.toNat (n:Int)<=1000;omega),fun b3 hb3=>?_⟩
 rw [Int.toNat_natCast,flat_z]
 have t3:=same_new hb3 (.lst ((List.replicate n (1:Int)).map V.int))
 have f3:(upd A3 b3 (.lst ((List.replicate n (1:Int)).map V.int))) b3=some (.lst ((List.replicate n (1:Int)).map V.int)):=upd_same
 generalize upd A3 b3 (.lst ((List.replicate n (1:Int)).map V.int))=B3 at t3 f3 ⊢
 and_intros
 refine ⟨b3,_,_,rfl,f3,(by rw [List.length_replicate];exact n12),rep_in ⟨by decide,by decide⟩,(by show 0<=10 ^ (9:Int).toNat+1+(z.fdiv 4).fmod 99;omega),(by show 10 ^ (9:Int).toNat+1+(z.fdiv 4).fmod 99<=2000000000;omega),?_⟩
 have k:=code_lt (c:=10 ^ (9:Int).toNat+1+(z.fdiv 4).fmod 99) (rs:=List.replicate n (1:Int)) (by omega) (by omega) (rep_in ⟨by decide,by decide⟩) (by rw [List.length_replicate];exact n12)
 exact q _ _ ((su.trans s3).trans t3) ⟨_,_,rfl,List.length_replicate,rep_in ⟨by decide,by decide⟩,.inl (fun h=>by omega)⟩ (sz40 k.1 k.2)
theorem ok_Box_lines_at (T:Tx K mg ad):FnOk P w K mg base (CX1 P w) 2 ad.f_Box_lines_at ad.d_Box_lines_at ["self","k"] (spLinesX K ad.c_Box ad.c_NoBundle):=by
 refine T.F_Box_lines_at.okX sc_Box_lines_at (fun vs H Q E h=>?_) (fun cdv A outer s H vs Q E hr h=>?_)
 ·obtain ⟨b,L,n,bs,x,rfl,_⟩:=h
  rfl
 obtain ⟨b,L,n,bs,x,rfl,ib,q⟩:=h
 refine ⟨_,(@pss_cons _ _ _ _ _ (@ps_if _ _ _ _ _ _ _ _ (PW.pt (@pw_or _ _ _ _ _ _ _ (@pt_not _ _ _ _ (@pt_val _ _ _ (@pe_call _ _ _ _ _ _ _ _ _ _ _ _ _ _ _ _ (ok_is_wholeX T) (hr.mono (by decide)) rfl T.m_is_whole T.F_is_whole.kp T.b_is_whole .nil pass0 (@pa_cons _ _ _ _ _ (pv 1) pa_nil (by rfl)) (by decide) (by rfl) (by rfl)) (by intro _;rfl))) (@pw_or _ _ _ _ _ _ _ (@pt_cmpR _ _ _ _ _ _ _ _ op_lt (pv 1) pe_int (nomark _)) (@pw_or1 _ _ _ _ (@pt_cmpR _ _ _ _ _ _ _ _ op_ge (pv 1) (pe_meth0 (pv 0) T.cl_Box T.me_Box_many (ok_Box_many T) (hr.mono (by decide)) T.b_Box_many .nil pass0) (nomark _)))))) (@pss_one _ _ _ (ps_raise ⟨rfl,rfl,rfl⟩ rfl rfl T.m_NoBundle T.x_NoBundle (@pa_cons _ _ _ _ _ pe_str pa_nil (by rfl)))) pss_nil) (@pss_one _ _ _ (@ps_ret _ _ _ _ (@pe_callTy _ _ _ _ _ _ _ _ _ call_list_of (by rfl) T.z_list PyProof.Rows.boot_list (@pa_cons _ _ _ _ _ (@pe_ix _ _ _ _ _ _ _ ix_list (pe_fld (pv 0) rfl) (pv 1) (fun _ _=>rfl)) pa_nil (by rfl)) (by decide) (by decide) (by rfl) (by rfl))))),?_⟩
 have ib':=ib
 obtain ⟨⟨dx,hb⟩,hL,hx,hn⟩:=ib'
 have say:1<=sizeLine:=by decide
 have int:∀z:Int,x=.int z->Wh K H x true:=fun z e=>by rw [e];exact Wh.int z
 rcases q with ⟨k,y,rfl,ex,q⟩ | ⟨w0 | ⟨z,rfl,bad⟩,q⟩
 ·have kl:k < bs.length:=(List.getElem?_eq_some_iff.mp ex).1
  refine ⟨_,rfl,_,true,rfl,Wh.int _,?_⟩
  and_intros
  refine ⟨b,dx,_,rfl,hb,rfl,?_⟩
  refine ⟨b,L,n,bs,rfl,ib,?_⟩
  and_intros
  refine ifF (decide_eq_false (by omega)) ?_
  and_intros
  refine ⟨b,_,dx,_,_,rfl,hb,T.cl_Box,T.na_Box_bundles,rfl,?_⟩
  and_intros
  refine ⟨L,_,_,_,rfl,rfl,SqL.of hL,(atI_nat (by rw [List.getElem?_map,ex];rfl)),?_⟩
  refine ⟨y.1,_,rfl,.inl (SqL.of (hx y (List.mem_of_getElem? ex)).1),fun l hl=>?_⟩
  exact q l _ hl (same_new hl _) upd_same
 ·refine ⟨_,rfl,_,false,rfl,w0,?_⟩
  and_intros
  exact ⟨say,q⟩
 ·refine ⟨_,rfl,_,true,rfl,Wh.int _,?_⟩
  and_intros
  by_cases z0:z < 0
  ·refine ifT (decide_eq_true z0) ?_
   and_intros
   exact ⟨say,q⟩
  refine ifF (decide_eq_false z0) ?_
  and_intros
  refine ⟨b,dx,_,rfl,hb,rfl,?_⟩
  refine ⟨b,L,n,bs,rfl,ib,?_⟩
  and_intros
  refine ifT (decide_eq_true (by omega)) ?_
  and_intros
  exact ⟨say,q⟩
theorem ok_are_ranks (T:Tx K mg ad):FnOk P w K mg base CX0 3 ad.f_are_ranks ad.d_are_ranks ["thing","hands"] (spAre K):=by
 refine T.F_are_ranks.ok sc_are_ranks (fun vs H Q E h=>?_) (fun cdv A outer s H vs Q E hr h=>?_)
 ·obtain ⟨p,rs,rfl,_⟩:=h
  rfl
 obtain ⟨p,rs,rfl,hS,h12,hR,q⟩:=h
 refine ⟨_,(@pss_cons _ _ _ _ _ (@ps_if _ _ _ _ _ _ _ _ (@pt_not _ _ _ _ (@pt_val _ _ _ (@pe_callB _ _ _ _ _ _ _ _ _ call_isi (by rfl) T.z_isinstance PyProof.Rows.boot_isinstance (@pa_cons _ _ _ _ _ (pv 0) (@pa_cons _ _ _ _ _ (pe_bltn (v:=.ty "list") rfl T.z_list PyProof.Rows.boot_list rfl) pa_nil (by rfl)) (by rfl)) (by decide) (by decide) (by rfl) (by rfl)) (by intro _;rfl))) (@pss_one _ _ _ (@ps_ret _ _ _ _ pe_bl)) pss_nil) (@pss_one _ _ _ (@ps_ret _ _ _ _ (@pe_and _ _ _ _ _ _ _ (@pe_cmpR _ _ _ _ _ _ _ _ op_eq (@pe_callB _ _ _ _ _ _ _ _ _ call_len_seq (by rfl) T.z_len PySem.boot_len (@pa_cons _ _ _ _ _ (pv 0) pa_nil (by rfl)) (by decide) (by decide) (by rfl) (by rfl)) (pv 1) (nomark _)) (@pe_one _ _ _ _ _ (@pe_callB _ _ _ _ _ _ _ _ _ (call_all rfl) (by rfl) T.z_all PyProof.Rows.boot_all (@pa_cons _ _ _ _ _ (pe_comp (fsc:=defScope s_are_ranks) (N:=["thing","hands"]) (Nc:=["thing","hands","rank"]) rfl rfl ⟨rfl,by decide +kernel,by decide +kernel,rfl,by decide +kernel,rfl,by decide +kernel,rfl,by decide +kernel⟩ rfl (pi_list (pv 0)) (fun _ _ _ _=>pif_nil) (fun _ _ _ _=>(@pe_call _ _ _ _ _ _ _ _ _ _ _ _ _ _ _ _ (ok_is_rank T) (hr.mono (by decide)) rfl T.m_is_rank T.F_is_rank.kp T.b_is_rank .nil pass0 (@pa_cons _ _ _ _ _ (pv 2) pa_nil (by rfl)) (by decide) (by rfl) (by rfl)))) pa_nil (by rfl)) (by decide) (by decide) (by rfl) (by rfl))))))),?_⟩
 refine ⟨_,rfl,_,_,_,_,rfl,TyOf.lst hS,kit_list_list,?_⟩
 and_intros
 first | refine ifT (eq_t (by rw [List.length_map])) ?_ | (refine ⟨p,_,rfl,.inl (SqL.of hS),?_⟩;and_intros;refine ifT (eq_t (by rw [List.length_map])) ?_)
 refine ⟨_,rfl,p,rfl,⟨_,SqL.of hS⟩,?_⟩
 refine comp_list (xs:=rs.map V.int) (by rw [List.length_map];exact small63 (by omega)) (fun D i ys H'=>ys=(List.replicate i true).map V.bl/\H'=upd H D (.lst ys)) (fun D hD=>⟨rfl,rfl⟩) (fun D i ys H' ⟨f1,f2⟩=>⟨by rw [f2];exact upd_same,by rw [f1,List.length_map,List.length_replicate];exact Nat.le_refl _⟩) (fun D i ys H' hD ⟨_,f2⟩=>by rw [f2];exact SqL.of (same_new hD _ _ _ hS)) ?_ ?_
 ·rintro D i x ys H' K1 K2 hD hx ⟨f1,rfl⟩ k1 k2
  obtain ⟨z,hz,rfl⟩:=int_at hx
  obtain ⟨z0,z1⟩:=hR z (List.mem_of_getElem? hz)
  refine yes (ifT rfl ?_)
  refine ⟨_,rfl,z,rfl,z0,z1,?_⟩
  refine k1 _ _ upd_same ⟨?_,by rw [upd_upd]⟩
  rw [f1,List.replicate_succ',List.map_append]
  rfl
 ·rintro D ys H' hD ⟨rfl,rfl⟩
  refine ⟨D,_,rfl,SqL.of upd_same,?_⟩
  rw [show (List.replicate (rs.map V.int).length true).all id=true from List.all_eq_true.mpr fun b m=>(List.mem_replicate.mp m).2]
  exact q _ (same_new hD _)
theorem ok_sheet_of (T:Tx K mg ad):FnOk P w K mg base CX0 3 ad.f_sheet_of ad.d_sheet_of ["lines"] spSheetOf:=by
 refine T.F_sheet_of.ok sc_sheet_of (fun vs H Q E h=>?_) (fun cdv A outer s H vs Q E hr h=>?_)
 ·obtain ⟨l,ls,p,rfl,_⟩:=h
  rfl
 obtain ⟨l,ls,p,rfl,hl,g,hp,p64,hn,q⟩:=h
 refine ⟨_,(@pss_cons _ _ _ _ _ (ps_for PassesOwn.never rfl (pi_list (pv 0)) (pg_name (i:=1) sc_sheet_of.nd rfl (Or.inl rfl)) (@pss_one _ _ _ (@ps_if _ _ _ _ _ _ _ _ (@pt_not _ _ _ _ (@pt_val _ _ _ (@pe_call _ _ _ _ _ _ _ _ _ _ _ _ _ _ _ _ (ok_is_number T) (hr.mono (by decide)) rfl T.m_is_number T.F_is_number.kp T.b_is_number .nil pass0 (@pa_cons _ _ _ _ _ (@pe_ix _ _ _ _ _ _ _ ix_tup (pv 1) pe_int (fun _ _=>rfl)) pa_nil (by rfl)) (by decide) (by rfl) (by rfl)) (by intro _;rfl))) (@pss_one _ _ _ ps_never) pss_nil))) (@pss_one _ _ _ (@ps_ret _ _ _ _ (@pe_call _ _ _ _ _ _ _ _ _ _ _ _ _ _ _ _ (ok_sheet_from T) (hr.mono (by decide)) rfl T.m_sheet_from T.F_sheet_from.kp T.b_sheet_from .nil pass0 (@pa_cons _ _ _ _ _ (@pe_call _ _ _ _ _ _ _ _ _ _ _ _ _ _ _ _ (ok_numbers_by_slip T) (hr.mono (by decide)) rfl T.m_numbers_by_slip T.F_numbers_by_slip.kp T.b_numbers_by_slip .nil pass0 (@pa_cons _ _ _ _ _ (pv 0) pa_nil (by rfl)) (by decide) (by rfl) (by rfl)) pa_nil (by rfl)) (by decide) (by rfl) (by rfl))))),?_⟩
 refine ⟨_,rfl,l,rfl,⟨_,SqL.of hl⟩,for_list (xs:=vls ls) (fun i σ' H'=>∃v,σ'=[some (.ref l),v]/\H'=H) ⟨none,rfl,rfl⟩ (fun i σ' H' _ ⟨_,_,e⟩=>by rw [e];exact SqL.of hl) ?_ ?_⟩
 ·rintro i x σ' H' hx ⟨v,rfl,rfl⟩
  obtain ⟨f,hf,rfl,fm,et⟩:=vls_get hx
  obtain ⟨n0,n1⟩:=hn (f.2.2.1,f.2.2.2) (List.mem_map.mpr ⟨f,fm,rfl⟩)
  refine ⟨_,rfl,f.1,_,_,_,rfl,rfl,SqT.of (g f fm).1,rfl,f.2.2.2,rfl,n0,n1,?_⟩
  and_intros
  rfl
 ·rintro σ' H' ⟨v,rfl,rfl⟩
  refine ⟨_,rfl,l,ls,p,rfl,hl,g,hp,p64,fun d kvs H1 hd s1 e1 dk=>?_⟩
  refine ⟨d,kvs,rfl,e1,dk.vd,Nat.lt_of_le_of_lt (dk.len hp) p64,fun l' ls' H2 hl' s2 e2 g2 srt mem l64=>?_⟩
  exact q l' ls' H2 (none_of s1 hl') (s1.trans s2) e2 g2 (dk.sheet (fun q m=>(hn q m).1) srt mem) l64
theorem ok_code_of (T:Tx K mg ad):FnOk P w K mg base CX0 3 ad.f_code_of ad.d_code_of ["line","hands"] spCodeOf:=by
 refine T.F_code_of.ok sc_code_of (fun vs H Q E h=>?_) (fun cdv A outer s H vs Q E hr h=>?_)
 ·obtain ⟨p,t,ts,c,n,rfl,_⟩:=h
  rfl
 obtain ⟨p,t,ts,c,n,rfl,hp,ht,n12,hts,c0,c1,hr12,q⟩:=h
 refine ⟨_,(@pss_cons _ _ _ _ _ (@ps_set _ _ (2) _ _ _ _ sc_code_of.nd rfl (Or.inl rfl) (@pe_ix _ _ _ _ _ _ _ ix_tup (pv 0) pe_int (fun _ _=>rfl)) (by rfl) (by first | exact .inl rfl | exact .inr rfl | assumption)) (@pss_cons _ _ _ _ _ (ps_for PassesOwn.never rfl (pi_list (@pe_call _ _ _ _ _ _ _ _ _ _ _ _ _ _ _ _ (ok_ranks_of T) (hr.mono (by decide)) rfl T.m_ranks_of T.F_ranks_of.kp T.b_ranks_of .nil pass0 (@pa_cons _ _ _ _ _ (@pe_ix _ _ _ _ _ _ _ ix_tup (pv 0) pe_int (fun _ _=>rfl)) (@pa_cons _ _ _ _ _ (pv 1) pa_nil (by rfl)) (by rfl)) (by decide) (by rfl) (by rfl))) (pg_name (i:=3) sc_code_of.nd rfl (Or.inl rfl)) (@pss_one _ _ _ (@ps_set _ _ (2) _ _ _ _ sc_code_of.nd rfl (Or.inl rfl) (@pe_op _ _ _ _ _ _ _ _ op_add (@pe_op _ _ _ _ _ _ _ _ op_mulB (pv 2) (pe_glob (v:=.int 13) rfl T.k_BASE ⟨_,rfl⟩)) (pv 3)) (by rfl) (by first | exact .inl rfl | exact .inr rfl | assumption)))) (@pss_one _ _ _ (@ps_ret _ _ _ _ (pv 2))))),?_⟩
 refine ⟨_,rfl,p,_,_,_,rfl,rfl,SqT.of hp,rfl,?_⟩
 refine ⟨_,rfl,p,_,_,_,rfl,rfl,SqT.of hp,rfl,_,rfl,t,ts,n,rfl,ht,n12,hts,fun l H1 hl s1 e1=>?_⟩
 have ln:(ranksOf ts n).length=n:=by unfold ranksOf;rw [List.length_map,List.length_range]
 refine ⟨l,rfl,⟨_,SqL.of e1⟩,for_list (xs:=(ranksOf ts n).map V.int) (fun i σ' H'=>∃v3,σ'=[some (.ref p),some (.int (n:Int)),some (.int (codeL c ((ranksOf ts n).take i))),v3]/\H'=H1) ⟨none,rfl,rfl⟩ (fun i σ' H' _ ⟨_,_,e⟩=>by rw [e];exact SqL.of e1) ?_ ?_⟩
 ·rintro i x σ' H' hx ⟨v3,rfl,rfl⟩
  obtain ⟨z,hz,rfl⟩:=int_at hx
  have et:(ranksOf ts n).take (i+1)=(ranksOf ts n).take i++[z]:=by rw [List.take_succ,hz];rfl
  have cl:=code_lt c0 (show c<=2000000000 by omega) (rs:=(ranksOf ts n).take i) (fun r m=>hr12 r (List.mem_of_mem_take m)) (by rw [List.length_take];omega)
  have szc:=sz40 cl.1 cl.2
  and_intros
  refine ⟨some (.int z),?_,rfl⟩
  rw [et,code_snoc]
  rfl
 ·rintro σ' H' ⟨v3,rfl,rfl⟩
  rw [List.length_map,List.take_of_length_le (Nat.le_refl _)]
  exact ⟨_,rfl,q _ s1⟩
theorem ok_law_lines (T:Tx K mg ad):FnOk P w K mg base CX0 3 ad.f_law_lines ad.d_law_lines ["_law_found","_law_due"] spLinesL:=by
 refine T.F_law_lines.ok sc_law_lines (fun vs H Q E h=>?_) (fun cdv A outer s H vs Q E hr h=>?_)
 ·obtain ⟨a,b,ls,ms,rfl,_⟩:=h
  rfl
 obtain ⟨a,b,ls,ms,rfl,ha,hb,g1,g2,e,l9,s12,q⟩:=h
 refine ⟨_,(@pss_cons _ _ _ _ _ (@ps_if _ _ _ _ _ _ _ _ (PW.pt (@pw_or _ _ _ _ _ _ _ (@pt_not _ _ _ _ (@pt_val _ _ _ (@pe_callB _ _ _ _ _ _ _ _ _ call_isi (by rfl) T.z_isinstance PyProof.Rows.boot_isinstance (@pa_cons _ _ _ _ _ (pv 0) (@pa_cons _ _ _ _ _ (pe_bltn (v:=.ty "list") rfl T.z_list PyProof.Rows.boot_list rfl) pa_nil (by rfl)) (by rfl)) (by decide) (by decide) (by rfl) (by rfl)) (by intro _;rfl))) (@pw_or1 _ _ _ _ (@pt_cmpR _ _ _ _ _ _ _ _ op_ne (@pe_callB _ _ _ _ _ _ _ _ _ call_len_seq (by rfl) T.z_len PySem.boot_len (@pa_cons _ _ _ _ _ (pv 0) pa_nil (by rfl)) (by decide) (by decide) (by rfl) (by rfl)) (@pe_callB _ _ _ _ _ _ _ _ _ call_len_seq (by rfl) T.z_len PySem.boot_len (@pa_cons _ _ _ _ _ (pv 1) pa_nil (by rfl)) (by decide) (by decide) (by rfl) (by rfl)) (nomark _))))) (@pss_one _ _ _ (@ps_ret _ _ _ _ pe_bl)) pss_nil) (@pss_one _ _ _ (@ps_ret _ _ _ _ (@pe_cmpR _ _ _ _ _ _ _ _ op_eq (@pe_callB _ _ _ _ _ _ _ _ _ call_len_seq (by rfl) T.z_len PySem.boot_len (@pa_cons _ _ _ _ _ (pe_comp (fsc:=defScope s_law_lines) (N:=["_law_found","_law_due"]) (Nc:=["_law_found","_law_due","_law_k"]) rfl rfl ⟨rfl,by decide +kernel,by decide +kernel,rfl,by decide +kernel,rfl,by decide +kernel,rfl,by decide +kernel⟩ rfl (pi_range1 rfl T.z_range (@pa_cons _ _ _ _ _ (@pe_callB _ _ _ _ _ _ _ _ _ call_len_seq (by rfl) T.z_len PySem.boot_len (@pa_cons _ _ _ _ _ (pv 1) pa_nil (by rfl)) (by decide) (by decide) (by rfl) (by rfl)) pa_nil (by rfl))) (fun _ _ _ _=>(pif_one (@pt_not _ _ _ _ (@pt_val _ _ _ (@pe_call _ _ _ _ _ _ _ _ _ _ _ _ _ _ _ _ (ok_law_line T) (hr.mono (by decide)) rfl T.m_law_line T.F_law_line.kp T.b_law_line .nil pass0 (@pa_cons _ _ _ _ _ (@pe_ix _ _ _ _ _ _ _ (ix_listK K) (pv 0) (pv 2) (fun _ _=>rfl)) (@pa_cons _ _ _ _ _ (@pe_ix _ _ _ _ _ _ _ (ix_listK K) (pv 1) (pv 2) (fun _ _=>rfl)) pa_nil (by rfl)) (by rfl)) (by decide) (by rfl) (by rfl)) (by intro _;rfl))))) (fun _ _ _ _=>(pv 2))) pa_nil (by rfl)) (by decide) (by decide) (by rfl) (by rfl)) pe_int (nomark _))))),?_⟩
 have lm:ls.length=ms.length:=by
  have:=congrArg List.length e
  unfold dsOf at this
  rw [List.length_map,List.length_map] at this
  exact this
 refine ⟨_,rfl,_,_,_,_,rfl,TyOf.lst ha,kit_list_list,?_⟩
 and_intros
 refine ifF (ne_f (by rw [vls_len,vls_len,lm])) ?_
 and_intros
 have lv:(vls ms).length=ls.length:=by rw [vls_len];exact lm.symm
 refine ⟨by omega,by omega,?_⟩
 refine comp_range (by rw [lv,Int.toNat_natCast];exact small900 l9) (fun D i ys H'=>ys=[]/\H' D=some (.lst [])/\Same H H') (fun D hD=>⟨rfl,upd_same,same_new hD _⟩) (fun D i ys H' ⟨f1,f2,_⟩=>⟨by rw [f1];exact f2,by rw [f1];exact Nat.zero_le _⟩) ?_ ?_
 ·rintro D i ys H' K1 K2 hD hi ⟨rfl,f2,f3⟩ k1 k2
  rw [lv,Int.toNat_natCast] at hi
  obtain ⟨f,hf⟩:∃f,ls[i]?=some f:=⟨_,List.getElem?_eq_getElem hi⟩
  obtain ⟨g,hg⟩:∃g,ms[i]?=some g:=⟨_,List.getElem?_eq_getElem (by omega)⟩
  have fg:(f.2.2.1,f.2.2.2)=(g.2.2.1,g.2.2.2):=by
   have e1:(dsOf ls)[i]?=some (f.2.2.1,f.2.2.2):=by unfold dsOf;rw [List.getElem?_map,hf];rfl
   have e2:(dsOf ms)[i]?=some (g.2.2.1,g.2.2.2):=by unfold dsOf;rw [List.getElem?_map,hg];rfl
   rw [e,e2] at e1
   exact (Option.some.inj e1).symm
  injection fg with fg1 fg2
  obtain ⟨a1,a2⟩:=g1 f (List.mem_of_getElem? hf)
  obtain ⟨b1,b2⟩:=g2 g (List.mem_of_getElem? hg)
  rw [<- fg2] at b1
  rw [<- fg1] at b2
  and_intros
  refine ⟨a,_,_,_,rfl,rfl,SqL.of (f3 _ _ ha),(by rw [Int.zero_add];exact atI_nat (by unfold vls;rw [List.getElem?_map,hf];rfl)),?_⟩
  and_intros
  refine ⟨b,_,_,_,rfl,rfl,SqL.of (f3 _ _ hb),(by rw [Int.zero_add];exact atI_nat (by unfold vls;rw [List.getElem?_map,hg];rfl)),?_⟩
  refine ⟨f.1,g.1,f.2.1,g.2.1,f.2.2.1,f.2.2.2,rfl,s12 f (List.mem_of_getElem? hf),f3 _ _ a1,f3 _ _ a2,f3 _ _ b1,f3 _ _ b2,fun H5 s5=>?_⟩
  refine ⟨_,rfl,?_⟩
  exact ifF rfl (k2 _ ⟨rfl,s5 _ _ f2,f3.trans s5⟩)
 ·rintro D ys H' hD ⟨rfl,f2,f3⟩
  refine ⟨D,_,rfl,.inl (SqL.of f2),?_⟩
  and_intros
  exact q _ f3
theorem ok_Box_init (T:Tx K mg ad):FnOk P w K mg base (CX1 P w) 3 ad.f_Box_init ad.d_Box_init ["self","hands"] (spBoxX K ad.c_NoWay):=by
 refine T.F_Box_init.okX sc_Box_init (fun vs H Q E h=>?_) (fun cdv A outer s H vs Q E hr h=>?_)
 ·obtain ⟨a,C,dx,x,rfl,_⟩:=h
  rfl
 obtain ⟨a,C,dx,x,rfl,ha,cl,na1,na2,wx,q⟩:=h
 refine ⟨_,(@pss_cons _ _ _ _ _ (@ps_if _ _ _ _ _ _ _ _ (@pt_not _ _ _ _ (@pt_val _ _ _ (@pe_call _ _ _ _ _ _ _ _ _ _ _ _ _ _ _ _ (ok_are_hands T) (hr.mono (by decide)) rfl T.m_are_hands T.F_are_hands.kp T.b_are_hands .nil pass0 (@pa_cons _ _ _ _ _ (pv 1) pa_nil (by rfl)) (by decide) (by rfl) (by rfl)) (by intro _;rfl))) (@pss_one _ _ _ (ps_raise ⟨rfl,rfl,rfl⟩ rfl rfl T.m_NoWay T.x_NoWay (@pa_cons _ _ _ _ _ pe_str pa_nil (by rfl)))) pss_nil) (@pss_cons _ _ _ _ _ (ps_fld (pv 0) (pv 1) rfl) (@pss_one _ _ _ (ps_fld (pv 0) (@pe_lst _ _ _ _ pa_nil) rfl)))),?_⟩
 refine ⟨_,rfl,x,rfl,wx,?_⟩
 rcases q with ⟨n,rfl,n1,n12,q⟩ | ⟨no,q⟩
 ·rw [okTo_of n1 n12]
  and_intros
  refine ⟨a,C,dx,[],rfl,ha,cl,na1,(by simp only [List.length_cons,List.length_nil];decide),?_⟩
  rw [putB1]
  have g2:=off_put (o:=.ins C dx [("hands",.int n)]) (off_le H a)
  have a2:(upd H a (.ins C dx [("hands",.int n)])) a=_:=upd_same
  generalize upd H a (.ins C dx [("hands",.int n)])=H2 at g2 a2 ⊢
  refine ⟨(by show 0<=sizeLine;decide),fun L hL=>?_⟩
  have La:L≠a:=fun z=>by rw [z,a2] at hL;cases hL
  have hLH:H L=none:=by
   cases e:H L with
   | none=>rfl
   | some o =>
     have:=g2 _ _ (off_at e La)
     rw [hL] at this
     cases this
  have g3:=g2.trans (same_new hL (.lst []))
  have a3:=same_new hL (.lst []) _ _ a2
  have e3:(upd H2 L (.lst [])) L=some (.lst []):=upd_same
  generalize upd H2 L (.lst [])=H3 at g3 a3 e3 ⊢
  refine ⟨_,rfl,a,C,dx,_,rfl,a3,cl,na2,(by simp only [List.length_cons,List.length_nil];decide),?_⟩
  rw [putB2]
  exact q L _ La hLH (off_put g3) upd_same (by rw [upd_ne La];exact e3)
 ·rw [no]
  and_intros
  exact ⟨(by show 1<=sizeLine;decide),q⟩
theorem ok_slip_of (T:Tx K mg ad):FnOk P w K mg base CX0 4 ad.f_slip_of ad.d_slip_of ["ranks","hands"] (spSlipOf K):=by
 refine T.F_slip_of.ok sc_slip_of (fun vs H Q E h=>?_) (fun cdv A outer s H vs Q E hr h=>?_)
 ·obtain ⟨p,rs,rfl,_⟩:=h
  rfl
 obtain ⟨p,rs,rfl,hS,h12,hR,q⟩:=h
 refine ⟨_,(@pss_cons _ _ _ _ _ (@ps_if _ _ _ _ _ _ _ _ (@pt_not _ _ _ _ (@pt_val _ _ _ (@pe_call _ _ _ _ _ _ _ _ _ _ _ _ _ _ _ _ (ok_are_ranks T) (hr.mono (by decide)) rfl T.m_are_ranks T.F_are_ranks.kp T.b_are_ranks .nil pass0 (@pa_cons _ _ _ _ _ (pv 0) (@pa_cons _ _ _ _ _ (pv 1) pa_nil (by rfl)) (by rfl)) (by decide) (by rfl) (by rfl)) (by intro _;rfl))) (@pss_one _ _ _ ps_never) pss_nil) (@pss_one _ _ _ (@ps_ret _ _ _ _ (@pe_callTy _ _ _ _ _ _ _ _ _ call_tuple_of (by rfl) T.z_tuple PyProof.Rows.boot_tuple (@pa_cons _ _ _ _ _ (pe_comp (fsc:=defScope s_slip_of) (N:=["ranks","hands"]) (Nc:=["ranks","hands","rank"]) rfl rfl ⟨rfl,by decide +kernel,by decide +kernel,rfl,by decide +kernel,rfl,by decide +kernel,rfl,by decide +kernel⟩ rfl (pi_list (pe_sortedset rfl (by rfl) T.z_sorted (by rfl) T.z_set (pv 0))) (fun _ _ _ _=>(pif_one (@pt_cmpR _ _ _ _ _ _ _ _ op_gt (pv 2) pe_int (nomark _)))) (fun _ _ _ _=>(@pe_call _ _ _ _ _ _ _ _ _ _ _ _ _ _ _ _ (ok_tier_at T) (hr.mono (by decide)) rfl T.m_tier_at T.F_tier_at.kp T.b_tier_at .nil pass0 (@pa_cons _ _ _ _ _ (pv 0) (@pa_cons _ _ _ _ _ (pv 2) pa_nil (by rfl)) (by rfl)) (by decide) (by rfl) (by rfl)))) pa_nil (by rfl)) (by decide) (by decide) (by rfl) (by rfl))))),?_⟩
 refine ⟨_,rfl,_,rfl,p,rs,rfl,hS,h12,hR,fun H0 s00=>?_⟩
 and_intros
 refine ⟨p,rs,rfl,SqL.of (s00 _ _ hS),by omega,fun l ms m1 m2 hl=>?_⟩
 obtain rfl:=sset_of m1 m2
 have sl:=sset_len rs
 have s0:=s00.trans (same_new hl (.lst ((sset rs).map V.int)))
 have el:(upd H0 l (.lst ((sset rs).map V.int))) l=some (.lst ((sset rs).map V.int)):=upd_same
 generalize upd H0 l (.lst ((sset rs).map V.int))=H1 at s0 el ⊢
 refine ⟨l,rfl,⟨_,SqL.of el⟩,?_⟩
 refine comp_list (xs:=(sset rs).map V.int) (by rw [List.length_map];exact small63 (by omega)) (fun D i ys H'=>ys=((((sset rs).take i).filter fun r=>decide (0 < r)).map (tierOf rs)).map V.int/\H' D=some (.lst ys)/\Same H1 H') (fun D hD=>⟨rfl,upd_same,same_new hD _⟩)
  (fun D i ys H' ⟨e1,e2,_⟩=>⟨e2,by rw [e1,List.length_map,List.length_map];exact Nat.le_trans (List.length_filter_le _ _) (List.length_take_le _ _)⟩) (fun D i ys H' hD ⟨_,_,e3⟩=>SqL.of (e3 _ _ el)) ?_ ?_
 ·rintro D i x ys H' K1 K2 hD hx ⟨e1,e2,e3⟩ k1 k2
  obtain ⟨z,hz,rfl⟩:=int_at hx
  have et:(sset rs).take (i+1)=(sset rs).take i++[z]:=by rw [List.take_succ,hz];rfl
  refine ⟨_,rfl,_,_,rfl,rfl,_,rfl,?_⟩
  refine ite2 (fun c=>?_) (fun c=>?_)
  ·have c':decide (0 < z)=true:=c
   refine ⟨_,rfl,_,rfl,p,rs,z,rfl,SqL.of ((s0.trans e3) _ _ hS),h12,fun H5 s5=>?_⟩
   refine k1 _ _ (s5 _ _ e2) ⟨?_,upd_same,same_upd (e3.trans s5) hD⟩
   rw [et,List.filter_append,List.map_append,List.map_append,e1]
   simp [c']
  ·have c':decide (0 < z)=false:=Bool.eq_false_iff.mpr c
   refine k2 _ ⟨?_,e2,e3⟩
   rw [et,List.filter_append,e1]
   simp [c']
 ·rintro D ys H' hD ⟨e1,e2,e3⟩
  rw [List.length_map,List.take_of_length_le (Nat.le_refl _)] at e1
  subst e1
  refine ⟨D,_,rfl,.inl ⟨SqL.of e2,fun t ht=>?_⟩⟩
  have s9:=(s0.trans e3)
  exact q t _ (by
   cases e:H t with
   | none=>rfl
   | some u=>rw [s9 _ _ e] at ht;cases ht) (s9.trans (same_new ht _)) upd_same
theorem ok_Box_sheet_at (T:Tx K mg ad):FnOk P w K mg base (CX1 P w) 4 ad.f_Box_sheet_at ad.d_Box_sheet_at ["self","k"] (spSheetX K ad.c_Box ad.c_NoBundle):=by
 refine T.F_Box_sheet_at.okX sc_Box_sheet_at (fun vs H Q E h=>?_) (fun cdv A outer s H vs Q E hr h=>?_)
 ·obtain ⟨b,L,n,bs,x,rfl,_⟩:=h
  rfl
 obtain ⟨b,L,n,bs,x,rfl,ib,q⟩:=h
 refine ⟨_,(@pss_one _ _ _ (@ps_ret _ _ _ _ (@pe_call _ _ _ _ _ _ _ _ _ _ _ _ _ _ _ _ (ok_sheet_of T) (hr.mono (by decide)) rfl T.m_sheet_of T.F_sheet_of.kp T.b_sheet_of .nil pass0 (@pa_cons _ _ _ _ _ (pe_methW ⟨rfl,rfl,rfl⟩ (pv 0) T.cl_Box T.me_Box_lines_at (ok_Box_lines_at T) (hr.mono (by decide)) T.b_Box_lines_at .nil (@pa_cons _ _ _ _ _ (pv 1) pa_nil (by rfl))) pa_nil (by rfl)) (by decide) (by rfl) (by rfl)))),?_⟩
 obtain ⟨dx,hb⟩:=ib.at_
 and_intros
 refine ⟨b,dx,_,rfl,hb,rfl,?_⟩
 and_intros
 rcases q with ⟨k,y,p,rfl,ex,ok,p64,q⟩ | ⟨no,q⟩
 ·refine ⟨b,L,n,bs,_,rfl,ib,.inl ⟨k,y,rfl,ex,fun l H1 hl s1 e1=>?_⟩⟩
  refine ⟨l,y.2,p,rfl,e1,(ib.lies y (List.mem_of_getElem? ex)).2.same s1,fun q m=>(ok q m).1,p64,fun q m=>⟨(ok q m).2.1,(ok q m).2.2.1⟩,fun l' ls' H' hl' s2 e2 g2 sh ln=>?_⟩
  exact q l' ls' H' (none_of s1 hl') (s1.trans s2) e2 g2 sh ln
 ·exact ⟨b,L,n,bs,_,rfl,ib,.inr ⟨no,q⟩⟩
theorem ok_Box_seal_at (T:Tx K mg ad):FnOk P w K mg base (CX1 P w) 4 ad.f_Box_seal_at ad.d_Box_seal_at ["self","k"] (spSealX K ad.c_Box ad.c_NoBundle):=by
 refine T.F_Box_seal_at.okX sc_Box_seal_at (fun vs H Q E h=>?_) (fun cdv A outer s H vs Q E hr h=>?_)
 ·obtain ⟨b,L,n,bs,x,rfl,_⟩:=h
  rfl
 obtain ⟨b,L,n,bs,x,rfl,ib,q⟩:=h
 refine ⟨_,(@pss_one _ _ _ (@ps_ret _ _ _ _ (@pe_call _ _ _ _ _ _ _ _ _ _ _ _ _ _ _ _ (ok_seal_of T) (hr.mono (by decide)) rfl T.m_seal_of T.F_seal_of.kp T.b_seal_of .nil pass0 (@pa_cons _ _ _ _ _ (pe_comp (fsc:=defScope s_Box_seal_at) (N:=["self","k"]) (Nc:=["self","k","line"]) rfl rfl ⟨rfl,by decide +kernel,by decide +kernel,rfl,by decide +kernel,rfl,by decide +kernel,rfl,by decide +kernel⟩ rfl (pi_list (pe_methW ⟨rfl,rfl,rfl⟩ (pv 0) T.cl_Box T.me_Box_lines_at (ok_Box_lines_at T) (hr.mono (by decide)) T.b_Box_lines_at .nil (@pa_cons _ _ _ _ _ (pv 1) pa_nil (by rfl)))) (fun _ _ _ _=>pif_nil) (fun _ _ _ _=>(@pe_call _ _ _ _ _ _ _ _ _ _ _ _ _ _ _ _ (ok_code_of T) (hr.mono (by decide)) rfl T.m_code_of T.F_code_of.kp T.b_code_of .nil pass0 (@pa_cons _ _ _ _ _ (pv 2) (@pa_cons _ _ _ _ _ (pe_fldK K (pv 0) rfl) pa_nil (by rfl)) (by rfl)) (by decide) (by rfl) (by rfl)))) pa_nil (by rfl)) (by decide) (by rfl) (by rfl)))),?_⟩
 obtain ⟨dx,hb⟩:=ib.at_
 and_intros
 refine ⟨b,dx,_,rfl,hb,rfl,?_⟩
 and_intros
 rcases q with ⟨k,y,p,rfl,ex,ok,n12,x100,q⟩ | ⟨no,q⟩
 ·have gx:=(ib.lies y (List.mem_of_getElem? ex)).2
  refine ⟨b,L,n,bs,_,rfl,ib,.inl ⟨k,y,rfl,ex,fun l H1 hl s1 e1=>?_⟩⟩
  refine ⟨l,rfl,⟨_,SqL.of e1⟩,?_⟩
  refine comp_list (xs:=vls y.2) (by rw [vls_len];exact small900 (by omega)) (fun D i ys H'=>ys=(codesN n (dsOf (y.2.take i))).map V.int/\H' D=some (.lst ys)/\Same H1 H') (fun D hD=>⟨rfl,upd_same,same_new hD _⟩) (fun D i ys H' ⟨f1,f2,_⟩=>⟨f2,by rw [f1,List.length_map,codes_len];unfold dsOf;rw [List.length_map];exact List.length_take_le _ _⟩) (fun D i ys H' hD ⟨_,_,f3⟩=>SqL.of (f3 _ _ e1)) ?_ ?_
  ·rintro D i v ys H' K1 K2 hD hv ⟨f1,f2,f3⟩ k1 k2
   obtain ⟨f,hf,rfl,fm,et⟩:=vls_get hv
   obtain ⟨g1,g2⟩:=gx f fm
   obtain ⟨_,f1',f9,okf⟩:=ok (f.2.2.1,f.2.2.2) (List.mem_map.mpr ⟨f,fm,rfl⟩)
   obtain ⟨rs,m,er,_,ln,_,r12,tin⟩:=okf.ranks
   have s3:=s1.trans f3
   refine yes (ifT rfl ?_)
   and_intros
   refine ⟨b,_,dx,_,_,rfl,s3 _ _ hb,T.cl_Box,T.na_Box_hands,rfl,?_⟩
   refine ⟨f.1,f.2.1,f.2.2.1,f.2.2.2,n,rfl,s3 _ _ g1,s3 _ _ g2,n12,tin,by omega,f9,(by rw [er];exact r12),fun H5 s5=>?_⟩
   refine k1 _ _ (s5 _ _ f2) ⟨?_,upd_same,same_upd (f3.trans s5) hD⟩
   rw [f1,et,dsOf_append]
   unfold codesN
   rw [List.map_append,List.map_append]
   rfl
  ·rintro D ys H' hD ⟨f1,f2,f3⟩
   rw [vls_len,List.take_length] at f1
   subst f1
   refine ⟨D,_,rfl,f2,codes_sz n12 ok,(by rw [codes_len];unfold dsOf;rw [List.length_map];exact x100),fun t H5 ht s5 e5=>?_⟩
   exact q t H5 ((s1.trans f3).trans s5) e5
 ·exact ⟨b,L,n,bs,_,rfl,ib,.inr ⟨no,q⟩⟩
theorem ok_line_of (T:Tx K mg ad):FnOk P w K mg base (CX1 P w) 5 ad.f_line_of ad.d_line_of ["code","hands"] (spLineX K ad.c_NoBallot):=by
 refine T.F_line_of.okX sc_line_of (fun vs H Q E h=>?_) (fun cdv A outer s H vs Q E hr h=>?_)
 ·obtain ⟨x,n,rfl,_⟩:=h
  rfl
 obtain ⟨x,n,rfl,n12,h⟩:=h
 refine ⟨_,(@pss_cons _ _ _ _ _ (@ps_if _ _ _ _ _ _ _ _ (@pt_not _ _ _ _ (@pt_val _ _ _ (@pe_call _ _ _ _ _ _ _ _ _ _ _ _ _ _ _ _ (ok_is_wholeX T) (hr.mono (by decide)) rfl T.m_is_whole T.F_is_whole.kp T.b_is_whole .nil pass0 (@pa_cons _ _ _ _ _ (pv 0) pa_nil (by rfl)) (by decide) (by rfl) (by rfl)) (by intro _;rfl))) (@pss_one _ _ _ (ps_raise ⟨rfl,rfl,rfl⟩ rfl rfl T.m_NoBallot T.x_NoBallot (@pa_cons _ _ _ _ _ pe_str pa_nil (by rfl)))) pss_nil) (@pss_cons _ _ _ _ _ (@ps_set _ _ (2) _ _ _ _ sc_line_of.nd rfl (Or.inl rfl) (@pe_lst _ _ _ _ pa_nil) (by rfl) (by first | exact .inl rfl | exact .inr rfl | assumption)) (@pss_cons _ _ _ _ _ (@ps_set _ _ (3) _ _ _ _ sc_line_of.nd rfl (Or.inl rfl) (pv 0) (by rfl) (by first | exact .inl rfl | exact .inr rfl | assumption)) (@pss_cons _ _ _ _ _ (ps_for (passW ⟨rfl,rfl,rfl⟩) rfl (pi_range1 rfl T.z_range (@pa_cons _ _ _ _ _ (pv 1) pa_nil (by rfl))) (pg_name (i:=4) sc_line_of.nd rfl (Or.inl rfl)) (@pss_cons _ _ _ _ _ (@ps_expr _ _ _ _ (pe_bm PySem.F.plainAttrs_list PySem.F.slot_list_append PySem.F.type_list_append mt_append (pv 2) (@pa_cons _ _ _ _ _ (@pe_op _ _ _ _ _ _ _ _ op_modN (pv 3) (pe_glob (v:=.int 13) rfl T.k_BASE ⟨_,rfl⟩)) pa_nil (by rfl))) (by rfl)) (@pss_one _ _ _ (@ps_set _ _ (3) _ _ _ _ sc_line_of.nd rfl (Or.inl rfl) (@pe_op _ _ _ _ _ _ _ _ op_fdivB (pv 3) (pe_glob (v:=.int 13) rfl T.k_BASE ⟨_,rfl⟩)) (by rfl) (by first | exact .inl rfl | exact .inr rfl | assumption))))) (@pss_cons _ _ _ _ _ (@ps_if _ _ _ _ _ _ _ _ (@pt_not _ _ _ _ (@pt_val _ _ _ (@pe_call _ _ _ _ _ _ _ _ _ _ _ _ _ _ _ _ (ok_is_numberX T) (hr.mono (by decide)) rfl T.m_is_number T.F_is_number.kp T.b_is_number .nil pass0 (@pa_cons _ _ _ _ _ (pv 3) pa_nil (by rfl)) (by decide) (by rfl) (by rfl)) (by intro _;rfl))) (@pss_one _ _ _ (ps_raise ⟨rfl,rfl,rfl⟩ rfl rfl T.m_NoBallot T.x_NoBallot (@pa_cons _ _ _ _ _ pe_str pa_nil (by rfl)))) pss_nil) (@pss_cons _ _ _ _ _ (@ps_set _ _ (5) _ _ _ _ sc_line_of.nd rfl (Or.inl rfl) (pe_listrev rfl (by rfl) T.z_list (by rfl) T.z_reversed (pv 2)) (by rfl) (by first | exact .inl rfl | exact .inr rfl | assumption)) (@pss_cons _ _ _ _ _ (@ps_set _ _ (6) _ _ _ _ sc_line_of.nd rfl (Or.inl rfl) (@pe_call _ _ _ _ _ _ _ _ _ _ _ _ _ _ _ _ (ok_slip_of T) (hr.mono (by decide)) rfl T.m_slip_of T.F_slip_of.kp T.b_slip_of .nil pass0 (@pa_cons _ _ _ _ _ (pv 5) (@pa_cons _ _ _ _ _ (pv 1) pa_nil (by rfl)) (by rfl)) (by decide) (by rfl) (by rfl)) (by rfl) (by first | exact .inl rfl | exact .inr rfl | assumption)) (@pss_cons _ _ _ _ _ (@ps_if _ _ _ _ _ _ _ _ (@pt_cmpR _ _ _ _ _ _ _ _ (op_neL hr.units) (@pe_call _ _ _ _ _ _ _ _ _ _ _ _ _ _ _ _ (ok_ranks_of T) (hr.mono (by decide)) rfl T.m_ranks_of T.F_ranks_of.kp T.b_ranks_of .nil pass0 (@pa_cons _ _ _ _ _ (pv 6) (@pa_cons _ _ _ _ _ (pv 1) pa_nil (by rfl)) (by rfl)) (by decide) (by rfl) (by rfl)) (pv 5) (nomark _)) (@pss_one _ _ _ (ps_raise ⟨rfl,rfl,rfl⟩ rfl rfl T.m_NoBallot T.x_NoBallot (@pa_cons _ _ _ _ _ pe_str pa_nil (by rfl)))) pss_nil) (@pss_one _ _ _ (@ps_ret _ _ _ _ (@pe_tup _ _ _ _ _ (@pa_cons _ _ _ _ _ (pv 6) (@pa_cons _ _ _ _ _ (pv 3) pa_nil (by rfl)) (by rfl))))))))))))),?_⟩
 have say:1<=sizeLine:=by decide
 by_cases wf:Wh K H x false/\∀H':Hp,Same H H'->E (.ref ad.c_NoBallot) none H'
 ·refine ⟨_,rfl,x,false,rfl,wf.1,_,rfl,?_⟩
  exact iteT ⟨say,wf.2 H fun _ _ e=>e⟩
 obtain ⟨c,rs,rfl,rfl,hr12,h⟩:∃(c:Int) (rs:List Int),x=.int (codeL c rs)/\rs.length=n/\(∀r∈rs,0<=r/\r<=12)/\(((¬ (1<=c/\c<=1000000000)\/ranksOf (tiersOf rs) n≠rs)/\∀H':Hp,Same H H'->E (.ref ad.c_NoBallot) none H')\/∃m:Nat,1<=c/\c<=1000000000/\Gapless rs m/\∀(p t:Addr) (H':Hp),Same H H'->H' p=some (.tup [.ref t,.int c])->H' t=some (.tup ((tiersOf rs).map V.int))->Q (.ref p) H'):=by
  rcases h with ⟨bad | ⟨c,rs,h1,h2,h3,h4⟩,he⟩ | ⟨c,rs,m,h1,h2,h3,h4,h5,h6,h7⟩
  ·exact absurd ⟨bad,he⟩ wf
  ·exact ⟨c,rs,h1,h2,h3,.inl ⟨h4,he⟩⟩
  ·exact ⟨c,rs,h1,h2,h3,.inr ⟨m,h4,h5,h6,h7⟩⟩
 clear wf
 refine ⟨_,rfl,_,true,rfl,Wh.int _,_,rfl,?_⟩
 refine iteF ?_
 and_intros
 refine ⟨(by show 0<=sizeLine;decide),fun l hl=>?_⟩
 have s1:=same_new hl (.lst [])
 have e1:(upd H l (.lst [])) l=some (.lst []):=upd_same
 generalize upd H l (.lst [])=H1 at s1 e1 ⊢
 refine ⟨_,rfl,_,rfl,(rs.length:Int),rfl,by omega,by omega,for_range (fun i σ' H'=>∃v4,σ'=[some (.int (codeL c rs)),some (.int (rs.length:Nat)),some (.ref l),some (.int (codeL c (rs.take (rs.length - i)))),v4,none,none]/\Same H H'/\H' l=some (.lst ((rs.drop (rs.length - i)).reverse.map V.int))) ⟨none,by rw [Nat.sub_zero,List.take_length];rfl,s1,by rw [e1,Nat.sub_zero,List.drop_length];rfl⟩ ?_ ?_⟩
 ·rintro i σ' H' hi ⟨v4,rfl,s2,e2⟩
  obtain ⟨r,r0,r12,ec,ed⟩:=code_off (c:=c) (show i < rs.length by omega) hr12
  obtain ⟨o1,o2⟩:=off13 (a:=codeL c (rs.take (rs.length - (i+1)))) r0 r12
  rw [<- ec] at o1 o2
  generalize codeL c (rs.take (rs.length - i))=old at o1 o2 ⊢
  have lim:((rs.drop (rs.length - i)).reverse.map V.int).length < sizeLine:=by
   rw [List.length_map,List.length_reverse,List.length_drop];exact small1000 (by omega)
  refine ⟨_,rfl,.inl ⟨rfl,_,SqL.of e2⟩,?_⟩
  and_intros
  refine ⟨l,_,_,rfl,rfl,e2,lim,?_⟩
  and_intros
  refine ⟨some (.int (0+(i:Int))),?_,same_upd s2 hl,?_⟩
  ·rw [<- o2];rfl
  ·rw [upd_same,ed,List.map_append,<- o1];rfl
 ·rintro σ' H' ⟨v4,rfl,s2,e2⟩
  rw [show ((rs.length:Int)).toNat=rs.length from Int.toNat_natCast _,Nat.sub_self,List.drop_zero] at e2
  rw [show ((rs.length:Int)).toNat=rs.length from Int.toNat_natCast _,Nat.sub_self,List.take_zero,show codeL c []=c from rfl]
  by_cases hc:1<=c/\c<=1000000000
  ·have hb:(decide (1<=c) && decide (c<=1000000000))=true:=by rw [decide_eq_true hc.1,decide_eq_true hc.2];rfl
   refine ⟨_,rfl,c,rfl,?_⟩
   rw [hb]
   refine ⟨_,rfl,?_⟩
   refine iteF ?_
   refine ⟨_,rfl,l,_,rfl,SqL.of e2,fun b hb=>?_⟩
   rw [<- List.map_reverse,List.reverse_reverse]
   have s3:=same_new hb (.lst (rs.map V.int))
   have e3:(upd H' b (.lst (rs.map V.int))) b=some (.lst (rs.map V.int)):=upd_same
   generalize upd H' b (.lst (rs.map V.int))=H3 at s3 e3 ⊢
   refine ⟨_,rfl,_,rfl,b,rs,rfl,e3,n12,fun r mr=>⟨(hr12 r mr).1,Int.le_trans (hr12 r mr).2 (by decide)⟩,fun t H4 _ s4 e4=>?_⟩
   refine ⟨_,rfl,_,rfl,t,tiersOf rs,rs.length,rfl,e4,n12,tiers_in,fun l2 H5 _ s5 e5=>?_⟩
   refine ⟨_,rfl,l2,b,ranksOf (tiersOf rs) rs.length,rs,rfl,rfl,SqL.of e5,SqL.of (s5 _ _ (s4 _ _ e3)),_,rfl,?_⟩
   have sA:=((s2.trans s3).trans s4).trans s5
   by_cases er:ranksOf (tiersOf rs) rs.length=rs
   ·refine ifF (by rw [decide_eq_true er];rfl) ?_
    rcases h with ⟨bad,_⟩ | ⟨m,_,_,gl,q⟩
    ·rcases bad with z | z
     ·exact absurd hc z
     ·exact absurd er z
    ·refine ⟨_,rfl,_,rfl,(by show 2<=sizeLine;decide),fun a ha=>?_⟩
     have s6:=same_new ha (.tup [V.ref t,V.int c])
     exact q a t _ (sA.trans s6) upd_same (s6 _ _ (s5 _ _ e4))
   ·refine ifT (by rw [decide_eq_false er];rfl) ?_
    rcases h with ⟨_,he⟩ | ⟨m,_,_,gl,_⟩
    ·exact ⟨say,he _ sA⟩
    ·exact absurd gl.ranks er
  ·have hb:(decide (1<=c) && decide (c<=1000000000))=false:=by
    by_cases c1:1<=c
    ·rw [decide_eq_false (fun c2=>hc ⟨c1,c2⟩),Bool.and_false]
    ·rw [decide_eq_false c1,Bool.false_and]
   refine ⟨_,rfl,c,rfl,?_⟩
   rw [hb]
   refine ⟨_,rfl,?_⟩
   refine iteT ?_
   rcases h with ⟨_,he⟩ | ⟨m,c0,c1,_⟩
   ·exact ⟨say,he _ s2⟩
   ·exact absurd ⟨c0,c1⟩ hc
theorem ok_law_no_box (T:Tx K mg ad):FnOk P w K mg base CX0 5 ad.f_law_no_box ad.d_law_no_box ["_law_hands"] (spNoBox K):=by
 refine T.F_law_no_box.ok sc_law_no_box (fun vs H Q E h=>?_) (fun cdv A outer s H vs Q E hr h=>?_)
 ·obtain ⟨x,rfl,_⟩:=h
  rfl
 obtain ⟨x,rfl,wx,no,q⟩:=h
 refine ⟨_,(@pss_cons _ _ _ _ _ (ps_try ⟨rfl,rfl,rfl⟩ (fun _ _=>(@pss_one _ _ _ (@ps_expr _ _ _ _ (pe_makeW ⟨rfl,rfl,rfl⟩ T.mk_Box (ok_Box_init T) (hr.mono (by decide)) rfl T.m_Box T.b_Box_init .nil (@pa_cons _ _ _ _ _ (pv 0) pa_nil (by rfl))) (by rfl)))) (ph_as (i:=1) ⟨rfl,rfl,rfl⟩ T.h_PollError rfl T.m_PollError sc_law_no_box.nd rfl rfl (fun ev=>(@pss_one _ _ _ (@ps_ret _ _ _ _ (@pe_cmpR _ _ _ _ _ _ _ _ (op_eqD (K:=K) hr.units) (@pe_callE _ _ _ _ _ _ _ _ _ _ _ _ (ev) (ok_law_kind T) (RoomH.mark (hr.toH (by decide)) _) rfl rfl T.m_law_kind T.F_law_kind.kp T.b_law_kind (@pa_cons _ _ _ _ _ (pv 1) pa_nil (by rfl)) (by decide) (by rfl) (by rfl)) (@pe_tup _ _ _ _ _ (@pa_cons _ _ _ _ _ pe_int pa_nil (by rfl))) (nomark _))))) ph_never)) (@pss_one _ _ _ (@ps_ret _ _ _ _ pe_bl))),?_⟩
 and_intros
 intro a dx ha hdx ne
 have sm:Same H (upd (upd H dx (.own a)) a (.ins ad.c_Box dx [])):=(same_new hdx _).trans (same_new (by rw [upd_ne (Ne.symm ne)];exact ha) _)
 refine ⟨a,ad.c_Box,dx,x,rfl,upd_same,T.cl_Box,T.na_Box_hands,T.na_Box_bundles,wx.same sm,.inr ⟨no,?_⟩⟩
 generalize upd (upd H dx (.own a)) a (.ins ad.c_Box dx [])=H1 at sm ⊢
 refine ⟨true,T.s_NoWay_PollError,?_⟩
 rw [if_pos rfl]
 intro e he
 have se:Same H1 (upd H1 e (hoX e (.ref ad.c_NoWay) none)):=same_new he _
 have ee:(upd H1 e (hoX e (.ref ad.c_NoWay) none)) e=some (hoX e (.ref ad.c_NoWay) none):=upd_same
 generalize upd H1 e (hoX e (.ref ad.c_NoWay) none)=HE at se ee ⊢
 and_intros
 refine ⟨0,_,rfl,rfl,ee,fun t HF sf et=>?_⟩
 and_intros
 refine ⟨(by show 1<=sizeLine;decide),fun t2 ht2=>?_⟩
 have s2:=same_new ht2 (.tup [V.int 0])
 refine ⟨.tuple ([(0:Int)].map .int),.tuple ([(0:Int)].map .int),.tup (SqT.of (s2 _ _ et)) (.ints [(0:Int)]),.tup (SqT.of upd_same) (.ints [(0:Int)]),(shape_ints _).1,(shape_ints _).1,?_⟩
 rw [eqd1]
 exact q _ (((sm.trans se).trans sf).trans s2)
theorem ok_law_no_bundle (T:Tx K mg ad):FnOk P w K mg base CX0 5 ad.f_law_no_bundle ad.d_law_no_bundle ["_law_box","_law_k","_law_way"] (spNoBun K ad.c_Box):=by
 refine T.F_law_no_bundle.ok sc_law_no_bundle (fun vs H Q E h=>?_) (fun cdv A outer s H vs Q E hr h=>?_)
 ·obtain ⟨b,L,n,bs,x,w',rfl,_⟩:=h
  rfl
 obtain ⟨b,L,n,bs,x,w',rfl,ib,no,q⟩:=h
 refine ⟨_,(@pss_cons _ _ _ _ _ (ps_try ⟨rfl,rfl,rfl⟩ (fun _ _=>(@pss_one _ _ _ (@ps_if _ _ _ _ _ _ _ _ (@pt_cmpR _ _ _ _ _ _ _ _ op_eq (pv 2) pe_int (nomark _)) (@pss_one _ _ _ (@ps_expr _ _ _ _ (pe_methW ⟨rfl,rfl,rfl⟩ (pv 0) T.cl_Box T.me_Box_lines_at (ok_Box_lines_at T) (hr.mono (by decide)) T.b_Box_lines_at .nil (@pa_cons _ _ _ _ _ (pv 1) pa_nil (by rfl))) (by rfl))) (@pss_one _ _ _ (@ps_if _ _ _ _ _ _ _ _ (@pt_cmpR _ _ _ _ _ _ _ _ op_eq (pv 2) pe_int (nomark _)) (@pss_one _ _ _ (@ps_expr _ _ _ _ (pe_methW ⟨rfl,rfl,rfl⟩ (pv 0) T.cl_Box T.me_Box_sheet_at (ok_Box_sheet_at T) (hr.mono (by decide)) T.b_Box_sheet_at .nil (@pa_cons _ _ _ _ _ (pv 1) pa_nil (by rfl))) (by rfl))) (@pss_one _ _ _ (@ps_expr _ _ _ _ (pe_methW ⟨rfl,rfl,rfl⟩ (pv 0) T.cl_Box T.me_Box_seal_at (ok_Box_seal_at T) (hr.mono (by decide)) T.b_Box_seal_at .nil (@pa_cons _ _ _ _ _ (pv 1) pa_nil (by rfl))) (by rfl)))))))) (ph_as (i:=3) ⟨rfl,rfl,rfl⟩ T.h_PollError rfl T.m_PollError sc_law_no_bundle.nd rfl rfl (fun ev=>(@pss_one _ _ _ (@ps_ret _ _ _ _ (@pe_cmpR _ _ _ _ _ _ _ _ (op_eqD (K:=K) hr.units) (@pe_callE _ _ _ _ _ _ _ _ _ _ _ _ (ev) (ok_law_kind T) (RoomH.mark (hr.toH (by decide)) _) rfl rfl T.m_law_kind T.F_law_kind.kp T.b_law_kind (@pa_cons _ _ _ _ _ (pv 3) pa_nil (by rfl)) (by decide) (by rfl) (by rfl)) (@pe_tup _ _ _ _ _ (@pa_cons _ _ _ _ _ pe_int pa_nil (by rfl))) (nomark _))))) ph_never)) (@pss_one _ _ _ (@ps_ret _ _ _ _ pe_bl))),?_⟩
 obtain ⟨dx,hb⟩:=ib.at_
 and_intros
 refine ite2 (fun _=>?_) (fun _=>?_)
 rotate_left
 and_intros
 refine ite2 (fun _=>?_) (fun _=>?_)
 all_goals
  and_intros
  refine ⟨b,dx,_,rfl,hb,rfl,?_⟩
  and_intros
  refine ⟨b,L,n,bs,x,rfl,ib,.inr ⟨no,?_⟩⟩
  refine ⟨true,T.s_NoBundle_PollError,?_⟩
  rw [if_pos rfl]
  intro e he
  have se:Same H (upd H e (hoX e (.ref ad.c_NoBundle) none)):=same_new he _
  have ee:(upd H e (hoX e (.ref ad.c_NoBundle) none)) e=some (hoX e (.ref ad.c_NoBundle) none):=upd_same
  generalize upd H e (hoX e (.ref ad.c_NoBundle) none)=HE at se ee ⊢
  and_intros
  refine ⟨3,_,rfl,rfl,ee,fun t HF sf et=>?_⟩
  and_intros
  refine ⟨(by show 1<=sizeLine;decide),fun t2 ht2=>?_⟩
  have s2:=same_new ht2 (.tup [V.int 3])
  refine ⟨.tuple ([(3:Int)].map .int),.tuple ([(3:Int)].map .int),.tup (SqT.of (s2 _ _ et)) (.ints [(3:Int)]),.tup (SqT.of upd_same) (.ints [(3:Int)]),(shape_ints _).1,(shape_ints _).1,?_⟩
  rw [eqd1]
  exact q _ ((se.trans sf).trans s2)
theorem ok_Box_take (T:Tx K mg ad):FnOk P w K mg base (CX1 P w) 6 ad.f_Box_take ad.d_Box_take ["self","codes","seal"] (spTakeX ad.c_Box ad.c_Torn ad.c_NoBallot):=by
 refine T.F_Box_take.okX sc_Box_take (fun vs H Q E h=>?_) (fun cdv A outer s H vs Q E hr h=>?_)
 ·obtain ⟨b,L,n,bs,c,r,cs,y0,y1,y2,y3,rfl,_⟩:=h
  rfl
 obtain ⟨b,L,n,bs,c,r,cs,y0,y1,y2,y3,rfl,ib,b900,n12,hc,hr',sz,c100,q⟩:=h
 refine ⟨_,(@pss_cons _ _ _ _ _ (@ps_set _ _ (3) _ _ _ _ sc_Box_take.nd rfl (Or.inl rfl) (@pe_callW _ _ _ _ _ _ _ _ _ _ _ _ _ _ _ ⟨rfl,rfl,rfl⟩ (ok_mended T) (hr.mono (by decide)) rfl T.m_mended T.F_mended.kp T.b_mended .nil (@pa_cons _ _ _ _ _ (pv 1) (@pa_cons _ _ _ _ _ (pv 2) pa_nil (by rfl)) (by rfl)) (by decide) (by rfl) (by rfl)) (by rfl) (by first | exact .inl rfl | exact .inr rfl | assumption)) (@pss_cons _ _ _ _ _ (ps_setCW (j:=4) (fsc:=defScope s_Box_take) (N:=["self","codes","seal","told","lines"]) (Nc:=["self","codes","seal","told","lines","code"]) ⟨rfl,rfl,rfl⟩ rfl rfl ⟨rfl,by decide +kernel,by decide +kernel,rfl,by decide +kernel,rfl,by decide +kernel,rfl,by decide +kernel⟩ rfl sc_Box_take.nd rfl rfl (pi_list (@pe_ix _ _ _ _ _ _ _ ix_tup (pv 3) pe_int (fun _ _=>rfl))) (fun _ _ _ _=>pif_nil) (fun _ _ _ _=>(@pe_callWC _ _ _ _ _ _ _ _ _ _ _ _ _ _ _ (ok_line_of T) (hr.mono (by decide)) rfl T.m_line_of T.F_line_of.kp T.b_line_of .nil (@pa_cons _ _ _ _ _ (pv 5) (@pa_cons _ _ _ _ _ (pe_fldK K (pv 0) rfl) pa_nil (by rfl)) (by rfl)) (by decide) (by rfl) (by rfl))) rfl) (@pss_cons _ _ _ _ _ (@ps_expr _ _ _ _ (pe_bm PySem.F.plainAttrs_list PySem.F.slot_list_append PySem.F.type_list_append mt_append (pe_fld (pv 0) rfl) (@pa_cons _ _ _ _ _ (pv 4) pa_nil (by rfl))) (by rfl)) (@pss_one _ _ _ (@ps_ret _ _ _ _ (@pe_tup _ _ _ _ _ (@pa_cons _ _ _ _ _ (@pe_op _ _ _ _ _ _ _ _ op_sub (pe_meth0 (pv 0) T.cl_Box T.me_Box_many (ok_Box_many T) (hr.mono (by decide)) T.b_Box_many .nil pass0) pe_int) (@pa_cons _ _ _ _ _ (@pe_ix _ _ _ _ _ _ _ ix_tup (pv 3) pe_int (fun _ _=>rfl)) pa_nil (by rfl)) (by rfl)))))))),?_⟩
 have ib':=ib
 obtain ⟨⟨dx,hb⟩,hL,hx,hn⟩:=ib'
 and_intros
 rcases q with ⟨torn,q⟩ | ⟨es,pl,p,ds,tl,md,ees,ok,e100,q⟩
 ·exact ⟨c,r,cs,y0,y1,y2,y3,rfl,hc,hr',sz,c100,.inr ⟨torn,q⟩⟩
 refine ⟨c,r,cs,y0,y1,y2,y3,rfl,hc,hr',sz,c100,.inl ⟨es,pl,md,fun a t H1 ha s1 ea et=>?_⟩⟩
 have lds:(codesN n ds).length=ds.length:=codes_len n ds
 and_intros
 refine ⟨⟨_,SqL.of ea⟩,?_⟩
 refine comp_list (xs:=es.map V.int) (by rw [List.length_map];exact small900 (by omega)) (fun D i ys H'=>∃ls:Ls,ys=vls ls/\ls.length=i/\H' D=some (.lst ys)/\Same H1 H'/\GoodL H' ls/\dsOf ls=ds.take i/\i<=ds.length) (fun D hD=>⟨[],rfl,rfl,upd_same,same_new hD _,(fun _ m=>nomatch m),rfl,Nat.zero_le _⟩) (fun D i ys H' ⟨ls,f1,f2,f3,_⟩=>⟨f3,by rw [f1,vls_len,f2];exact Nat.le_refl _⟩) (fun D i ys H' hD ⟨_,_,_,_,f4,_⟩=>SqL.of (f4 _ _ ea)) ?_ ?_
 ·rintro D i y ys H' K1 K2 hD hy ⟨ls,rfl,f2,f3,f4,f5,f6,f7⟩ k1 k2
  obtain ⟨z,hz,rfl⟩:=int_at hy
  have sH:=s1.trans f4
  refine yes (ifT rfl ?_)
  and_intros
  refine ⟨b,_,dx,_,_,rfl,sH _ _ hb,T.cl_Box,T.na_Box_hands,rfl,?_⟩
  by_cases il:i < ds.length
  ·rw [ees,List.getElem?_append_left (by omega)] at hz
   unfold codesN at hz
   rw [List.getElem?_map] at hz
   obtain ⟨d,ed,rfl⟩:=Option.map_eq_some_iff.mp hz
   obtain ⟨_,d1,d9,okd⟩:=ok d (List.mem_of_getElem? ed)
   obtain ⟨rs,m,er,ets,ln,gp,r12,_⟩:=okd.ranks
   refine ⟨_,n,rfl,n12,.inr ⟨d.2,rs,m,(by rw [er]),ln,r12,d1,d9,gp,fun p' t' H5 s5 e5 e6=>?_⟩⟩
   have D5:=s5 _ _ f3
   refine k1 _ _ D5 ⟨ls++[(p',t',d.1,d.2)],by rw [vls_append];rfl,by rw [List.length_append,f2];rfl,upd_same,same_upd (f4.trans s5) hD,GoodL.upd D5 ((f5.same s5).append fun q m=>?_),?_,il⟩
   ·rw [List.mem_singleton.mp m]
    exact ⟨e5,by rw [show d.1=tiersOf rs from ets];exact e6⟩
   ·rw [dsOf_append,f6,List.take_succ,ed]
    rfl
  ·rcases q with ⟨rfl,_,_⟩ | ⟨x,rest,rfl,bad,q⟩
   ·have:=(List.getElem?_eq_some_iff.mp hz).1
    rw [ees,List.append_nil,lds] at this
    exact absurd this il
   ·have i0:i=ds.length:=by omega
    rw [ees,List.getElem?_append_right (by omega),i0,lds,Nat.sub_self] at hz
    obtain rfl:=Option.some.inj hz
    exact ⟨_,n,rfl,n12,.inl ⟨.inr (by obtain ⟨w',v',e',r'⟩:=bad;exact ⟨w',v',congrArg V.int e',r'⟩),fun H5 s5=>q H5 (sH.trans s5)⟩⟩
 ·rintro D ys H' hD ⟨ls,rfl,f2,f3,f4,f5,f6,f7⟩
  rw [List.length_map,ees,List.length_append,lds] at f7
  rcases q with ⟨rfl,rfl,q⟩ | ⟨x,rest,rfl,_,_⟩
  ·rw [List.length_map,ees,List.append_nil,lds,List.take_length] at f6
   have sH:=s1.trans f4
   have DL:D≠L:=fun z=>by rw [z,s1 _ _ hL] at hD;cases hD
   have hDH:=none_of s1 hD
   and_intros
   refine ⟨b,_,dx,_,_,rfl,sH _ _ hb,T.cl_Box,T.na_Box_bundles,rfl,?_⟩
   refine ⟨.inl ⟨rfl,_,SqL.of (sH _ _ hL)⟩,?_⟩
   and_intros
   refine ⟨L,_,_,rfl,rfl,sH _ _ hL,(by rw [List.length_map];exact small1000 (by omega)),?_⟩
   have gL:=off_put (o:=.lst ((bs.map fun x=>V.ref x.1)++[V.ref D])) ((off_le H L).trans sH)
   have eL:(upd H' L (.lst ((bs.map fun x=>V.ref x.1)++[V.ref D]))) L=some (.lst ((bs++[(D,ls)]).map fun x=>V.ref x.1)):=by rw [upd_same,List.map_append];rfl
   have eD:(upd H' L (.lst ((bs.map fun x=>V.ref x.1)++[V.ref D]))) D=some (.lst (vls ls)):=by rw [upd_ne DL];exact f3
   have eG:GoodL (upd H' L (.lst ((bs.map fun x=>V.ref x.1)++[V.ref D]))) ls:=f5.upd (sH _ _ hL)
   have et':(upd H' L (.lst ((bs.map fun x=>V.ref x.1)++[V.ref D]))) t=some (.tup [.ref a,.int 0]):=by rw [upd_ne (ne_of (f4 _ _ et) (sH _ _ hL) (fun z=>nomatch z))];exact f4 _ _ et
   generalize upd H' L (.lst ((bs.map fun x=>V.ref x.1)++[V.ref D]))=H6 at gL eL eD eG et' ⊢
   have bL:b≠L:=fun z=>by rw [z,hL] at hb;cases hb
   have hb6:=gL _ _ (off_at hb bL)
   have ib6:IsB ad.c_Box H6 b L n (bs++[(D,ls)]):=⟨⟨dx,hb6⟩,eL,fun x m=>by
    rcases List.mem_append.mp m with m | m
    ·refine ⟨gL _ _ (off_at (hx x m).1 (hn x m)),fun q qm=>?_⟩
     have g:=(hx x m).2 q qm
     exact ⟨gL _ _ (off_at g.1 (ne_of g.1 hL (fun z=>nomatch z))),gL _ _ (off_at g.2 (ne_of g.2 hL (fun z=>nomatch z)))⟩
    ·rw [List.mem_singleton.mp m]
     exact ⟨eD,eG⟩,fun x m=>by
    rcases List.mem_append.mp m with m | m
    ·exact hn x m
    ·rw [List.mem_singleton.mp m]
     exact DL⟩
   and_intros
   refine ⟨b,dx,_,rfl,hb6,rfl,?_⟩
   refine ⟨b,L,n,_,rfl,ib6,?_⟩
   and_intros
   have e1:(((bs++[(D,ls)]).length:Nat):Int) - 1=(bs.length:Nat):=by rw [List.length_append];show ((bs.length+1:Nat):Int) - 1=_;omega
   dsimp only
   rw [e1]
   refine ⟨(by show 2<=sizeLine;decide),fun t2 ht2=>?_⟩
   have st:=same_new ht2 (.tup [V.int (bs.length:Nat),V.int 0])
   exact q D t2 ls _ hDH (gL.trans st) (st _ _ eL) (st _ _ eD) (eG.same st) f6 upd_same
  ·rw [List.length_cons] at f7
   omega
theorem ok_law_untaken (T:Tx K mg ad):FnOk P w K mg base CX0 7 ad.f_law_untaken ad.d_law_untaken ["_law_box","_law_codes","_law_seal_here"] (spUntaken ad.c_Box):=by
 refine T.F_law_untaken.ok sc_law_untaken (fun vs H Q E h=>?_) (fun cdv A outer s H vs Q E hr h=>?_)
 ·obtain ⟨b,L,n,bs,c,r,cs,y0,y1,y2,y3,k,rfl,_⟩:=h
  rfl
 obtain ⟨b,L,n,bs,c,r,cs,y0,y1,y2,y3,k,rfl,ib,b900,n12,hc,hr',sz,c100,nt,q⟩:=h
 refine ⟨_,(@pss_cons _ _ _ _ _ (@ps_set _ _ (3) _ _ _ _ sc_law_untaken.nd rfl (Or.inl rfl) (@pe_callTy _ _ _ _ _ _ _ _ _ call_list_of (by rfl) T.z_list PyProof.Rows.boot_list (@pa_cons _ _ _ _ _ (pv 1) pa_nil (by rfl)) (by decide) (by decide) (by rfl) (by rfl)) (by rfl) (by first | exact .inl rfl | exact .inr rfl | assumption)) (@pss_cons _ _ _ _ _ (ps_try ⟨rfl,rfl,rfl⟩ (fun _ _=>(@pss_one _ _ _ (@ps_expr _ _ _ _ (pe_methW ⟨rfl,rfl,rfl⟩ (pv 0) T.cl_Box T.me_Box_take (ok_Box_take T) (hr.mono (by decide)) T.b_Box_take .nil (@pa_cons _ _ _ _ _ (pv 3) (@pa_cons _ _ _ _ _ (pv 2) pa_nil (by rfl)) (by rfl))) (by rfl)))) (ph_as (i:=4) ⟨rfl,rfl,rfl⟩ T.h_PollError rfl T.m_PollError sc_law_untaken.nd rfl rfl (fun ev=>(@pss_one _ _ _ (@ps_if _ _ _ _ _ _ _ _ (@pt_cmpR _ _ _ _ _ _ _ _ (op_eqD (K:=K) hr.units) (pv 3) (pv 1) (nomark _)) (@pss_one _ _ _ (@ps_ret _ _ _ _ (@pe_callE _ _ _ _ _ _ _ _ _ _ _ _ (ev) (ok_law_kind T) (RoomH.mark (hr.toH (by decide)) _) rfl rfl T.m_law_kind T.F_law_kind.kp T.b_law_kind (@pa_cons _ _ _ _ _ (pv 4) pa_nil (by rfl)) (by decide) (by rfl) (by rfl)))) pss_nil))) ph_never)) (@pss_one _ _ _ (@ps_ret _ _ _ _ (@pe_tup _ _ _ _ _ pa_nil))))),?_⟩
 obtain ⟨dx,hb⟩:=ib.at_
 and_intros
 intro h hh
 have s1:=same_new hh (.lst (cs.map V.int))
 have eh:(upd H h (.lst (cs.map V.int))) h=some (.lst (cs.map V.int)):=upd_same
 generalize upd H h (.lst (cs.map V.int))=H1 at s1 eh ⊢
 have hb1:=s1 _ _ hb
 have hc1:=s1 _ _ hc
 and_intros
 refine ⟨b,dx,_,rfl,hb1,rfl,?_⟩
 and_intros
 rcases nt with ⟨rfl,torn⟩ | ⟨rfl,es,pl,p,ds,x,rest,md,ees,ok,e100,bad⟩
 ·refine ⟨b,L,n,bs,h,r,cs,y0,y1,y2,y3,rfl,ib.same s1,b900,n12,eh,s1 _ _ hr',sz,c100,.inl ⟨torn,fun H2 s2=>?_⟩⟩
  refine ⟨true,T.s_Torn_PollError,?_⟩
  rw [if_pos rfl]
  intro e he
  have se:Same H2 (upd H2 e (hoX e (.ref ad.c_Torn) none)):=same_new he _
  have ee:(upd H2 e (hoX e (.ref ad.c_Torn) none)) e=some (hoX e (.ref ad.c_Torn) none):=upd_same
  generalize upd H2 e (hoX e (.ref ad.c_Torn) none)=HE at se ee ⊢
  and_intros
  refine ⟨.list (cs.map .int),.list (cs.map .int),.lst (SqL.of ((s2.trans se) _ _ eh)) (.ints _),.lst (SqL.of ((s2.trans se) _ _ hc1)) (.ints _),(shape_ints _).2,(shape_ints _).2,?_⟩
  rw [show PyData.eqv (.list (cs.map .int)) (.list (cs.map .int))=true from by show PyData.eqvAll _ _=true;rw [eqv_ints];exact decide_eq_true rfl]
  and_intros
  exact ⟨1,_,rfl,rfl,ee,fun t HF sf et=>q t HF (((s1.trans s2).trans se).trans sf) et⟩
 ·refine ⟨b,L,n,bs,h,r,cs,y0,y1,y2,y3,rfl,ib.same s1,b900,n12,eh,s1 _ _ hr',sz,c100,.inr ⟨es,pl,p,ds,x :: rest,md,ees,ok,e100,.inr ⟨x,rest,rfl,bad,fun H2 s2=>?_⟩⟩⟩
  refine ⟨true,T.s_NoBallot_PollError,?_⟩
  rw [if_pos rfl]
  intro e he
  have se:Same H2 (upd H2 e (hoX e (.ref ad.c_NoBallot) none)):=same_new he _
  have ee:(upd H2 e (hoX e (.ref ad.c_NoBallot) none)) e=some (hoX e (.ref ad.c_NoBallot) none):=upd_same
  generalize upd H2 e (hoX e (.ref ad.c_NoBallot) none)=HE at se ee ⊢
  and_intros
  refine ⟨.list (cs.map .int),.list (cs.map .int),.lst (SqL.of ((s2.trans se) _ _ eh)) (.ints _),.lst (SqL.of ((s2.trans se) _ _ hc1)) (.ints _),(shape_ints _).2,(shape_ints _).2,?_⟩
  rw [show PyData.eqv (.list (cs.map .int)) (.list (cs.map .int))=true from by show PyData.eqvAll _ _=true;rw [eqv_ints];exact decide_eq_true rfl]
  and_intros
  exact ⟨2,_,rfl,rfl,ee,fun t HF sf et=>q t HF (((s1.trans s2).trans se).trans sf) et⟩
theorem ok_law_refusals (T:Tx K mg ad):FnOk P w K mg base CX0 8 ad.f_law_refusals ad.d_law_refusals ["_law_box","_law_codes","_law_hands","_law_number"] (spRefus ad.c_Box):=by
 refine T.F_law_refusals.ok sc_law_refusals (fun vs H Q E h=>?_) (fun cdv A outer s H vs Q E hr h=>?_)
 ·obtain ⟨b,L,n,bs,c,p,ds,z,rfl,_⟩:=h
  rfl
 obtain ⟨b,L,n,bs,c,p,ds,z,rfl,ib,b900,n1,n12,hc,ok,d2,d60,z0,z1,q⟩:=h
 refine ⟨_,(@pss_cons _ _ _ _ _ (@ps_set _ _ (4) _ _ _ _ sc_law_refusals.nd rfl (Or.inl rfl) (@pe_op _ _ _ _ _ _ _ _ op_modN (@pe_op _ _ _ _ _ _ _ _ op_fdivB (pv 3) pe_int) (@pe_op _ _ _ _ _ _ _ _ op_add (@pe_callB _ _ _ _ _ _ _ _ _ call_len_seq (by rfl) T.z_len PySem.boot_len (@pa_cons _ _ _ _ _ (pv 1) pa_nil (by rfl)) (by decide) (by decide) (by rfl) (by rfl)) pe_int)) (by rfl) (by first | exact .inl rfl | exact .inr rfl | assumption)) (@pss_cons _ _ _ _ _ (@ps_set _ _ (5) _ _ _ _ sc_law_refusals.nd rfl (Or.inl rfl) (@pe_op _ _ _ _ _ _ _ _ op_cat (@pe_op _ _ _ _ _ _ _ _ op_cat (pe_slice sl_list (pv 1) po_none (po_some (pv 4))) (@pe_lst _ _ _ _ (@pa_cons _ _ _ _ _ (@pe_call _ _ _ _ _ _ _ _ _ _ _ _ _ _ _ _ (ok_law_no_line T) (hr.mono (by decide)) rfl T.m_law_no_line T.F_law_no_line.kp T.b_law_no_line .nil pass0 (@pa_cons _ _ _ _ _ (pv 2) (@pa_cons _ _ _ _ _ (@pe_op _ _ _ _ _ _ _ _ op_fdivB (pv 3) pe_int) pa_nil (by rfl)) (by rfl)) (by decide) (by rfl) (by rfl)) pa_nil (by rfl)))) (pe_slice sl_list (pv 1) (po_some (pv 4)) po_none)) (by rfl) (by first | exact .inl rfl | exact .inr rfl | assumption)) (@pss_cons _ _ _ _ _ (@ps_set _ _ (6) _ _ _ _ sc_law_refusals.nd rfl (Or.inl rfl) (@pe_op _ _ _ _ _ _ _ _ op_modN (@pe_op _ _ _ _ _ _ _ _ op_fdivB (pv 3) pe_int) (@pe_callB _ _ _ _ _ _ _ _ _ call_len_seq (by rfl) T.z_len PySem.boot_len (@pa_cons _ _ _ _ _ (pv 5) pa_nil (by rfl)) (by decide) (by decide) (by rfl) (by rfl))) (by rfl) (by first | exact .inl rfl | exact .inr rfl | assumption)) (@pss_cons _ _ _ _ _ (@ps_set _ _ (7) _ _ _ _ sc_law_refusals.nd rfl (Or.inl rfl) (@pe_op _ _ _ _ _ _ _ _ op_modN (@pe_op _ _ _ _ _ _ _ _ op_add (@pe_op _ _ _ _ _ _ _ _ op_add (pv 6) pe_int) (@pe_op _ _ _ _ _ _ _ _ op_modN (@pe_op _ _ _ _ _ _ _ _ op_fdivB (pv 3) pe_int) (@pe_op _ _ _ _ _ _ _ _ op_sub (@pe_callB _ _ _ _ _ _ _ _ _ call_len_seq (by rfl) T.z_len PySem.boot_len (@pa_cons _ _ _ _ _ (pv 5) pa_nil (by rfl)) (by decide) (by decide) (by rfl) (by rfl)) pe_int))) (@pe_callB _ _ _ _ _ _ _ _ _ call_len_seq (by rfl) T.z_len PySem.boot_len (@pa_cons _ _ _ _ _ (pv 5) pa_nil (by rfl)) (by decide) (by decide) (by rfl) (by rfl))) (by rfl) (by first | exact .inl rfl | exact .inr rfl | assumption)) (@pss_cons _ _ _ _ _ (@ps_set _ _ (8) _ _ _ _ sc_law_refusals.nd rfl (Or.inl rfl) (@pe_callTy _ _ _ _ _ _ _ _ _ call_list_of (by rfl) T.z_list PyProof.Rows.boot_list (@pa_cons _ _ _ _ _ (pv 1) pa_nil (by rfl)) (by decide) (by decide) (by rfl) (by rfl)) (by rfl) (by first | exact .inl rfl | exact .inr rfl | assumption)) (@pss_cons _ _ _ _ _ (@ps_if _ _ _ _ _ _ _ _ (@pt_cmpR _ _ _ _ _ _ _ _ op_gt (@pe_callB _ _ _ _ _ _ _ _ _ call_len_seq (by rfl) T.z_len PySem.boot_len (@pa_cons _ _ _ _ _ (pv 1) pa_nil (by rfl)) (by decide) (by decide) (by rfl) (by rfl)) pe_int (nomark _)) (@pss_cons _ _ _ _ _ (ps_asg (@pe_op _ _ _ _ _ _ _ _ op_add (@pe_ix _ _ _ _ _ _ _ ix_list (pv 8) (@pe_op _ _ _ _ _ _ _ _ op_modN (pv 6) (@pe_callB _ _ _ _ _ _ _ _ _ call_len_seq (by rfl) T.z_len PySem.boot_len (@pa_cons _ _ _ _ _ (pv 1) pa_nil (by rfl)) (by decide) (by decide) (by rfl) (by rfl))) (fun _ _=>rfl)) pe_int) (pg_sub (pv 8) (@pe_op _ _ _ _ _ _ _ _ op_modN (pv 6) (@pe_callB _ _ _ _ _ _ _ _ _ call_len_seq (by rfl) T.z_len PySem.boot_len (@pa_cons _ _ _ _ _ (pv 1) pa_nil (by rfl)) (by decide) (by decide) (by rfl) (by rfl))) set_list)) (@pss_one _ _ _ (ps_asg (@pe_op _ _ _ _ _ _ _ _ op_add (@pe_ix _ _ _ _ _ _ _ ix_list (pv 8) (@pe_op _ _ _ _ _ _ _ _ op_modN (@pe_op _ _ _ _ _ _ _ _ op_add (pv 6) pe_int) (@pe_callB _ _ _ _ _ _ _ _ _ call_len_seq (by rfl) T.z_len PySem.boot_len (@pa_cons _ _ _ _ _ (pv 1) pa_nil (by rfl)) (by decide) (by decide) (by rfl) (by rfl))) (fun _ _=>rfl)) pe_int) (pg_sub (pv 8) (@pe_op _ _ _ _ _ _ _ _ op_modN (@pe_op _ _ _ _ _ _ _ _ op_add (pv 6) pe_int) (@pe_callB _ _ _ _ _ _ _ _ _ call_len_seq (by rfl) T.z_len PySem.boot_len (@pa_cons _ _ _ _ _ (pv 1) pa_nil (by rfl)) (by decide) (by decide) (by rfl) (by rfl))) set_list)))) pss_nil) (@pss_cons _ _ _ _ _ (@ps_if _ _ _ _ _ _ _ _ (PW.pt (@pw_and _ _ _ _ _ _ _ (@pt_cmpR _ _ _ _ _ _ _ _ op_gt (@pe_callB _ _ _ _ _ _ _ _ _ call_len_seq (by rfl) T.z_len PySem.boot_len (@pa_cons _ _ _ _ _ (pv 1) pa_nil (by rfl)) (by decide) (by decide) (by rfl) (by rfl)) pe_int (nomark _)) (@pw_and1 _ _ _ _ (@pt_cmpR _ _ _ _ _ _ _ _ op_eq (@pe_op _ _ _ _ _ _ _ _ op_modN (pv 3) pe_int) pe_int (nomark _))))) (@pss_one _ _ _ (@ps_ret _ _ _ _ (@pe_cmpR _ _ _ _ _ _ _ _ (op_eqD (K:=K) hr.units) (@pe_call _ _ _ _ _ _ _ _ _ _ _ _ _ _ _ _ (ok_law_untaken T) (hr.mono (by decide)) rfl T.m_law_untaken T.F_law_untaken.kp T.b_law_untaken .nil pass0 (@pa_cons _ _ _ _ _ (pv 0) (@pa_cons _ _ _ _ _ (pv 8) (@pa_cons _ _ _ _ _ (@pe_call _ _ _ _ _ _ _ _ _ _ _ _ _ _ _ _ (ok_law_seal T) (hr.mono (by decide)) rfl T.m_law_seal T.F_law_seal.kp T.b_law_seal .nil pass0 (@pa_cons _ _ _ _ _ (pv 1) pa_nil (by rfl)) (by decide) (by rfl) (by rfl)) pa_nil (by rfl)) (by rfl)) (by rfl)) (by decide) (by rfl) (by rfl)) (@pe_tup _ _ _ _ _ (@pa_cons _ _ _ _ _ pe_int pa_nil (by rfl))) (nomark _)))) pss_nil) (@pss_cons _ _ _ _ _ (@ps_set _ _ (9) _ _ _ _ sc_law_refusals.nd rfl (Or.inl rfl) (@pe_callTy _ _ _ _ _ _ _ _ _ call_list_of (by rfl) T.z_list PyProof.Rows.boot_list (@pa_cons _ _ _ _ _ (pv 5) pa_nil (by rfl)) (by decide) (by decide) (by rfl) (by rfl)) (by rfl) (by first | exact .inl rfl | exact .inr rfl | assumption)) (@pss_cons _ _ _ _ _ (ps_asg (@pe_op _ _ _ _ _ _ _ _ op_add (@pe_ix _ _ _ _ _ _ _ ix_list (pv 9) (pv 6) (fun _ _=>rfl)) pe_int) (pg_sub (pv 9) (pv 6) set_list)) (@pss_cons _ _ _ _ _ (@ps_if _ _ _ _ _ _ _ _ (@pt_cmpR _ _ _ _ _ _ _ _ op_eq (@pe_op _ _ _ _ _ _ _ _ op_modN (pv 3) pe_int) pe_int (nomark _)) (@pss_one _ _ _ (@ps_ret _ _ _ _ (@pe_cmpR _ _ _ _ _ _ _ _ (op_eqD (K:=K) hr.units) (@pe_call _ _ _ _ _ _ _ _ _ _ _ _ _ _ _ _ (ok_law_untaken T) (hr.mono (by decide)) rfl T.m_law_untaken T.F_law_untaken.kp T.b_law_untaken .nil pass0 (@pa_cons _ _ _ _ _ (pv 0) (@pa_cons _ _ _ _ _ (pv 9) (@pa_cons _ _ _ _ _ (@pe_call _ _ _ _ _ _ _ _ _ _ _ _ _ _ _ _ (ok_law_seal T) (hr.mono (by decide)) rfl T.m_law_seal T.F_law_seal.kp T.b_law_seal .nil pass0 (@pa_cons _ _ _ _ _ (pv 5) pa_nil (by rfl)) (by decide) (by rfl) (by rfl)) pa_nil (by rfl)) (by rfl)) (by rfl)) (by decide) (by rfl) (by rfl)) (@pe_tup _ _ _ _ _ (@pa_cons _ _ _ _ _ pe_int pa_nil (by rfl))) (nomark _)))) pss_nil) (@pss_cons _ _ _ _ _ (ps_asg (@pe_op _ _ _ _ _ _ _ _ op_sub (@pe_ix _ _ _ _ _ _ _ ix_list (pv 9) (pv 7) (fun _ _=>rfl)) pe_int) (pg_sub (pv 9) (pv 7) set_list)) (@pss_cons _ _ _ _ _ (@ps_if _ _ _ _ _ _ _ _ (@pt_cmpR _ _ _ _ _ _ _ _ op_eq (@pe_op _ _ _ _ _ _ _ _ op_modN (pv 3) pe_int) pe_int (nomark _)) (@pss_one _ _ _ (@ps_ret _ _ _ _ (@pe_cmpR _ _ _ _ _ _ _ _ (op_eqD (K:=K) hr.units) (@pe_call _ _ _ _ _ _ _ _ _ _ _ _ _ _ _ _ (ok_law_untaken T) (hr.mono (by decide)) rfl T.m_law_untaken T.F_law_untaken.kp T.b_law_untaken .nil pass0 (@pa_cons _ _ _ _ _ (pv 0) (@pa_cons _ _ _ _ _ (pv 9) (@pa_cons _ _ _ _ _ (@pe_call _ _ _ _ _ _ _ _ _ _ _ _ _ _ _ _ (ok_law_seal T) (hr.mono (by decide)) rfl T.m_law_seal T.F_law_seal.kp T.b_law_seal .nil pass0 (@pa_cons _ _ _ _ _ (pv 5) pa_nil (by rfl)) (by decide) (by rfl) (by rfl)) pa_nil (by rfl)) (by rfl)) (by rfl)) (by decide) (by rfl) (by rfl)) (@pe_tup _ _ _ _ _ (@pa_cons _ _ _ _ _ pe_int pa_nil (by rfl))) (nomark _)))) pss_nil) (@pss_one _ _ _ (@ps_ret _ _ _ _ (@pe_cmpR _ _ _ _ _ _ _ _ (op_eqD (K:=K) hr.units) (@pe_call _ _ _ _ _ _ _ _ _ _ _ _ _ _ _ _ (ok_law_untaken T) (hr.mono (by decide)) rfl T.m_law_untaken T.F_law_untaken.kp T.b_law_untaken .nil pass0 (@pa_cons _ _ _ _ _ (pv 0) (@pa_cons _ _ _ _ _ (pv 5) (@pa_cons _ _ _ _ _ (@pe_call _ _ _ _ _ _ _ _ _ _ _ _ _ _ _ _ (ok_law_seal T) (hr.mono (by decide)) rfl T.m_law_seal T.F_law_seal.kp T.b_law_seal .nil pass0 (@pa_cons _ _ _ _ _ (pv 5) pa_nil (by rfl)) (by decide) (by rfl) (by rfl)) pa_nil (by rfl)) (by rfl)) (by rfl)) (by decide) (by rfl) (by rfl)) (@pe_tup _ _ _ _ _ (@pa_cons _ _ _ _ _ pe_int pa_nil (by rfl))) (nomark _)))))))))))))))),?_⟩
 have szz:=sz18 z0 z1
 have z2:=codes_sz2 n12 ok
 have lcs:=codes_len n ds
 have n2:∀{cs y0 y1 y2 y3 x pl j},BadC x n->Md cs [y0,y1,y2,y3] ((codesN n ds).take j++[x]++(codesN n ds).drop j) pl->NoTake n cs y0 y1 y2 y3 2:=fun bad md=>no_2 ok bad d60 md
 generalize codesN n ds=cs at hc z2 lcs n2
 have lc:(cs.map V.int).length=cs.length:=List.length_map _
 and_intros
 refine ⟨by show ((cs.map V.int).length:Int)+1≠0;omega,?_⟩
 have mj:=fmod_in (z.fdiv 8) (show (0:Int) < ((cs.map V.int).length:Int)+1 by omega)
 obtain ⟨j,hj⟩:∃j:Nat,(z.fdiv 8).fmod (((cs.map V.int).length:Int)+1)=(j:Int):=⟨((z.fdiv 8).fmod (((cs.map V.int).length:Int)+1)).toNat,by omega⟩
 dsimp only
 rw [hj]
 and_intros
 refine ⟨c,_,rfl,SqL.of hc,fun a1 ha1=>?_⟩
 rw [cut_take,<- List.map_take]
 have t1:=same_new ha1 (.lst ((cs.take j).map V.int))
 have g1:(upd H a1 (.lst ((cs.take j).map V.int))) a1=some (.lst ((cs.take j).map V.int)):=upd_same
 generalize upd H a1 (.lst ((cs.take j).map V.int))=H1 at t1 g1 ⊢
 and_intros
 refine ⟨n,_,rfl,n1,n12,szz.fdiv,fun x H2 s2 bad szx=>?_⟩
 refine ⟨(by show 1<=sizeLine;decide),fun a2 ha2=>?_⟩
 have t2:=same_new ha2 (.lst [V.int x])
 have g2:(upd H2 a2 (.lst [V.int x])) a2=some (.lst [V.int x]):=upd_same
 generalize upd H2 a2 (.lst [V.int x])=H3 at t2 g2 ⊢
 have h1:=List.length_take_le j cs
 have h2:(cs.drop j).length=cs.length - j:=List.length_drop
 have h1':(cs.take j).length=min j cs.length:=List.length_take
 refine ⟨a1,a2,_,_,rfl,rfl,(s2.trans t2) _ _ g1,g2,(by rw [List.length_map];exact small1000' (by show (cs.take j).length+1<=999;omega)),fun a3 ha3=>?_⟩
 have t3:=same_new ha3 (.lst ((cs.take j).map V.int++[V.int x]))
 have g3:(upd H3 a3 (.lst ((cs.take j).map V.int++[V.int x]))) a3=some (.lst ((cs.take j).map V.int++[V.int x])):=upd_same
 generalize upd H3 a3 (.lst ((cs.take j).map V.int++[V.int x]))=H4 at t3 g3 ⊢
 have s4:=t1.trans ((s2.trans t2).trans t3)
 and_intros
 refine ⟨c,_,rfl,SqL.of (s4 _ _ hc),fun a4 ha4=>?_⟩
 rw [show cutV (cs.map V.int) (some (j:Int)) none=(cs.drop j).map V.int from (cut_drop (j:=j)).trans (List.map_drop ..).symm]
 have t4:=same_new ha4 (.lst ((cs.drop j).map V.int))
 have g4:(upd H4 a4 (.lst ((cs.drop j).map V.int))) a4=some (.lst ((cs.drop j).map V.int)):=upd_same
 generalize upd H4 a4 (.lst ((cs.drop j).map V.int))=H5 at t4 g4 ⊢
 refine ⟨a3,a4,_,_,rfl,rfl,t4 _ _ g3,g4,(by
  rw [List.length_append,List.length_map,List.length_map]
  exact small1000' (by show (cs.take j).length+1+(cs.drop j).length<=999;omega)),fun nn hnn=>?_⟩
 rw [show (cs.take j).map V.int++[V.int x]++(cs.drop j).map V.int=(cs.take j++[x]++cs.drop j).map V.int by rw [List.map_append,List.map_append];rfl]
 have lN:(cs.take j++[x]++cs.drop j).length=cs.length+1:=by
  rw [List.length_append,List.length_append]
  show (cs.take j).length+1+_=_
  omega
 have zN:∀z∈cs.take j++[x]++cs.drop j,Sz 250 z:=fun z m=>by
  rcases List.mem_append.mp m with m | m
  ·rcases List.mem_append.mp m with m | m
   ·exact (z2 z (List.mem_of_mem_take m)).mono (by decide)
   ·rw [List.mem_singleton.mp m]
    exact szx.mono (by decide)
  ·exact (z2 z (List.mem_of_mem_drop m)).mono (by decide)
 replace n2:=fun {es y0 y1 y2 y3 pl}=>n2 (cs:=es) (y0:=y0) (y1:=y1) (y2:=y2) (y3:=y3) (pl:=pl) (j:=j) bad
 generalize cs.take j++[x]++cs.drop j=ns at lN zN n2 ⊢
 have tN:=same_new hnn (.lst (ns.map V.int))
 have gN:(upd H5 nn (.lst (ns.map V.int))) nn=some (.lst (ns.map V.int)):=upd_same
 generalize upd H5 nn (.lst (ns.map V.int))=H6 at tN gN ⊢
 have s6:=(s4.trans t4).trans tN
 clear g1 g2 g3 g4 t1 t2 t3 t4 tN s2 s4 ha1 ha2 ha3 ha4 h1 h2 h1' hj mj bad szx
 have ln:(ns.map V.int).length=ns.length:=List.length_map _
 have hc6:=s6 _ _ hc
 and_intros
 refine ⟨by show ((ns.map V.int).length:Int)≠0;omega,?_⟩
 have mi:=fmod_in (z.fdiv 512) (show (0:Int) < ((ns.map V.int).length:Int) by omega)
 dsimp only
 generalize hi1:(z.fdiv 512).fmod ((ns.map V.int).length:Int)=w1 at mi ⊢
 obtain ⟨i,rfl⟩:∃i:Nat,w1=(i:Int):=⟨w1.toNat,by omega⟩
 clear hi1
 and_intros
 refine ⟨by show ((ns.map V.int).length:Int) - 1≠0;omega,?_⟩
 have mk:=fmod_in (z.fdiv 7) (show (0:Int) < ((ns.map V.int).length:Int) - 1 by omega)
 and_intros
 refine ⟨by show ((ns.map V.int).length:Int)≠0;omega,?_⟩
 have ro:=rot_ne (n:=((ns.map V.int).length:Int)) (i:=(i:Int)) (k:=1+(z.fdiv 7).fmod (((ns.map V.int).length:Int) - 1)) (by omega) (by omega) (by omega) (by omega)
 rw [<- Int.add_assoc] at ro
 dsimp only
 generalize ((i:Int)+1+(z.fdiv 7).fmod (((ns.map V.int).length:Int) - 1)).fmod ((ns.map V.int).length:Int)=w2 at ro ⊢
 obtain ⟨i2,rfl⟩:∃i:Nat,w2=(i:Int):=⟨w2.toNat,by omega⟩
 clear mk
 and_intros
 intro tl htl
 have t7:=same_new htl (.lst (cs.map V.int))
 have g7:(upd H6 tl (.lst (cs.map V.int))) tl=some (.lst (cs.map V.int)):=upd_same
 generalize upd H6 tl (.lst (cs.map V.int))=H7 at t7 g7 ⊢
 have hc7:=t7 _ _ hc6
 have gN7:=t7 _ _ gN
 and_intros
 refine ifT (decide_eq_true (by show 1 < ((cs.map V.int).length:Int);omega)) ?_
 and_intros
 have c0:((cs.map V.int).length:Int)≠0:=by omega
 refine ⟨c0,?_⟩
 have ma:=fmod_in (i:Int) (show (0:Int) < ((cs.map V.int).length:Int) by omega)
 have mb:=fmod_in ((i:Int)+1) (show (0:Int) < ((cs.map V.int).length:Int) by omega)
 have ab:=rot1 (m:=((cs.map V.int).length:Int)) (i:=(i:Int)) (by omega)
 obtain ⟨a,hA⟩:∃a:Nat,(i:Int).fmod ((cs.map V.int).length:Int)=(a:Int):=⟨((i:Int).fmod ((cs.map V.int).length:Int)).toNat,by omega⟩
 obtain ⟨a',hB⟩:∃a:Nat,((i:Int)+1).fmod ((cs.map V.int).length:Int)=(a:Int):=⟨(((i:Int)+1).fmod ((cs.map V.int).length:Int)).toNat,by omega⟩
 rw [hA,hB] at ab
 rw [hA] at ma
 rw [hB] at mb
 have aa:a≠a':=fun h=>ab (by rw [h])
 obtain ⟨ca,eca⟩:∃v,cs[a]?=some v:=⟨_,List.getElem?_eq_getElem (by omega)⟩
 obtain ⟨cb,ecb⟩:∃v,cs[a']?=some v:=⟨_,List.getElem?_eq_getElem (by omega)⟩
 obtain ⟨v1,ev1⟩:∃v,ns[i]?=some v:=⟨_,List.getElem?_eq_getElem (by omega)⟩
 obtain ⟨v2,ev2⟩:∃v,ns[i2]?=some v:=⟨_,List.getElem?_eq_getElem (by omega)⟩
 have ii:i≠i2:=fun h=>ro.1 (by rw [h])
 have nt1:=no_1 (n:=n) (fun z m=>(z2 z m).mono (by decide)) (by omega) eca ecb aa (show (1:Int)≠0 by decide) (show (13:Int)≠0 by decide) (szd 30) (szd 30)
 have nt2:=no_1 (n:=n) zN (by omega) ev1 ev2 ii (show (5:Int)≠0 by decide) (show (-5:Int)≠0 by decide) (szd 30) (szd 30)
 dsimp only
 rw [hA]
 refine ⟨tl,_,_,_,rfl,rfl,SqL.of g7,atN eca,?_⟩
 and_intros
 refine ⟨c0,?_⟩
 dsimp only
 rw [hA]
 refine ⟨tl,_,_,a,rfl,rfl,g7,ixN_nat (by rw [List.length_map];omega),?_⟩
 have u8:=same_upd (o:=.lst ((cs.map V.int).set a (.int (ca+1)))) t7 htl
 have g8:(upd H7 tl (.lst ((cs.map V.int).set a (.int (ca+1))))) tl=some (.lst ((cs.set a (ca+1)).map V.int)):=by rw [upd_same];simp only [List.map_set]
 generalize upd H7 tl (.lst ((cs.map V.int).set a (.int (ca+1))))=H8 at u8 g8 ⊢
 have hc8:=u8 _ _ hc6
 have e8:(cs.set a (ca+1))[a']?=some cb:=by rw [List.getElem?_set_ne aa];exact ecb
 and_intros
 refine ⟨c0,?_⟩
 dsimp only
 rw [hB]
 refine ⟨tl,_,_,_,rfl,rfl,SqL.of g8,atN e8,?_⟩
 and_intros
 refine ⟨c0,?_⟩
 dsimp only
 rw [hB]
 refine ⟨tl,_,_,a',rfl,rfl,g8,ixN_nat (by rw [List.length_map,List.length_set];omega),?_⟩
 have u9:=same_upd (o:=.lst (((cs.set a (ca+1)).map V.int).set a' (.int (cb+13)))) u8 htl
 have g9:(upd H8 tl (.lst (((cs.set a (ca+1)).map V.int).set a' (.int (cb+13))))) tl=some (.lst (((cs.set a (ca+1)).set a' (cb+13)).map V.int)):=by rw [upd_same];simp only [List.map_set]
 generalize upd H8 tl (.lst (((cs.set a (ca+1)).map V.int).set a' (.int (cb+13))))=H9 at u9 g9 ⊢
 have hc9:=u9 _ _ hc6
 have gN9:=u9 _ _ gN
 have s9:=s6.trans u9
 clear hc7 hc8 gN7 g7 g8 t7 u8
 and_intros
 refine ifT (decide_eq_true (by show 1 < ((cs.map V.int).length:Int);omega)) ?_
 and_intros
 have zc:SzAll cs:=fun z m=>(z2 z m).mono (by decide)
 have zn:SzAll ns:=fun z m=>(zN z m).mono (by decide)
 refine ite2 (fun _=>?_) (fun _=>?_)
 ·and_intros
  refine ⟨c,_,rfl,hc9,zc,by omega,fun r HS hr' ss er=>?_⟩
  refine ⟨b,L,n,bs,tl,r,_,_,_,_,_,1,rfl,ib.same (s9.trans ss),b900,n12,ss _ _ g9,er,nt1.1,(by rw [List.length_set,List.length_set];omega),nt1.2,fun t HF sf et=>?_⟩
  and_intros
  refine ⟨(by show 1<=sizeLine;decide),fun t2 ht2=>?_⟩
  have e2:=same_new ht2 (.tup [V.int 1])
  refine ⟨.tuple ([(1:Int)].map .int),.tuple ([(1:Int)].map .int),.tup (SqT.of (e2 _ _ et)) (.ints [(1:Int)]),.tup (SqT.of upd_same) (.ints [(1:Int)]),(shape_ints _).1,(shape_ints _).1,?_⟩
  rw [eqd1]
  exact q _ (((s9.trans ss).trans sf).trans e2)
 and_intros
 intro bl hbl
 have t10:=same_new hbl (.lst (ns.map V.int))
 have g10:(upd H9 bl (.lst (ns.map V.int))) bl=some (.lst (ns.map V.int)):=upd_same
 generalize upd H9 bl (.lst (ns.map V.int))=H10 at t10 g10 ⊢
 have gN10:=t10 _ _ gN9
 and_intros
 refine ⟨bl,_,_,_,rfl,rfl,SqL.of g10,atN ev1,?_⟩
 and_intros
 refine ⟨bl,_,_,i,rfl,rfl,g10,ixN_nat (by rw [List.length_map];omega),?_⟩
 have u11:=same_upd (o:=.lst ((ns.map V.int).set i (.int (v1+5)))) t10 hbl
 have g11:(upd H10 bl (.lst ((ns.map V.int).set i (.int (v1+5))))) bl=some (.lst ((ns.set i (v1+5)).map V.int)):=by rw [upd_same];simp only [List.map_set]
 generalize upd H10 bl (.lst ((ns.map V.int).set i (.int (v1+5))))=H11 at u11 g11 ⊢
 have gN11:=u11 _ _ gN9
 have s11:=s9.trans u11
 and_intros
 have back:(ns.set i (v1+5)).set i (v1+5+-5)=ns:=by
  rw [List.set_set,show v1+5+-5=v1 by omega]
  exact List.ext_getElem? fun m=>by
   by_cases h:i=m
   ·rw [<- h,List.getElem?_set_self (by omega),ev1]
   ·rw [List.getElem?_set_ne h]
 have at1:(ns.set i (v1+5))[i]?=some (v1+5):=List.getElem?_set_self (by omega)
 refine ite2 (fun _=>?_) (fun _=>?_)
 ·and_intros
  refine ⟨nn,_,rfl,gN11,zn,by omega,fun r HS hr' ss er=>?_⟩
  refine ⟨b,L,n,bs,bl,r,_,_,_,_,_,2,rfl,ib.same (s11.trans ss),b900,n12,ss _ _ g11,er,(sz_set zN ev1 (szd 30)),(by rw [List.length_set];omega),(n2 (.inr ⟨i,v1+5,-5,at1,by decide,szd 300,by rw [back];rfl,back.symm,rfl⟩)),fun t HF sf et=>?_⟩
  and_intros
  refine ⟨(by show 1<=sizeLine;decide),fun t2 ht2=>?_⟩
  have e2:=same_new ht2 (.tup [V.int 2])
  refine ⟨.tuple ([(2:Int)].map .int),.tuple ([(2:Int)].map .int),.tup (SqT.of (e2 _ _ et)) (.ints [(2:Int)]),.tup (SqT.of upd_same) (.ints [(2:Int)]),(shape_ints _).1,(shape_ints _).1,?_⟩
  rw [eqd1]
  exact q _ (((s11.trans ss).trans sf).trans e2)
 have at2:(ns.set i (v1+5))[i2]?=some v2:=by rw [List.getElem?_set_ne ii];exact ev2
 and_intros
 refine ⟨bl,_,_,_,rfl,rfl,SqL.of g11,atN at2,?_⟩
 and_intros
 refine ⟨bl,_,_,i2,rfl,rfl,g11,ixN_nat (by rw [List.length_map,List.length_set];omega),?_⟩
 have u12:=same_upd (o:=.lst (((ns.set i (v1+5)).map V.int).set i2 (.int (v2 - 5)))) u11 hbl
 have g12:(upd H11 bl (.lst (((ns.set i (v1+5)).map V.int).set i2 (.int (v2 - 5))))) bl=some (.lst (((ns.set i (v1+5)).set i2 (v2 - 5)).map V.int)):=by rw [upd_same];simp only [List.map_set]
 generalize upd H11 bl (.lst (((ns.set i (v1+5)).map V.int).set i2 (.int (v2 - 5))))=H12 at u12 g12 ⊢
 rw [show v2 - 5=v2+-5 by omega] at g12
 have gN12:=u12 _ _ gN9
 have s12:=s9.trans u12
 and_intros
 refine ite2 (fun _=>?_) (fun _=>?_)
 ·and_intros
  refine ⟨nn,_,rfl,gN12,zn,by omega,fun r HS hr' ss er=>?_⟩
  refine ⟨b,L,n,bs,bl,r,_,_,_,_,_,1,rfl,ib.same (s12.trans ss),b900,n12,ss _ _ g12,er,nt2.1,(by rw [List.length_set,List.length_set];omega),nt2.2,fun t HF sf et=>?_⟩
  and_intros
  refine ⟨(by show 1<=sizeLine;decide),fun t2 ht2=>?_⟩
  have e2:=same_new ht2 (.tup [V.int 1])
  refine ⟨.tuple ([(1:Int)].map .int),.tuple ([(1:Int)].map .int),.tup (SqT.of (e2 _ _ et)) (.ints [(1:Int)]),.tup (SqT.of upd_same) (.ints [(1:Int)]),(shape_ints _).1,(shape_ints _).1,?_⟩
  rw [eqd1]
  exact q _ (((s12.trans ss).trans sf).trans e2)
 ·and_intros
  refine ⟨nn,_,rfl,gN12,zn,by omega,fun r HS hr' ss er=>?_⟩
  refine ⟨b,L,n,bs,nn,r,_,_,_,_,_,2,rfl,ib.same (s12.trans ss),b900,n12,ss _ _ gN12,er,zn,(by omega),(n2 (.inl ⟨rfl,rfl,rfl⟩)),fun t HF sf et=>?_⟩
  and_intros
  refine ⟨(by show 1<=sizeLine;decide),fun t2 ht2=>?_⟩
  have e2:=same_new ht2 (.tup [V.int 2])
  refine ⟨.tuple ([(2:Int)].map .int),.tuple ([(2:Int)].map .int),.tup (SqT.of (e2 _ _ et)) (.ints [(2:Int)]),.tup (SqT.of upd_same) (.ints [(2:Int)]),(shape_ints _).1,(shape_ints _).1,?_⟩
  rw [eqd1]
  exact q _ (((s12.trans ss).trans sf).trans e2)
theorem ok_law (T:Tx K mg ad):FnOk P w K mg base CX0 9 ad.f_law ad.d_law ["_law_script"] (spLaw K):=by
 refine T.F_law.ok sc_law (fun vs H Q E h=>?_) (fun cdv A outer s H vs Q E hr h=>?_)
 ·obtain ⟨p,ns,rfl,_⟩:=h
  rfl
 obtain ⟨p,ns,rfl,hS,h63,q⟩:=h
 refine ⟨_,(@pss_cons _ _ _ _ _ (@ps_set _ _ (1) _ _ _ _ sc_law.nd rfl (Or.inl rfl) (@pe_op _ _ _ _ _ _ _ _ op_add pe_int (@pe_op _ _ _ _ _ _ _ _ op_modN (@pe_call _ _ _ _ _ _ _ _ _ _ _ _ _ _ _ _ (ok_law_cell T) (hr.mono (by decide)) rfl T.m_law_cell T.F_law_cell.kp T.b_law_cell .nil pass0 (@pa_cons _ _ _ _ _ (pv 0) (@pa_cons _ _ _ _ _ pe_int pa_nil (by rfl)) (by rfl)) (by decide) (by rfl) (by rfl)) pe_int)) (by rfl) (by first | exact .inl rfl | exact .inr rfl | assumption)) (@pss_cons _ _ _ _ _ (@ps_set _ _ (2) _ _ _ _ sc_law.nd rfl (Or.inl rfl) (@pe_call _ _ _ _ _ _ _ _ _ _ _ _ _ _ _ _ (ok_law_mixed T) (hr.mono (by decide)) rfl T.m_law_mixed T.F_law_mixed.kp T.b_law_mixed .nil pass0 (@pa_cons _ _ _ _ _ (@pe_call _ _ _ _ _ _ _ _ _ _ _ _ _ _ _ _ (ok_law_cell T) (hr.mono (by decide)) rfl T.m_law_cell T.F_law_cell.kp T.b_law_cell .nil pass0 (@pa_cons _ _ _ _ _ (pv 0) (@pa_cons _ _ _ _ _ pe_int pa_nil (by rfl)) (by rfl)) (by decide) (by rfl) (by rfl)) (@pa_cons _ _ _ _ _ pe_int pa_nil (by rfl)) (by rfl)) (by decide) (by rfl) (by rfl)) (by rfl) (by first | exact .inl rfl | exact .inr rfl | assumption)) (@pss_cons _ _ _ _ _ (@ps_set _ _ (3) _ _ _ _ sc_law.nd rfl (Or.inl rfl) (@pe_lst _ _ _ _ pa_nil) (by rfl) (by first | exact .inl rfl | exact .inr rfl | assumption)) (@pss_cons _ _ _ _ _ (ps_for PassesOwn.never rfl (pi_range2 rfl T.z_range (@pa_cons _ _ _ _ _ pe_int (@pa_cons _ _ _ _ _ (@pe_callB _ _ _ _ _ _ _ _ _ (call_max2 rfl) (by rfl) T.z_max PyProof.Rows.boot_max (@pa_cons _ _ _ _ _ pe_int (@pa_cons _ _ _ _ _ (@pe_callB _ _ _ _ _ _ _ _ _ (call_min2 rfl) (by rfl) T.z_min PyProof.Rows.boot_min (@pa_cons _ _ _ _ _ (@pe_callB _ _ _ _ _ _ _ _ _ call_len_seq (by rfl) T.z_len PySem.boot_len (@pa_cons _ _ _ _ _ (pv 0) pa_nil (by rfl)) (by decide) (by decide) (by rfl) (by rfl)) (@pa_cons _ _ _ _ _ pe_int pa_nil (by rfl)) (by rfl)) (by decide) (by decide) (by rfl) (by rfl)) pa_nil (by rfl)) (by rfl)) (by decide) (by decide) (by rfl) (by rfl)) pa_nil (by rfl)) (by rfl))) (pg_name (i:=4) sc_law.nd rfl (Or.inl rfl)) (@pss_cons _ _ _ _ _ (@ps_set _ _ (5) _ _ _ _ sc_law.nd rfl (Or.inl rfl) (@pe_call _ _ _ _ _ _ _ _ _ _ _ _ _ _ _ _ (ok_law_cell T) (hr.mono (by decide)) rfl T.m_law_cell T.F_law_cell.kp T.b_law_cell .nil pass0 (@pa_cons _ _ _ _ _ (pv 0) (@pa_cons _ _ _ _ _ (pv 4) pa_nil (by rfl)) (by rfl)) (by decide) (by rfl) (by rfl)) (by rfl) (by first | exact .inl rfl | exact .inr rfl | assumption)) (@pss_one _ _ _ (@ps_expr _ _ _ _ (pe_bm PySem.F.plainAttrs_list PySem.F.slot_list_append PySem.F.type_list_append mt_append (pv 3) (@pa_cons _ _ _ _ _ (@pe_tup _ _ _ _ _ (@pa_cons _ _ _ _ _ (@pe_call _ _ _ _ _ _ _ _ _ _ _ _ _ _ _ _ (ok_law_slip T) (hr.mono (by decide)) rfl T.m_law_slip T.F_law_slip.kp T.b_law_slip .nil pass0 (@pa_cons _ _ _ _ _ (@pe_call _ _ _ _ _ _ _ _ _ _ _ _ _ _ _ _ (ok_law_ranks T) (hr.mono (by decide)) rfl T.m_law_ranks T.F_law_ranks.kp T.b_law_ranks .nil pass0 (@pa_cons _ _ _ _ _ (pv 5) (@pa_cons _ _ _ _ _ (pv 1) pa_nil (by rfl)) (by rfl)) (by decide) (by rfl) (by rfl)) pa_nil (by rfl)) (by decide) (by rfl) (by rfl)) (@pa_cons _ _ _ _ _ (@pe_call _ _ _ _ _ _ _ _ _ _ _ _ _ _ _ _ (ok_law_many T) (hr.mono (by decide)) rfl T.m_law_many T.F_law_many.kp T.b_law_many .nil pass0 (@pa_cons _ _ _ _ _ (pv 5) (@pa_cons _ _ _ _ _ (pv 4) pa_nil (by rfl)) (by rfl)) (by decide) (by rfl) (by rfl)) pa_nil (by rfl)) (by rfl))) pa_nil (by rfl))) (by rfl))))) (@pss_cons _ _ _ _ _ (@ps_if _ _ _ _ _ _ _ _ (@pt_not _ _ _ _ (@pt_val _ _ _ (@pe_call _ _ _ _ _ _ _ _ _ _ _ _ _ _ _ _ (ok_law_no_box T) (hr.mono (by decide)) rfl T.m_law_no_box T.F_law_no_box.kp T.b_law_no_box .nil pass0 (@pa_cons _ _ _ _ _ (@pe_ix _ _ _ _ _ _ _ ix_list (@pe_lst _ _ _ _ (@pa_cons _ _ _ _ _ pe_int (@pa_cons _ _ _ _ _ pe_int (@pa_cons _ _ _ _ _ (@pe_un _ _ _ _ _ _ un_neg pe_int) (@pa_cons _ _ _ _ _ pe_non (@pa_cons _ _ _ _ _ pe_bl (@pa_cons _ _ _ _ _ pe_str (@pa_cons _ _ _ _ _ (@pe_tup _ _ _ _ _ (@pa_cons _ _ _ _ _ pe_int pa_nil (by rfl))) (@pa_cons _ _ _ _ _ (@pe_lst _ _ _ _ pa_nil) (@pa_cons _ _ _ _ _ pe_dnewK (@pa_cons _ _ _ _ _ (@pe_op _ _ _ _ _ _ _ _ op_pow pe_int pe_int) (@pa_cons _ _ _ _ _ (@pe_lst _ _ _ _ (@pa_cons _ _ _ _ _ pe_int pa_nil (by rfl))) pa_nil (by rfl)) (by rfl)) (by rfl)) (by rfl)) (by rfl)) (by rfl)) (by rfl)) (by rfl)) (by rfl)) (by rfl)) (by rfl))) (@pe_op _ _ _ _ _ _ _ _ op_modN (pv 2) pe_int) (fun _ _=>rfl)) pa_nil (by rfl)) (by decide) (by rfl) (by rfl)) (by intro _;rfl))) (@pss_one _ _ _ (@ps_ret _ _ _ _ pe_bl)) pss_nil) (@pss_cons _ _ _ _ _ (@ps_set _ _ (6) _ _ _ _ sc_law.nd rfl (Or.inl rfl) (@pe_op _ _ _ _ _ _ _ _ op_modN (@pe_op _ _ _ _ _ _ _ _ op_fdivB (pv 2) pe_int) pe_int) (by rfl) (by first | exact .inl rfl | exact .inr rfl | assumption)) (@pss_cons _ _ _ _ _ (@ps_set _ _ (7) _ _ _ _ sc_law.nd rfl (Or.inl rfl) (pe_make T.mk_Box (ok_Box_init T) (hr.mono (by decide)) rfl T.m_Box T.b_Box_init .nil pass1 (@pa_cons _ _ _ _ _ (pv 1) pa_nil (by rfl))) (by rfl) (by first | exact .inl rfl | exact .inr rfl | assumption)) (@pss_cons _ _ _ _ _ (ps_for PassesOwn.never rfl (pi_range1 rfl T.z_range (@pa_cons _ _ _ _ _ (pv 6) pa_nil (by rfl))) (pg_name (i:=4) sc_law.nd rfl (Or.inl rfl)) (@pss_cons _ _ _ _ _ (@ps_set _ _ (8) _ _ _ _ sc_law.nd rfl (Or.inl rfl) (@pe_call _ _ _ _ _ _ _ _ _ _ _ _ _ _ _ _ (ok_law_codes_of T) (hr.mono (by decide)) rfl T.m_law_codes_of T.F_law_codes_of.kp T.b_law_codes_of .nil pass0 (@pa_cons _ _ _ _ _ (pe_slice sl_list (pv 3) (po_some (pv 4)) po_none) (@pa_cons _ _ _ _ _ (pv 1) pa_nil (by rfl)) (by rfl)) (by decide) (by rfl) (by rfl)) (by rfl) (by first | exact .inl rfl | exact .inr rfl | assumption)) (@pss_one _ _ _ (@ps_expr _ _ _ _ (pe_meth (pv 7) T.cl_Box T.me_Box_take (ok_Box_take T) (hr.mono (by decide)) T.b_Box_take .nil pass1 (@pa_cons _ _ _ _ _ (pv 8) (@pa_cons _ _ _ _ _ (@pe_call _ _ _ _ _ _ _ _ _ _ _ _ _ _ _ _ (ok_law_seal T) (hr.mono (by decide)) rfl T.m_law_seal T.F_law_seal.kp T.b_law_seal .nil pass0 (@pa_cons _ _ _ _ _ (pv 8) pa_nil (by rfl)) (by decide) (by rfl) (by rfl)) pa_nil (by rfl)) (by rfl))) (by rfl))))) (@pss_cons _ _ _ _ _ (@ps_set _ _ (8) _ _ _ _ sc_law.nd rfl (Or.inl rfl) (@pe_call _ _ _ _ _ _ _ _ _ _ _ _ _ _ _ _ (ok_law_codes_of T) (hr.mono (by decide)) rfl T.m_law_codes_of T.F_law_codes_of.kp T.b_law_codes_of .nil pass0 (@pa_cons _ _ _ _ _ (pv 3) (@pa_cons _ _ _ _ _ (pv 1) pa_nil (by rfl)) (by rfl)) (by decide) (by rfl) (by rfl)) (by rfl) (by first | exact .inl rfl | exact .inr rfl | assumption)) (@pss_cons _ _ _ _ _ (@ps_if _ _ _ _ _ _ _ _ (@pt_not _ _ _ _ (@pt_val _ _ _ (@pe_call _ _ _ _ _ _ _ _ _ _ _ _ _ _ _ _ (ok_law_refusals T) (hr.mono (by decide)) rfl T.m_law_refusals T.F_law_refusals.kp T.b_law_refusals .nil pass0 (@pa_cons _ _ _ _ _ (pv 7) (@pa_cons _ _ _ _ _ (pv 8) (@pa_cons _ _ _ _ _ (pv 1) (@pa_cons _ _ _ _ _ (@pe_call _ _ _ _ _ _ _ _ _ _ _ _ _ _ _ _ (ok_law_mixed T) (hr.mono (by decide)) rfl T.m_law_mixed T.F_law_mixed.kp T.b_law_mixed .nil pass0 (@pa_cons _ _ _ _ _ (@pe_call _ _ _ _ _ _ _ _ _ _ _ _ _ _ _ _ (ok_law_cell T) (hr.mono (by decide)) rfl T.m_law_cell T.F_law_cell.kp T.b_law_cell .nil pass0 (@pa_cons _ _ _ _ _ (pv 0) (@pa_cons _ _ _ _ _ pe_int pa_nil (by rfl)) (by rfl)) (by decide) (by rfl) (by rfl)) (@pa_cons _ _ _ _ _ pe_int pa_nil (by rfl)) (by rfl)) (by decide) (by rfl) (by rfl)) pa_nil (by rfl)) (by rfl)) (by rfl)) (by rfl)) (by decide) (by rfl) (by rfl)) (by intro _;rfl))) (@pss_one _ _ _ (@ps_ret _ _ _ _ pe_bl)) pss_nil) (@pss_cons _ _ _ _ _ (@ps_set _ _ (9) _ _ _ _ sc_law.nd rfl (Or.inl rfl) (@pe_ix _ _ _ _ _ _ _ ix_list (@pe_lst _ _ _ _ (@pa_cons _ _ _ _ _ (@pe_un _ _ _ _ _ _ un_neg pe_int) (@pa_cons _ _ _ _ _ (pv 6) (@pa_cons _ _ _ _ _ pe_non (@pa_cons _ _ _ _ _ pe_bl (@pa_cons _ _ _ _ _ pe_str (@pa_cons _ _ _ _ _ (@pe_tup _ _ _ _ _ (@pa_cons _ _ _ _ _ pe_int pa_nil (by rfl))) (@pa_cons _ _ _ _ _ (@pe_lst _ _ _ _ pa_nil) (@pa_cons _ _ _ _ _ (@pe_op _ _ _ _ _ _ _ _ op_add (pv 6) (@pe_op _ _ _ _ _ _ _ _ op_pow pe_int pe_int)) pa_nil (by rfl)) (by rfl)) (by rfl)) (by rfl)) (by rfl)) (by rfl)) (by rfl)) (by rfl))) (@pe_op _ _ _ _ _ _ _ _ op_modN (@pe_op _ _ _ _ _ _ _ _ op_fdivB (pv 2) pe_int) pe_int) (fun _ _=>rfl)) (by rfl) (by first | exact .inl rfl | exact .inr rfl | assumption)) (@pss_cons _ _ _ _ _ (ps_for PassesOwn.never rfl (pi_range1 rfl T.z_range (@pa_cons _ _ _ _ _ pe_int pa_nil (by rfl))) (pg_name (i:=10) sc_law.nd rfl (Or.inl rfl)) (@pss_one _ _ _ (@ps_if _ _ _ _ _ _ _ _ (@pt_not _ _ _ _ (@pt_val _ _ _ (@pe_call _ _ _ _ _ _ _ _ _ _ _ _ _ _ _ _ (ok_law_no_bundle T) (hr.mono (by decide)) rfl T.m_law_no_bundle T.F_law_no_bundle.kp T.b_law_no_bundle .nil pass0 (@pa_cons _ _ _ _ _ (pv 7) (@pa_cons _ _ _ _ _ (pv 9) (@pa_cons _ _ _ _ _ (pv 10) pa_nil (by rfl)) (by rfl)) (by rfl)) (by decide) (by rfl) (by rfl)) (by intro _;rfl))) (@pss_one _ _ _ (@ps_ret _ _ _ _ pe_bl)) pss_nil))) (@pss_cons _ _ _ _ _ (@ps_if _ _ _ _ _ _ _ _ (PW.pt (@pw_or _ _ _ _ _ _ _ (@pt_cmpR _ _ _ _ _ _ _ _ op_ne (pe_meth0 (pv 7) T.cl_Box T.me_Box_many (ok_Box_many T) (hr.mono (by decide)) T.b_Box_many .nil pass0) (pv 6) (nomark _)) (@pw_or _ _ _ _ _ _ _ (@pt_cmpR _ _ _ _ _ _ _ _ (op_neD (K:=K) hr.units) (pe_meth (pv 7) T.cl_Box T.me_Box_take (ok_Box_take T) (hr.mono (by decide)) T.b_Box_take .nil pass1 (@pa_cons _ _ _ _ _ (pv 8) (@pa_cons _ _ _ _ _ (@pe_call _ _ _ _ _ _ _ _ _ _ _ _ _ _ _ _ (ok_law_seal T) (hr.mono (by decide)) rfl T.m_law_seal T.F_law_seal.kp T.b_law_seal .nil pass0 (@pa_cons _ _ _ _ _ (pv 8) pa_nil (by rfl)) (by decide) (by rfl) (by rfl)) pa_nil (by rfl)) (by rfl))) (@pe_tup _ _ _ _ _ (@pa_cons _ _ _ _ _ (pv 6) (@pa_cons _ _ _ _ _ pe_int pa_nil (by rfl)) (by rfl))) (nomark _)) (@pw_or1 _ _ _ _ (@pt_cmpR _ _ _ _ _ _ _ _ op_ne (pe_meth0 (pv 7) T.cl_Box T.me_Box_many (ok_Box_many T) (hr.mono (by decide)) T.b_Box_many .nil pass0) (@pe_op _ _ _ _ _ _ _ _ op_add (pv 6) pe_int) (nomark _)))))) (@pss_one _ _ _ (@ps_ret _ _ _ _ pe_bl)) pss_nil) (@pss_cons _ _ _ _ _ (ps_for PassesOwn.never rfl (pi_range1 rfl T.z_range (@pa_cons _ _ _ _ _ (@pe_op _ _ _ _ _ _ _ _ op_add (pv 6) pe_int) pa_nil (by rfl))) (pg_name (i:=4) sc_law.nd rfl (Or.inl rfl)) (@pss_cons _ _ _ _ _ (@ps_set _ _ (11) _ _ _ _ sc_law.nd rfl (Or.inl rfl) (pe_slice sl_list (pv 3) (po_some (pv 4)) po_none) (by rfl) (by first | exact .inl rfl | exact .inr rfl | assumption)) (@pss_cons _ _ _ _ _ (@ps_ifJ _ _ _ _ _ _ _ _ (@pt_cmpR _ _ _ _ _ _ _ _ op_eq (pv 4) (pv 6) (nomark _)) (@pss_one _ _ _ (@ps_set _ _ (11) _ _ _ _ sc_law.nd rfl (Or.inl rfl) (pv 3) (by rfl) (by first | exact .inl rfl | exact .inr rfl | assumption))) pss_nil) (@pss_cons _ _ _ _ _ (@ps_if _ _ _ _ _ _ _ _ (PW.pt (@pw_or _ _ _ _ _ _ _ (@pt_not _ _ _ _ (@pt_val _ _ _ (@pe_call _ _ _ _ _ _ _ _ _ _ _ _ _ _ _ _ (ok_law_lines T) (hr.mono (by decide)) rfl T.m_law_lines T.F_law_lines.kp T.b_law_lines .nil pass0 (@pa_cons _ _ _ _ _ (pe_meth (pv 7) T.cl_Box T.me_Box_lines_at (ok_Box_lines_at T) (hr.mono (by decide)) T.b_Box_lines_at .nil pass1 (@pa_cons _ _ _ _ _ (pv 4) pa_nil (by rfl))) (@pa_cons _ _ _ _ _ (pv 11) pa_nil (by rfl)) (by rfl)) (by decide) (by rfl) (by rfl)) (by intro _;rfl))) (@pw_or1 _ _ _ _ (@pt_not _ _ _ _ (@pt_val _ _ _ (@pe_call _ _ _ _ _ _ _ _ _ _ _ _ _ _ _ _ (ok_law_lines T) (hr.mono (by decide)) rfl T.m_law_lines T.F_law_lines.kp T.b_law_lines .nil pass0 (@pa_cons _ _ _ _ _ (pe_meth (pv 7) T.cl_Box T.me_Box_sheet_at (ok_Box_sheet_at T) (hr.mono (by decide)) T.b_Box_sheet_at .nil pass1 (@pa_cons _ _ _ _ _ (pv 4) pa_nil (by rfl))) (@pa_cons _ _ _ _ _ (@pe_call _ _ _ _ _ _ _ _ _ _ _ _ _ _ _ _ (ok_law_sheet T) (hr.mono (by decide)) rfl T.m_law_sheet T.F_law_sheet.kp T.b_law_sheet .nil pass0 (@pa_cons _ _ _ _ _ (pv 11) pa_nil (by rfl)) (by decide) (by rfl) (by rfl)) pa_nil (by rfl)) (by rfl)) (by decide) (by rfl) (by rfl)) (by intro _;rfl)))))) (@pss_one _ _ _ (@ps_ret _ _ _ _ pe_bl)) pss_nil) (@pss_one _ _ _ (@ps_if _ _ _ _ _ _ _ _ (@pt_not _ _ _ _ (@pt_val _ _ _ (@pe_call _ _ _ _ _ _ _ _ _ _ _ _ _ _ _ _ (ok_law_seal_is T) (hr.mono (by decide)) rfl T.m_law_seal_is T.F_law_seal_is.kp T.b_law_seal_is .nil pass0 (@pa_cons _ _ _ _ _ (pe_meth (pv 7) T.cl_Box T.me_Box_seal_at (ok_Box_seal_at T) (hr.mono (by decide)) T.b_Box_seal_at .nil pass1 (@pa_cons _ _ _ _ _ (pv 4) pa_nil (by rfl))) (@pa_cons _ _ _ _ _ (@pe_call _ _ _ _ _ _ _ _ _ _ _ _ _ _ _ _ (ok_law_seal T) (hr.mono (by decide)) rfl T.m_law_seal T.F_law_seal.kp T.b_law_seal .nil pass0 (@pa_cons _ _ _ _ _ (@pe_call _ _ _ _ _ _ _ _ _ _ _ _ _ _ _ _ (ok_law_codes_of T) (hr.mono (by decide)) rfl T.m_law_codes_of T.F_law_codes_of.kp T.b_law_codes_of .nil pass0 (@pa_cons _ _ _ _ _ (pv 11) (@pa_cons _ _ _ _ _ (pv 1) pa_nil (by rfl)) (by rfl)) (by decide) (by rfl) (by rfl)) pa_nil (by rfl)) (by decide) (by rfl) (by rfl)) pa_nil (by rfl)) (by rfl)) (by decide) (by rfl) (by rfl)) (by intro _;rfl))) (@pss_one _ _ _ (@ps_ret _ _ _ _ pe_bl)) pss_nil)))))) (@pss_one _ _ _ (@ps_ret _ _ _ _ pe_bl)))))))))))))))),?_⟩
 refine ⟨_,rfl,p,ns,0,rfl,hS,h63,by decide,by decide,fun c c0 c1=>?_⟩
 have m12:=fmod_in c (show (0:Int) < 12 by decide)
 and_intros
 dsimp only
 have hh:1<=1+c.fmod 12/\1+c.fmod 12<=12:=by omega
 generalize 1+c.fmod 12=h at hh ⊢
 obtain ⟨n,rfl⟩:∃n:Nat,h=(n:Int):=⟨h.toNat,by omega⟩
 have n12:n<=12:=by omega
 clear m12
 refine ⟨p,ns,0,rfl,hS,h63,by decide,by decide,fun c' c0' c1'=>?_⟩
 and_intros
 refine ⟨c',2,rfl,sz40 c0' c1',szd 64,fun y y0 y1=>?_⟩
 have szy:=sz18 y0 y1
 and_intros
 refine ⟨(by show 0<=sizeLine;decide),fun A hA=>?_⟩
 have s1:=same_new hA (.lst [])
 have eA:(upd H A (.lst [])) A=some (.lst []):=upd_same
 generalize upd H A (.lst [])=H1 at s1 eA ⊢
 have hl':(ns.map V.int).length=ns.length:=List.length_map _
 and_intros
 refine ⟨p,_,rfl,.inl (s1.seq hS),?_⟩
 and_intros
 refine ⟨_,_,rfl,_,_,rfl,?_⟩
 have hM:6<=(if (if 26 < ((ns.map V.int).length:Int) then 26 else ((ns.map V.int).length:Int)) > 6 then (if 26 < ((ns.map V.int).length:Int) then 26 else ((ns.map V.int).length:Int)) else 6)/\(if (if 26 < ((ns.map V.int).length:Int) then 26 else ((ns.map V.int).length:Int)) > 6 then (if 26 < ((ns.map V.int).length:Int) then 26 else ((ns.map V.int).length:Int)) else 6)<=26:=by
  split <;> split at*<;> omega
 generalize (if (if 26 < ((ns.map V.int).length:Int) then 26 else ((ns.map V.int).length:Int)) > 6 then (if 26 < ((ns.map V.int).length:Int) then 26 else ((ns.map V.int).length:Int)) else 6)=M at hM ⊢
 refine ⟨2,M,rfl,⟨by decide,by decide,by omega,by omega⟩,for_range (fun i σ' J=>∃(v4 v5:Option V) (ls:Ls) (pp:List (List Int)),σ'=[some (.ref p),some (.int (n:Int)),some (.int y),some (.ref A),v4,v5,none,none,none,none,none,none]/\Same H J/\J A=some (.lst (vls ls))/\GoodL J ls/\OkDs n pp (dsOf ls)/\pp.length<=i/\ls.length=i) ⟨none,none,[],[],rfl,s1,eA,(fun _ m=>nomatch m),(fun _ m=>nomatch m),Nat.le_refl _,rfl⟩ ?_ ?_⟩
 ·rintro i σ' J hi ⟨v4,v5,ls,pp,rfl,sJ,eJ,gJ,okJ,pi,li⟩
  and_intros
  refine ⟨p,ns,2+(i:Int),rfl,sJ.seq hS,h63,by omega,by omega,fun z z0 z1=>?_⟩
  and_intros
  refine ⟨.inl ⟨rfl,_,SqL.of eJ⟩,?_⟩
  and_intros
  refine ⟨z,n,rfl,z0,z1,by omega,n12,fun l rs m9 J1 hl sj1 ej1 ln gp r12=>?_⟩
  and_intros
  refine ⟨l,rs,m9,rfl,ej1,by omega,by omega,r12,gp,fun t J2 sj2 et=>?_⟩
  and_intros
  refine ⟨z,2+(i:Int),rfl,z0,z1,by omega,by omega,fun y' J3 y1' y9' sj3=>?_⟩
  refine ⟨(by show 2<=sizeLine;decide),fun tl htl=>?_⟩
  have sj4:=same_new htl (.tup [V.ref t,V.int y'])
  have etl:(upd J3 tl (.tup [V.ref t,V.int y'])) tl=some (.tup [V.ref t,V.int y']):=upd_same
  generalize upd J3 tl (.tup [V.ref t,V.int y'])=J4 at sj4 etl ⊢
  have sB:=(sj1.trans sj2).trans (sj3.trans sj4)
  have et4:=(sj3.trans sj4) _ _ et
  have e4:=sB _ _ eJ
  refine ⟨A,_,_,rfl,rfl,e4,(by rw [vls_len];exact small1000 (by omega)),?_⟩
  refine ⟨_,_,ls++[(tl,t,tiersOf rs,y')],pp++[tiersOf rs],rfl,same_upd (sJ.trans sB) hA,by rw [upd_same,vls_append];rfl,GoodL.upd e4 ((gJ.same sB).append fun q m=>?_),fun q m=>?_,?_,?_⟩
  ·rw [List.mem_singleton.mp m]
   exact ⟨etl,et4⟩
  ·rw [dsOf_append] at m
   rcases List.mem_append.mp m with m | m
   ·exact ⟨List.mem_append_left _ (okJ q m).1,(okJ q m).2⟩
   ·rw [List.mem_singleton.mp m]
    exact ⟨List.mem_append_right _ (List.mem_singleton.mpr rfl),y1',y9',rs,m9,rfl,ln,gp,r12⟩
  ·rw [List.length_append]
   show _+1<=_
   omega
  ·rw [List.length_append,li]
   rfl
 rintro σ' J0 ⟨v4,v5,ls,pp,rfl,s0,eJ,gJ,okJ,pi,li⟩
 have l4:4<=ls.length/\ls.length<=24:=by omega
 have p24:pp.length<=24:=by omega
 clear pi li s1 eA
 and_intros
 refine ⟨(by show 1<=sizeLine;decide),fun t1 ht1=>?_⟩
 have u1:=same_new ht1 (.tup [V.int 3])
 have g1:(upd J0 t1 (.tup [V.int 3])) t1=some (.tup [V.int 3]):=upd_same
 generalize upd J0 t1 (.tup [V.int 3])=J1 at u1 g1 ⊢
 and_intros
 refine ⟨(by show 0<=sizeLine;decide),fun t2 ht2=>?_⟩
 have u2:=same_new ht2 (.lst [])
 have g2:(upd J1 t2 (.lst [])) t2=some (.lst []):=upd_same
 generalize upd J1 t2 (.lst [])=J2 at u2 g2 ⊢
 and_intros
 intro t3 ht3
 have u3:=same_new ht3 (.dK [])
 have g3:(upd J2 t3 (.dK [])) t3=some (.dK []):=upd_same
 generalize upd J2 t3 (.dK [])=J3 at u3 g3 ⊢
 and_intros
 refine ⟨(by show 1<=sizeLine;decide),fun t4 ht4=>?_⟩
 have u4:=same_new ht4 (.lst [V.int 3])
 have g4:(upd J3 t4 (.lst [V.int 3])) t4=some (.lst [V.int 3]):=upd_same
 generalize upd J3 t4 (.lst [V.int 3])=J4 at u4 g4 ⊢
 refine ⟨(by show 11<=sizeLine;decide),fun t5 ht5=>?_⟩
 have odd:∀x∈([V.int 0,V.int 13,V.int (-1),V.non,V.bl true,V.str "3",V.ref t1,V.ref t2,V.ref t3,V.int (10 ^ (30:Int).toNat),V.ref t4]:List V),Wh K J4 x (isI x)/\okTo 12 x=false:=fun x m=>by
  simp only [List.mem_cons,List.not_mem_nil,or_false] at m
  rcases m with rfl | rfl | rfl | rfl | rfl | rfl | rfl | rfl | rfl | rfl | rfl
  ·exact ⟨Wh.int _,rfl⟩
  ·exact ⟨Wh.int _,rfl⟩
  ·exact ⟨Wh.int _,rfl⟩
  ·exact ⟨Wh.non,rfl⟩
  ·exact ⟨Wh.bl _,rfl⟩
  ·exact ⟨Wh.str _,rfl⟩
  ·exact ⟨Wh.tup (((u2.trans u3).trans u4) _ _ g1),rfl⟩
  ·exact ⟨Wh.lst ((u3.trans u4) _ _ g2),rfl⟩
  ·exact ⟨Wh.dK (u4 _ _ g3),rfl⟩
  ·exact ⟨Wh.int _,by decide +kernel⟩
  ·exact ⟨Wh.lst g4,rfl⟩
 have u5:=same_new ht5 (.lst [V.int 0,V.int 13,V.int (-1),V.non,V.bl true,V.str "3",V.ref t1,V.ref t2,V.ref t3,V.int (10 ^ (30:Int).toNat),V.ref t4])
 have g5:(upd J4 t5 (.lst [V.int 0,V.int 13,V.int (-1),V.non,V.bl true,V.str "3",V.ref t1,V.ref t2,V.ref t3,V.int (10 ^ (30:Int).toNat),V.ref t4])) t5=some (.lst [V.int 0,V.int 13,V.int (-1),V.non,V.bl true,V.str "3",V.ref t1,V.ref t2,V.ref t3,V.int (10 ^ (30:Int).toNat),V.ref t4]):=upd_same
 generalize upd J4 t5 (.lst [V.int 0,V.int 13,V.int (-1),V.non,V.bl true,V.str "3",V.ref t1,V.ref t2,V.ref t3,V.int (10 ^ (30:Int).toNat),V.ref t4])=J5 at u5 g5 ⊢
 have m11:=fmod_in y (show (0:Int) < 11 by decide)
 obtain ⟨v,hv,wv,nv⟩:=pickV odd (m:=y.fmod 11) m11.1 m11.2
 have s5:=(((u1.trans u2).trans u3).trans u4).trans u5
 and_intros
 refine ⟨t5,_,_,_,rfl,rfl,SqL.of g5,hv,?_⟩
 and_intros
 refine ⟨wv.same u5,nv,fun J6 u6=>?_⟩
 replace s5:=s5.trans u6
 clear odd wv nv hv g1 g2 g3 g4 g5 u1 u2 u3 u4 u5 u6 ht1 ht2 ht3 ht4 ht5
 and_intros
 dsimp only
 have m4:=fmod_in (y.fdiv 11) (show (0:Int) < 4 by decide)
 generalize (y.fdiv 11).fmod 4=mm at m4 ⊢
 obtain ⟨m0,rfl⟩:∃m0:Nat,mm=(m0:Int):=⟨mm.toNat,by omega⟩
 and_intros
 intro b dx hb hdx ne
 have sn:Same J6 (upd (upd J6 dx (.own b)) b (.ins ad.c_Box dx [])):=(same_new hdx _).trans (same_new (by rw [upd_ne (Ne.symm ne)];exact hb) _)
 refine ⟨b,ad.c_Box,dx,.int (n:Int),rfl,upd_same,T.cl_Box,T.na_Box_hands,T.na_Box_bundles,Wh.int _,.inl ⟨(n:Int),rfl,by omega,by omega,fun L J7 lb hL g1 b1 l1=>⟨rfl,?_⟩⟩⟩
 replace g1:=(off_of sn hb).trans g1
 replace hL:=none_of sn hL
 clear sn
 have eJ7:=(s5.trans g1) _ _ eJ
 have gJ7:=gJ.same (s5.trans g1)
 have s07:=s0.trans (s5.trans g1)
 have ib0:IsB ad.c_Box J7 b L n []:=⟨⟨dx,b1⟩,l1,(fun _ m=>nomatch m),(fun _ m=>nomatch m)⟩
 have hL0:H L=none:=none_of (s0.trans s5) hL
 have AL:A≠L:=fun z=>by rw [<- z,s5 _ _ eJ] at hL;cases hL
 have ldl:(dsOf ls).length=ls.length:=List.length_map _
 clear s0 s5 g1 eJ gJ b1 l1
 and_intros
 refine ⟨by omega,by omega,for_range (fun i σ' J=>∃(v4 v8:Option V) (as:List (Addr × Ls)),σ'=[some (.ref p),some (.int (n:Int)),some (.int y),some (.ref A),v4,v5,some (.int (m0:Int)),some (.ref b),v8,none,none,none]/\Same H J/\IsB ad.c_Box J b L n as/\as.map (fun x=>dsOf x.2)=(List.range i).map (fun k=>(dsOf ls).drop k)/\J A=some (.lst (vls ls))/\GoodL J ls) ⟨v4,none,[],rfl,s07,ib0,rfl,eJ7,gJ7⟩ ?_ ?_⟩
 ·rintro i σ' J hi ⟨v4,v8,as,rfl,sJ,ib,d1,eJ,gJ⟩
  rw [Int.toNat_natCast] at hi
  have la:as.length=i:=by
   have:=congrArg List.length d1
   rw [List.length_map,List.length_map,List.length_range] at this
   exact this
  obtain ⟨dx,hb'⟩:=ib.at_
  and_intros
  refine ⟨A,_,rfl,SqL.of eJ,fun x1 hx1=>?_⟩
  rw [Int.zero_add,cut_vls]
  have u1:=same_new hx1 (.lst (vls (ls.drop i)))
  have g1:(upd J x1 (.lst (vls (ls.drop i)))) x1=some (.lst (vls (ls.drop i))):=upd_same
  generalize upd J x1 (.lst (vls (ls.drop i)))=K1 at u1 g1 ⊢
  have okD:OkDs n pp (dsOf (ls.drop i)):=fun q m=>okJ q (by rw [dsOf_drop] at m;exact List.mem_of_mem_drop m)
  have lD:(dsOf (ls.drop i)).length<=24:=by rw [dsOf_drop,List.length_drop];omega
  have lD2:(ls.drop i).length<=24:=by rw [List.length_drop];omega
  and_intros
  refine ⟨x1,ls.drop i,n,pp,rfl,g1,fun q m=>(gJ.same u1) q (List.mem_of_mem_drop m),okD,n12,by omega,fun c2 K2 hc2 u2 ec=>?_⟩
  have hb2:=(u1.trans u2) _ _ hb'
  and_intros
  refine ⟨b,dx,_,rfl,hb2,rfl,?_⟩
  and_intros
  refine ⟨c2,_,rfl,ec,codes_sz n12 okD,(by rw [codes_len];omega),fun t3 K3 ht3 u3 et3=>?_⟩
  have u13:=(u1.trans u2).trans u3
  refine ⟨b,L,n,as,c2,t3,_,_,_,_,_,rfl,ib.same u13,by omega,n12,u3 _ _ ec,et3,codes_sz n12 okD,(by rw [codes_len];omega),.inr ⟨_,0,pp,dsOf (ls.drop i),[],.inl ⟨rfl,rfl,rfl⟩,(List.append_nil _).symm,okD,(by rw [codes_len];omega),.inl ⟨rfl,rfl,fun x t4 ls' K4 hx o4 eL ex gx ed et4=>?_⟩⟩⟩
  refine ⟨_,_,as++[(x,ls')],rfl,keep_off (sJ.trans u13) hL0 o4,(ib.same u13).more o4 hx eL ex gx,?_,o4 _ _ (off_at (u13 _ _ eJ) AL),(gJ.same u13).off o4 (u13 _ _ ib.lst)⟩
  rw [List.map_append,d1,List.range_succ,List.map_append]
  show _++[dsOf ls']=_++[(dsOf ls).drop i]
  rw [ed,dsOf_drop]
 clear s07 ib0 eJ7 gJ7
 rintro σ' J1 ⟨v4,v8,as,rfl,sJ,ib,d1,eJ,gJ⟩
 rw [Int.toNat_natCast] at d1
 have la:as.length=m0:=by
  have:=congrArg List.length d1
  rw [List.length_map,List.length_map,List.length_range] at this
  exact this
 obtain ⟨dx',hb'⟩:=ib.at_
 and_intros
 refine ⟨A,ls,n,pp,rfl,eJ,gJ,okJ,n12,by omega,fun c2 K2 hc2 u2 ec=>?_⟩
 and_intros
 refine ⟨p,ns,1,rfl,(sJ.trans u2).seq hS,h63,by decide,by decide,fun c3 c30 c31=>?_⟩
 and_intros
 refine ⟨c3,3,rfl,sz40 c30 c31,szd 64,fun z z0 z1=>?_⟩
 refine ⟨b,L,n,as,c2,pp,dsOf ls,z,rfl,ib.same u2,by omega,by omega,n12,ec,okJ,by omega,by omega,z0,z1,fun K3 u3=>?_⟩
 and_intros
 refine ⟨(by show 1<=sizeLine;decide),fun t1 ht1=>?_⟩
 have w1:=same_new ht1 (.tup [V.int 0])
 have g1:(upd K3 t1 (.tup [V.int 0])) t1=some (.tup [V.int 0]):=upd_same
 generalize upd K3 t1 (.tup [V.int 0])=K4 at w1 g1 ⊢
 and_intros
 refine ⟨(by show 0<=sizeLine;decide),fun t2 ht2=>?_⟩
 have w2:=same_new ht2 (.lst [])
 have g2:(upd K4 t2 (.lst [])) t2=some (.lst []):=upd_same
 generalize upd K4 t2 (.lst [])=K5 at w2 g2 ⊢
 and_intros
 refine ⟨(by show 8<=sizeLine;decide),fun t5 ht5=>?_⟩
 have t9:(10:Int) ^ (9:Int).toNat=1000000000:=by decide +kernel
 have odd:∀x∈([V.int (-1),V.int (m0:Int),V.non,V.bl true,V.str "0",V.ref t1,V.ref t2,V.int ((m0:Int)+10 ^ (9:Int).toNat)]:List V),NoNum K K5 x as.length:=fun x m=>by
  simp only [List.mem_cons,List.not_mem_nil,or_false] at m
  rcases m with rfl | rfl | rfl | rfl | rfl | rfl | rfl | rfl
  ·exact .inr ⟨_,rfl,.inl (by decide)⟩
  ·exact .inr ⟨_,rfl,.inr (by omega)⟩
  ·exact .inl Wh.non
  ·exact .inl (Wh.bl _)
  ·exact .inl (Wh.str _)
  ·exact .inl (Wh.tup (w2 _ _ g1))
  ·exact .inl (Wh.lst g2)
  ·exact .inr ⟨_,rfl,.inr (by omega)⟩
 have w3:=same_new ht5 (.lst [V.int (-1),V.int (m0:Int),V.non,V.bl true,V.str "0",V.ref t1,V.ref t2,V.int ((m0:Int)+10 ^ (9:Int).toNat)])
 have g5:(upd K5 t5 (.lst [V.int (-1),V.int (m0:Int),V.non,V.bl true,V.str "0",V.ref t1,V.ref t2,V.int ((m0:Int)+10 ^ (9:Int).toNat)])) t5=some (.lst [V.int (-1),V.int (m0:Int),V.non,V.bl true,V.str "0",V.ref t1,V.ref t2,V.int ((m0:Int)+10 ^ (9:Int).toNat)]):=upd_same
 generalize upd K5 t5 (.lst [V.int (-1),V.int (m0:Int),V.non,V.bl true,V.str "0",V.ref t1,V.ref t2,V.int ((m0:Int)+10 ^ (9:Int).toNat)])=K6 at w3 g5 ⊢
 have m8:=fmod_in (y.fdiv 44) (show (0:Int) < 8 by decide)
 obtain ⟨v,hv,wv⟩:=pickV odd (m:=(y.fdiv 44).fmod 8) m8.1 m8.2
 replace wv:=wv.same w3
 have u6:=(u2.trans u3).trans ((w1.trans w2).trans w3)
 have ec6:=(u3.trans ((w1.trans w2).trans w3)) _ _ ec
 have s6:=sJ.trans u6
 have ib6:=ib.same u6
 have eJ6:=u6 _ _ eJ
 have gJ6:=gJ.same u6
 and_intros
 refine ⟨t5,_,_,_,rfl,rfl,SqL.of g5,hv,?_⟩
 clear odd hv m8 t9 g1 g2 g5 w1 w2 w3 ht1 ht2 ht5 u2 u3 ec ib eJ gJ sJ u6 hb'
 and_intros
 refine ⟨by decide,by decide,for_range (fun i σ' J=>∃v10:Option V,σ'=[some (.ref p),some (.int (n:Int)),some (.int y),some (.ref A),v4,v5,some (.int (m0:Int)),some (.ref b),some (.ref c2),some v,v10,none]/\Same K6 J) ⟨none,rfl,fun _ _ e=>e⟩ ?_ ?_⟩
 ·rintro i σ' J hi ⟨v10,rfl,sJ⟩
  and_intros
  refine ⟨b,L,n,as,v,_,rfl,ib6.same sJ,wv.same sJ,fun J' sJ'=>?_⟩
  and_intros
  exact sJ.trans sJ'
 rintro σ' J ⟨v10,rfl,sJ⟩
 have ibJ:=ib6.same sJ
 obtain ⟨dx6,hb6⟩:=ibJ.at_
 and_intros
 refine ⟨b,dx6,_,rfl,hb6,rfl,?_⟩
 refine ⟨b,L,n,as,rfl,ibJ,?_⟩
 and_intros
 refine ifF (ne_f (by rw [la])) ?_
 and_intros
 refine ⟨b,dx6,_,rfl,hb6,rfl,?_⟩
 and_intros
 refine ⟨c2,_,rfl,sJ _ _ ec6,codes_sz n12 okJ,(by rw [codes_len];omega),fun t3 K7 ht3 u7 et3=>?_⟩
 refine ⟨b,L,n,as,c2,t3,_,_,_,_,_,rfl,ibJ.same u7,by omega,n12,(sJ.trans u7) _ _ ec6,et3,codes_sz n12 okJ,(by rw [codes_len];omega),.inr ⟨_,0,pp,dsOf ls,[],.inl ⟨rfl,rfl,rfl⟩,(List.append_nil _).symm,okJ,(by rw [codes_len];omega),.inl ⟨rfl,rfl,fun x t4 ls' K8 hx o8 eL ex gx ed et4=>?_⟩⟩⟩
 have ib8:=(ibJ.same u7).more o8 hx eL ex gx
 have s8:=keep_off (s6.trans (sJ.trans u7)) hL0 o8
 have eJ8:=o8 _ _ (off_at ((sJ.trans u7) _ _ eJ6) AL)
 have gJ8:=(gJ6.same (sJ.trans u7)).off o8 ((ibJ.same u7).lst)
 clear ec6 ib6 eJ6 gJ6 s6 hb6 ibJ
 obtain ⟨dx8,hb8⟩:=ib8.at_
 and_intros
 refine ⟨(by show 2<=sizeLine;decide),fun t6 ht6=>?_⟩
 have u9:=same_new ht6 (.tup [V.int (m0:Int),V.int 0])
 have g9:(upd K8 t6 (.tup [V.int (m0:Int),V.int 0])) t6=some (.tup [V.int (m0:Int),V.int 0]):=upd_same
 generalize upd K8 t6 (.tup [V.int (m0:Int),V.int 0])=K9 at u9 g9 ⊢
 rw [la] at et4
 refine ⟨.tuple ([(m0:Int),0].map .int),.tuple ([(m0:Int),0].map .int),.tup (SqT.of (u9 _ _ et4)) (.ints [(m0:Int),0]),.tup (SqT.of g9) (.ints [(m0:Int),0]),(shape_ints _).1,(shape_ints _).1,?_⟩
 rw [eqd1]
 have hb9:=u9 _ _ hb8
 and_intros
 refine ⟨b,dx8,_,rfl,hb9,rfl,?_⟩
 refine ⟨b,L,n,_,rfl,ib8.same u9,?_⟩
 and_intros
 refine ifF (ne_f (by rw [List.length_append,la];show ((m0+1:Nat):Int)=_;omega)) ?_
 have ib9:=ib8.same u9
 have eJ9:=u9 _ _ eJ8
 have gJ9:=gJ8.same u9
 have s9:=s8.trans u9
 have at_:∀i,i < m0+1->∃y,(as++[(x,ls')])[i]?=some y/\dsOf y.2=if i=m0 then dsOf ls else (dsOf ls).drop i:=fun i hi=>by
  by_cases c:i=m0
  ·refine ⟨(x,ls'),?_,?_⟩
   ·rw [List.getElem?_append_right (by omega),la,c,Nat.sub_self]
    rfl
   ·rw [if_pos c]
    exact ed
  ·have il:i < as.length:=by omega
   refine ⟨as[i],?_,?_⟩
   ·rw [List.getElem?_append_left il,List.getElem?_eq_getElem il]
   ·rw [if_neg c]
    have:=congrArg (fun l=>l[i]?) d1
    simp only [List.getElem?_map,List.getElem?_eq_getElem il,List.getElem?_range (show i < m0 by omega)] at this
    exact Option.some.inj this
 have okd:∀i q,q∈(if i=m0 then dsOf ls else (dsOf ls).drop i)->q∈dsOf ls:=fun i q m=>by
  split at m
  ·exact m
  ·exact List.mem_of_mem_drop m
 have lnd:∀i,(if i=m0 then dsOf ls else (dsOf ls).drop i).length<=24:=fun i=>by
  split
  ·omega
  ·rw [List.length_drop]
   omega
 clear d1 et4 g9 hb8 ib8 eJ8 gJ8 s8 eL ex gx o8 u7 et3
 and_intros
 refine ⟨by omega,by omega,for_range (fun i σ' J=>∃(v4 v11:Option V),σ'=[some (.ref p),some (.int (n:Int)),some (.int y),some (.ref A),v4,v5,some (.int (m0:Int)),some (.ref b),some (.ref c2),some v,v10,v11]/\Same K9 J) ⟨v4,none,rfl,fun _ _ e=>e⟩ ?_ ?_⟩
 ·rintro i σ' J hi ⟨v4,v11,rfl,sJ⟩
  obtain ⟨y',ey,ed'⟩:=at_ i (by omega)
  have okD:OkDs n pp (dsOf y'.2):=fun q m=>by rw [ed'] at m;exact okJ q (okd i q m)
  have lny:(dsOf y'.2).length<=24:=by rw [ed'];exact lnd i
  and_intros
  refine ⟨A,_,rfl,SqL.of (sJ _ _ eJ9),fun x1 hx1=>?_⟩
  rw [Int.zero_add,cut_vls]
  have u1:=same_new hx1 (.lst (vls (ls.drop i)))
  have g1:(upd J x1 (.lst (vls (ls.drop i)))) x1=some (.lst (vls (ls.drop i))):=upd_same
  generalize upd J x1 (.lst (vls (ls.drop i)))=J1 at u1 g1 ⊢
  and_intros
  refine ⟨fun σ' J'=>∃(S:Addr) (ss:Ls),σ'=[some (.ref p),some (.int (n:Int)),some (.int y),some (.ref A),some (.int (i:Int)),v5,some (.int (m0:Int)),some (.ref b),some (.ref c2),some v,v10,some (.ref S)]/\Same J J'/\J' S=some (.lst (vls ss))/\GoodL J' ss/\dsOf ss=dsOf y'.2,?_,?_⟩
  ·and_intros
   by_cases ci:i=m0
   ·rw [if_pos ci] at ed'
    refine ifT (eq_t (by rw [ci])) ?_
    and_intros
    exact ⟨A,ls,rfl,u1,(sJ.trans u1) _ _ eJ9,gJ9.same (sJ.trans u1),ed'.symm⟩
   ·rw [if_neg ci] at ed'
    refine ifF (eq_f (fun h=>ci (by omega))) ?_
    exact ⟨x1,ls.drop i,rfl,u1,g1,fun q m=>(gJ9.same (sJ.trans u1)) q (List.mem_of_mem_drop m),by rw [dsOf_drop];exact ed'.symm⟩
  clear g1 u1
  rintro σ' J' ⟨S,ss,rfl,sJ',eS,gS,dS⟩
  have sK:=sJ.trans sJ'
  have ik:=ib9.same sK
  obtain ⟨dx,hbk⟩:=ik.at_
  have gy:=(ik.lies y' (List.mem_of_getElem? ey)).2
  have lss:ss.length=y'.2.length:=by
   have:=congrArg List.length dS
   unfold dsOf at this
   rw [List.length_map,List.length_map] at this
   exact this
  have ldy:(dsOf y'.2).length=y'.2.length:=List.length_map _
  have lds:(dsOf ss).length=ss.length:=List.length_map _
  have okS:OkDs n pp (dsOf ss):=by rw [dS];exact okD
  have slen:∀d∈dsOf y'.2,d.1.length<=12:=fun d m=>Nat.le_trans (okD d m).2.2.2.len n12
  and_intros
  refine ⟨b,dx,_,rfl,hbk,rfl,?_⟩
  and_intros
  refine ⟨b,L,n,_,_,rfl,ik,.inl ⟨i,y',rfl,ey,fun l1 H1 hl1 s1 e1=>?_⟩⟩
  and_intros
  refine ⟨l1,S,y'.2,ss,rfl,e1,s1 _ _ eS,gy.same s1,gS.same s1,dS.symm,by omega,(fun q m=>slen (q.2.2.1,q.2.2.2) (List.mem_map.mpr ⟨q,m,rfl⟩)),fun H2 s2=>?_⟩
  have s12:=s1.trans s2
  have hb2:=s12 _ _ hbk
  and_intros
  refine ⟨b,dx,_,rfl,hb2,rfl,?_⟩
  and_intros
  refine ⟨b,L,n,_,_,rfl,ik.same s12,.inl ⟨i,y',pp,rfl,ey,okD,by omega,fun l2 ms H3 hl2 s3 e3 g3 sh3 l64=>?_⟩⟩
  have s13:=s12.trans s3
  and_intros
  refine ⟨S,ss,pp,rfl,s13 _ _ eS,gS.same s13,(fun q m=>(okS q m).1),by omega,(fun q m=>(okS q m).2.1),fun l3 ms3 H4 hl3 s4 e4 g4 sh4 _=>?_⟩
  have em:dsOf ms=dsOf ms3:=sh3.uniq sh4 (fun ts=>by rw [dS])
  refine ⟨l2,l3,ms,ms3,rfl,s4 _ _ e3,e4,g3.same s4,g4,em,by omega,(fun q m=>by
   have k1:=sh3.keys (p:=(dsOf y'.2).map (·.1)) (fun q m=>List.mem_map.mpr ⟨q,m,rfl⟩) (q.2.2.1,q.2.2.2) (List.mem_map.mpr ⟨q,m,rfl⟩)
   obtain ⟨d,dm,de⟩:=List.mem_map.mp k1
   have:=slen d dm
   rw [de] at this
   exact this),fun H5 s5=>?_⟩
  have s15:=s13.trans (s4.trans s5)
  have hb5:=s15 _ _ hbk
  and_intros
  refine ⟨b,dx,_,rfl,hb5,rfl,?_⟩
  and_intros
  refine ⟨b,L,n,_,_,rfl,ik.same s15,.inl ⟨i,y',pp,rfl,ey,okD,n12,by omega,fun t H6 s6 et=>?_⟩⟩
  have s16:=s15.trans s6
  and_intros
  refine ⟨S,ss,n,pp,rfl,s16 _ _ eS,gS.same s16,okS,n12,by omega,fun c H7 hc s7 ec=>?_⟩
  and_intros
  refine ⟨c,_,rfl,ec,codes_sz n12 okS,(by rw [codes_len];omega),fun t2 H8 ht2 s8 et2=>?_⟩
  rw [dS] at et2
  refine ⟨t,t2,_,rfl,(s7.trans s8) _ _ et,et2,(by show 4<=60;decide),fun H9 s9=>?_⟩
  refine ⟨_,rfl,ifF rfl ?_⟩
  exact ⟨_,_,rfl,sK.trans (s16.trans ((s7.trans s8).trans s9))⟩
 rintro σ' J ⟨v4,v11,rfl,sJ⟩
 and_intros
 exact q _
end
theorem all_mk {l:PySem.W.OpenLaw} {w:World} {K:PySem.W.Frag} {h:Heap} {mg:Str->Option Value} {fa f1 f2 f3 f4 f5 f6 f7 f8 f9 f10 f11 f12 f13 f14 f15 f16 f17 f18 f19 f20 f21 f22 f23 f24 f25 f26 f27 f28 f29 f30 f31 f32 f33 f34 f35 f36 f37 f38 f39 f40 f41 f42 f43 f44 c_NoBundle c_NoBallot c_Torn c_NoWay c_WrongNumber c_TooHard c_NoSheet c_NoRow c_NoNumber c_NoChange c_Ended c_PollError c_Box:Addr} (X:K.In h) (G:h.Ns mainGlobals mg) (hfa:mg "law"=some (.ref fa))
 {od1 an1 od2 an2 od3 an3 od4 an4 od5 an5 od6 an6 od7 an7 od8 an8 od9 an9 od10 an10 od11 an11 od12 an12 od13 an13 od14 an14 od15 an15 od16 an16 od17 an17 od18 an18 od19 an19 od20 an20 od21 an21 od22 an22 od23 an23 od24 an24 od25 an25 od26 an26 od27 an27 od28 an28 od29 an29 od30 an30 od31 an31 od32 an32 od33 an33 od34 an34 od35 an35 od36 an36 od37 an37 od38 an38 od39 an39 od40 an40 od41 an41 od42 an42 od43 an43 od44 an44:Option Addr} {sl1 sl2 sl3 sl4 sl5 sl6 sl7 sl8 sl9 sl10 sl11 sl12 sl13 sl14 sl15 sl16 sl17 sl18 sl19 sl20 sl21 sl22 sl23 sl24 sl25 sl26 sl27 sl28 sl29 sl30 sl31 sl32 sl33 sl34 sl35 sl36 sl37 sl38 sl39 sl40 sl41 sl42 sl43 sl44:Array (Option Value)} {oc1 kV1 dc1 pm1 cd1 ct1 oc2 kV2 dc2 pm2 cd2 ct2 oc3 kV3 dc3 pm3 cd3 ct3 oc4 kV4 dc4 pm4 cd4 ct4 oc5 kV5 dc5 pm5 cd5 ct5 oc6 kV6 dc6 pm6 cd6 ct6 oc7 kV7 dc7 pm7 cd7 ct7 oc8 kV8 dc8 pm8 cd8 ct8 oc9 kV9 dc9 pm9 cd9 ct9 oc10 kV10 dc10 pm10 cd10 ct10 oc11 kV11 dc11 pm11 cd11 ct11 oc12 kV12 dc12 pm12 cd12 ct12 oc13 kV13 dc13 pm13 cd13 ct13 oc14 kV14 dc14 pm14 cd14 ct14 oc15 kV15 dc15 pm15 cd15 ct15 oc16 kV16 dc16 pm16 cd16 ct16 oc17 kV17 dc17 pm17 cd17 ct17 oc18 kV18 dc18 pm18 cd18 ct18 oc19 kV19 dc19 pm19 cd19 ct19 oc20 kV20 dc20 pm20 cd20 ct20 oc21 kV21 dc21 pm21 cd21 ct21 oc22 kV22 dc22 pm22 cd22 ct22 oc23 kV23 dc23 pm23 cd23 ct23 oc24 kV24 dc24 pm24 cd24 ct24 oc25 kV25 dc25 pm25 cd25 ct25 oc26 kV26 dc26 pm26 cd26 ct26 oc27 kV27 dc27 pm27 cd27 ct27 oc28 kV28 dc28 pm28 cd28 ct28 oc29 kV29 dc29 pm29 cd29 ct29 oc30 kV30 dc30 pm30 cd30 ct30 oc31 kV31 dc31 pm31 cd31 ct31 oc32 kV32 dc32 pm32 cd32 ct32 oc33 kV33 dc33 pm33 cd33 ct33 oc34 kV34 dc34 pm34 cd34 ct34 oc35 kV35 dc35 pm35 cd35 ct35 oc36 kV36 dc36 pm36 cd36 ct36 oc37 kV37 dc37 pm37 cd37 ct37 oc38 kV38 dc38 pm38 cd38 ct38 oc39 kV39 dc39 pm39 cd39 ct39 oc40 kV40 dc40 pm40 cd40 ct40 oc41 kV41 dc41 pm41 cd41 ct41 oc42 kV42 dc42 pm42 cd42 ct42 oc43 kV43 dc43 pm43 cd43 ct43 oc44 kV44 dc44 pm44 cd44 ct44:Value} {t_MOST_RANK t_MOST_BALLOTS t_MOST_HANDS t_BASE:Tok}
 (a1:PySem.W.nsIn K mainGlobals "with_one"=some (some (.ref f1)))
 (l1:K.lookup f1=some ⟨oc1,od1,.func (PySem.W.fnOf "with_one" "with_one" (defArgs s_with_one) (defBody s_with_one) (defScope s_with_one) .none kV1 dc1 pm1 an1 cd1 ct1),sl1⟩) (c1:PySem.W.codeIn K cd1 "with_one"=true) (k1:PySem.W.keepIn K (.ref f1)=true)
 (a2:PySem.W.nsIn K mainGlobals "members"=some (some (.ref f2)))
 (l2:K.lookup f2=some ⟨oc2,od2,.func (PySem.W.fnOf "members" "members" (defArgs s_members) (defBody s_members) (defScope s_members) .none kV2 dc2 pm2 an2 cd2 ct2),sl2⟩) (c2:PySem.W.codeIn K cd2 "members"=true) (k2:PySem.W.keepIn K (.ref f2)=true)
 (a3:PySem.W.nsIn K mainGlobals "is_whole"=some (some (.ref f3)))
 (l3:K.lookup f3=some ⟨oc3,od3,.func (PySem.W.fnOf "is_whole" "is_whole" (defArgs s_is_whole) (defBody s_is_whole) (defScope s_is_whole) .none kV3 dc3 pm3 an3 cd3 ct3),sl3⟩) (c3:PySem.W.codeIn K cd3 "is_whole"=true) (k3:PySem.W.keepIn K (.ref f3)=true)
 (a4:PySem.W.nsIn K mainGlobals "numbers_by_slip"=some (some (.ref f4)))
 (l4:K.lookup f4=some ⟨oc4,od4,.func (PySem.W.fnOf "numbers_by_slip" "numbers_by_slip" (defArgs s_numbers_by_slip) (defBody s_numbers_by_slip) (defScope s_numbers_by_slip) .none kV4 dc4 pm4 an4 cd4 ct4),sl4⟩) (c4:PySem.W.codeIn K cd4 "numbers_by_slip"=true) (k4:PySem.W.keepIn K (.ref f4)=true)
 (a5:PySem.W.nsIn K mainGlobals "sheet_from"=some (some (.ref f5)))
 (l5:K.lookup f5=some ⟨oc5,od5,.func (PySem.W.fnOf "sheet_from" "sheet_from" (defArgs s_sheet_from) (defBody s_sheet_from) (defScope s_sheet_from) .none kV5 dc5 pm5 an5 cd5 ct5),sl5⟩) (c5:PySem.W.codeIn K cd5 "sheet_from"=true) (k5:PySem.W.keepIn K (.ref f5)=true)
 (a6:PySem.W.nsIn K mainGlobals "seal_of"=some (some (.ref f6)))
 (l6:K.lookup f6=some ⟨oc6,od6,.func (PySem.W.fnOf "seal_of" "seal_of" (defArgs s_seal_of) (defBody s_seal_of) (defScope s_seal_of) .none kV6 dc6 pm6 an6 cd6 ct6),sl6⟩) (c6:PySem.W.codeIn K cd6 "seal_of"=true) (k6:PySem.W.keepIn K (.ref f6)=true)
 (a7:PySem.W.nsIn K mainGlobals "place_of"=some (some (.ref f7)))
 (l7:K.lookup f7=some ⟨oc7,od7,.func (PySem.W.fnOf "place_of" "place_of" (defArgs s_place_of) (defBody s_place_of) (defScope s_place_of) .none kV7 dc7 pm7 an7 cd7 ct7),sl7⟩) (c7:PySem.W.codeIn K cd7 "place_of"=true) (k7:PySem.W.keepIn K (.ref f7)=true)
 (a8:PySem.W.nsIn K mainGlobals "_law_cell"=some (some (.ref f8)))
 (l8:K.lookup f8=some ⟨oc8,od8,.func (PySem.W.fnOf "_law_cell" "_law_cell" (defArgs s_law_cell) (defBody s_law_cell) (defScope s_law_cell) .none kV8 dc8 pm8 an8 cd8 ct8),sl8⟩) (c8:PySem.W.codeIn K cd8 "_law_cell"=true) (k8:PySem.W.keepIn K (.ref f8)=true)
 (a9:PySem.W.nsIn K mainGlobals "_law_mixed"=some (some (.ref f9)))
 (l9:K.lookup f9=some ⟨oc9,od9,.func (PySem.W.fnOf "_law_mixed" "_law_mixed" (defArgs s_law_mixed) (defBody s_law_mixed) (defScope s_law_mixed) .none kV9 dc9 pm9 an9 cd9 ct9),sl9⟩) (c9:PySem.W.codeIn K cd9 "_law_mixed"=true) (k9:PySem.W.keepIn K (.ref f9)=true)
 (a10:PySem.W.nsIn K mainGlobals "_law_whole"=some (some (.ref f10)))
 (l10:K.lookup f10=some ⟨oc10,od10,.func (PySem.W.fnOf "_law_whole" "_law_whole" (defArgs s_law_whole) (defBody s_law_whole) (defScope s_law_whole) .none kV10 dc10 pm10 an10 cd10 ct10),sl10⟩) (c10:PySem.W.codeIn K cd10 "_law_whole"=true) (k10:PySem.W.keepIn K (.ref f10)=true)
 (a11:PySem.W.nsIn K mainGlobals "_law_slip"=some (some (.ref f11)))
 (l11:K.lookup f11=some ⟨oc11,od11,.func (PySem.W.fnOf "_law_slip" "_law_slip" (defArgs s_law_slip) (defBody s_law_slip) (defScope s_law_slip) .none kV11 dc11 pm11 an11 cd11 ct11),sl11⟩) (c11:PySem.W.codeIn K cd11 "_law_slip"=true) (k11:PySem.W.keepIn K (.ref f11)=true)
 (a12:PySem.W.nsIn K mainGlobals "_law_code"=some (some (.ref f12)))
 (l12:K.lookup f12=some ⟨oc12,od12,.func (PySem.W.fnOf "_law_code" "_law_code" (defArgs s_law_code) (defBody s_law_code) (defScope s_law_code) .none kV12 dc12 pm12 an12 cd12 ct12),sl12⟩) (c12:PySem.W.codeIn K cd12 "_law_code"=true) (k12:PySem.W.keepIn K (.ref f12)=true)
 (a13:PySem.W.nsIn K mainGlobals "_law_seal"=some (some (.ref f13)))
 (l13:K.lookup f13=some ⟨oc13,od13,.func (PySem.W.fnOf "_law_seal" "_law_seal" (defArgs s_law_seal) (defBody s_law_seal) (defScope s_law_seal) .none kV13 dc13 pm13 an13 cd13 ct13),sl13⟩) (c13:PySem.W.codeIn K cd13 "_law_seal"=true) (k13:PySem.W.keepIn K (.ref f13)=true)
 (a14:PySem.W.nsIn K mainGlobals "_law_sheet"=some (some (.ref f14)))
 (l14:K.lookup f14=some ⟨oc14,od14,.func (PySem.W.fnOf "_law_sheet" "_law_sheet" (defArgs s_law_sheet) (defBody s_law_sheet) (defScope s_law_sheet) .none kV14 dc14 pm14 an14 cd14 ct14),sl14⟩) (c14:PySem.W.codeIn K cd14 "_law_sheet"=true) (k14:PySem.W.keepIn K (.ref f14)=true)
 (a15:PySem.W.nsIn K mainGlobals "_law_kind"=some (some (.ref f15)))
 (l15:K.lookup f15=some ⟨oc15,od15,.func (PySem.W.fnOf "_law_kind" "_law_kind" (defArgs s_law_kind) (defBody s_law_kind) (defScope s_law_kind) .none kV15 dc15 pm15 an15 cd15 ct15),sl15⟩) (c15:PySem.W.codeIn K cd15 "_law_kind"=true) (k15:PySem.W.keepIn K (.ref f15)=true)
 (l16:K.lookup f16=some ⟨oc16,od16,.func (PySem.W.fnOf "many" "Box.many" (defArgs s_Box_many) (defBody s_Box_many) (defScope s_Box_many) .none kV16 dc16 pm16 an16 cd16 ct16),sl16⟩) (c16:PySem.W.codeIn K cd16 "Box.many"=true) (k16:PySem.W.keepIn K (.ref f16)=true)
 (a17:PySem.W.nsIn K mainGlobals "is_rank"=some (some (.ref f17)))
 (l17:K.lookup f17=some ⟨oc17,od17,.func (PySem.W.fnOf "is_rank" "is_rank" (defArgs s_is_rank) (defBody s_is_rank) (defScope s_is_rank) .none kV17 dc17 pm17 an17 cd17 ct17),sl17⟩) (c17:PySem.W.codeIn K cd17 "is_rank"=true) (k17:PySem.W.keepIn K (.ref f17)=true)
 (a18:PySem.W.nsIn K mainGlobals "tier_at"=some (some (.ref f18)))
 (l18:K.lookup f18=some ⟨oc18,od18,.func (PySem.W.fnOf "tier_at" "tier_at" (defArgs s_tier_at) (defBody s_tier_at) (defScope s_tier_at) .none kV18 dc18 pm18 an18 cd18 ct18),sl18⟩) (c18:PySem.W.codeIn K cd18 "tier_at"=true) (k18:PySem.W.keepIn K (.ref f18)=true)
 (a19:PySem.W.nsIn K mainGlobals "ranks_of"=some (some (.ref f19)))
 (l19:K.lookup f19=some ⟨oc19,od19,.func (PySem.W.fnOf "ranks_of" "ranks_of" (defArgs s_ranks_of) (defBody s_ranks_of) (defScope s_ranks_of) .none kV19 dc19 pm19 an19 cd19 ct19),sl19⟩) (c19:PySem.W.codeIn K cd19 "ranks_of"=true) (k19:PySem.W.keepIn K (.ref f19)=true)
 (a20:PySem.W.nsIn K mainGlobals "is_number"=some (some (.ref f20)))
 (l20:K.lookup f20=some ⟨oc20,od20,.func (PySem.W.fnOf "is_number" "is_number" (defArgs s_is_number) (defBody s_is_number) (defScope s_is_number) .none kV20 dc20 pm20 an20 cd20 ct20),sl20⟩) (c20:PySem.W.codeIn K cd20 "is_number"=true) (k20:PySem.W.keepIn K (.ref f20)=true)
 (a21:PySem.W.nsIn K mainGlobals "mended"=some (some (.ref f21)))
 (l21:K.lookup f21=some ⟨oc21,od21,.func (PySem.W.fnOf "mended" "mended" (defArgs s_mended) (defBody s_mended) (defScope s_mended) .none kV21 dc21 pm21 an21 cd21 ct21),sl21⟩) (c21:PySem.W.codeIn K cd21 "mended"=true) (k21:PySem.W.keepIn K (.ref f21)=true)
 (a22:PySem.W.nsIn K mainGlobals "are_hands"=some (some (.ref f22)))
 (l22:K.lookup f22=some ⟨oc22,od22,.func (PySem.W.fnOf "are_hands" "are_hands" (defArgs s_are_hands) (defBody s_are_hands) (defScope s_are_hands) .none kV22 dc22 pm22 an22 cd22 ct22),sl22⟩) (c22:PySem.W.codeIn K cd22 "are_hands"=true) (k22:PySem.W.keepIn K (.ref f22)=true)
 (a23:PySem.W.nsIn K mainGlobals "_law_ranks"=some (some (.ref f23)))
 (l23:K.lookup f23=some ⟨oc23,od23,.func (PySem.W.fnOf "_law_ranks" "_law_ranks" (defArgs s_law_ranks) (defBody s_law_ranks) (defScope s_law_ranks) .none kV23 dc23 pm23 an23 cd23 ct23),sl23⟩) (c23:PySem.W.codeIn K cd23 "_law_ranks"=true) (k23:PySem.W.keepIn K (.ref f23)=true)
 (a24:PySem.W.nsIn K mainGlobals "_law_many"=some (some (.ref f24)))
 (l24:K.lookup f24=some ⟨oc24,od24,.func (PySem.W.fnOf "_law_many" "_law_many" (defArgs s_law_many) (defBody s_law_many) (defScope s_law_many) .none kV24 dc24 pm24 an24 cd24 ct24),sl24⟩) (c24:PySem.W.codeIn K cd24 "_law_many"=true) (k24:PySem.W.keepIn K (.ref f24)=true)
 (a25:PySem.W.nsIn K mainGlobals "_law_line"=some (some (.ref f25)))
 (l25:K.lookup f25=some ⟨oc25,od25,.func (PySem.W.fnOf "_law_line" "_law_line" (defArgs s_law_line) (defBody s_law_line) (defScope s_law_line) .none kV25 dc25 pm25 an25 cd25 ct25),sl25⟩) (c25:PySem.W.codeIn K cd25 "_law_line"=true) (k25:PySem.W.keepIn K (.ref f25)=true)
 (a26:PySem.W.nsIn K mainGlobals "_law_codes_of"=some (some (.ref f26)))
 (l26:K.lookup f26=some ⟨oc26,od26,.func (PySem.W.fnOf "_law_codes_of" "_law_codes_of" (defArgs s_law_codes_of) (defBody s_law_codes_of) (defScope s_law_codes_of) .none kV26 dc26 pm26 an26 cd26 ct26),sl26⟩) (c26:PySem.W.codeIn K cd26 "_law_codes_of"=true) (k26:PySem.W.keepIn K (.ref f26)=true)
 (a27:PySem.W.nsIn K mainGlobals "_law_seal_is"=some (some (.ref f27)))
 (l27:K.lookup f27=some ⟨oc27,od27,.func (PySem.W.fnOf "_law_seal_is" "_law_seal_is" (defArgs s_law_seal_is) (defBody s_law_seal_is) (defScope s_law_seal_is) .none kV27 dc27 pm27 an27 cd27 ct27),sl27⟩) (c27:PySem.W.codeIn K cd27 "_law_seal_is"=true) (k27:PySem.W.keepIn K (.ref f27)=true)
 (a28:PySem.W.nsIn K mainGlobals "_law_no_line"=some (some (.ref f28)))
 (l28:K.lookup f28=some ⟨oc28,od28,.func (PySem.W.fnOf "_law_no_line" "_law_no_line" (defArgs s_law_no_line) (defBody s_law_no_line) (defScope s_law_no_line) .none kV28 dc28 pm28 an28 cd28 ct28),sl28⟩) (c28:PySem.W.codeIn K cd28 "_law_no_line"=true) (k28:PySem.W.keepIn K (.ref f28)=true)
 (l29:K.lookup f29=some ⟨oc29,od29,.func (PySem.W.fnOf "lines_at" "Box.lines_at" (defArgs s_Box_lines_at) (defBody s_Box_lines_at) (defScope s_Box_lines_at) .none kV29 dc29 pm29 an29 cd29 ct29),sl29⟩) (c29:PySem.W.codeIn K cd29 "Box.lines_at"=true) (k29:PySem.W.keepIn K (.ref f29)=true)
 (a30:PySem.W.nsIn K mainGlobals "are_ranks"=some (some (.ref f30)))
 (l30:K.lookup f30=some ⟨oc30,od30,.func (PySem.W.fnOf "are_ranks" "are_ranks" (defArgs s_are_ranks) (defBody s_are_ranks) (defScope s_are_ranks) .none kV30 dc30 pm30 an30 cd30 ct30),sl30⟩) (c30:PySem.W.codeIn K cd30 "are_ranks"=true) (k30:PySem.W.keepIn K (.ref f30)=true)
 (a31:PySem.W.nsIn K mainGlobals "sheet_of"=some (some (.ref f31)))
 (l31:K.lookup f31=some ⟨oc31,od31,.func (PySem.W.fnOf "sheet_of" "sheet_of" (defArgs s_sheet_of) (defBody s_sheet_of) (defScope s_sheet_of) .none kV31 dc31 pm31 an31 cd31 ct31),sl31⟩) (c31:PySem.W.codeIn K cd31 "sheet_of"=true) (k31:PySem.W.keepIn K (.ref f31)=true)
 (a32:PySem.W.nsIn K mainGlobals "code_of"=some (some (.ref f32)))
 (l32:K.lookup f32=some ⟨oc32,od32,.func (PySem.W.fnOf "code_of" "code_of" (defArgs s_code_of) (defBody s_code_of) (defScope s_code_of) .none kV32 dc32 pm32 an32 cd32 ct32),sl32⟩) (c32:PySem.W.codeIn K cd32 "code_of"=true) (k32:PySem.W.keepIn K (.ref f32)=true)
 (a33:PySem.W.nsIn K mainGlobals "_law_lines"=some (some (.ref f33)))
 (l33:K.lookup f33=some ⟨oc33,od33,.func (PySem.W.fnOf "_law_lines" "_law_lines" (defArgs s_law_lines) (defBody s_law_lines) (defScope s_law_lines) .none kV33 dc33 pm33 an33 cd33 ct33),sl33⟩) (c33:PySem.W.codeIn K cd33 "_law_lines"=true) (k33:PySem.W.keepIn K (.ref f33)=true)
 (l34:K.lookup f34=some ⟨oc34,od34,.func (PySem.W.fnOf "__init__" "Box.__init__" (defArgs s_Box_init) (defBody s_Box_init) (defScope s_Box_init) .none kV34 dc34 pm34 an34 cd34 ct34),sl34⟩) (c34:PySem.W.codeIn K cd34 "Box.__init__"=true) (k34:PySem.W.keepIn K (.ref f34)=true)
 (a35:PySem.W.nsIn K mainGlobals "slip_of"=some (some (.ref f35)))
 (l35:K.lookup f35=some ⟨oc35,od35,.func (PySem.W.fnOf "slip_of" "slip_of" (defArgs s_slip_of) (defBody s_slip_of) (defScope s_slip_of) .none kV35 dc35 pm35 an35 cd35 ct35),sl35⟩) (c35:PySem.W.codeIn K cd35 "slip_of"=true) (k35:PySem.W.keepIn K (.ref f35)=true)
 (l36:K.lookup f36=some ⟨oc36,od36,.func (PySem.W.fnOf "sheet_at" "Box.sheet_at" (defArgs s_Box_sheet_at) (defBody s_Box_sheet_at) (defScope s_Box_sheet_at) .none kV36 dc36 pm36 an36 cd36 ct36),sl36⟩) (c36:PySem.W.codeIn K cd36 "Box.sheet_at"=true) (k36:PySem.W.keepIn K (.ref f36)=true)
 (l37:K.lookup f37=some ⟨oc37,od37,.func (PySem.W.fnOf "seal_at" "Box.seal_at" (defArgs s_Box_seal_at) (defBody s_Box_seal_at) (defScope s_Box_seal_at) .none kV37 dc37 pm37 an37 cd37 ct37),sl37⟩) (c37:PySem.W.codeIn K cd37 "Box.seal_at"=true) (k37:PySem.W.keepIn K (.ref f37)=true)
 (a38:PySem.W.nsIn K mainGlobals "line_of"=some (some (.ref f38)))
 (l38:K.lookup f38=some ⟨oc38,od38,.func (PySem.W.fnOf "line_of" "line_of" (defArgs s_line_of) (defBody s_line_of) (defScope s_line_of) .none kV38 dc38 pm38 an38 cd38 ct38),sl38⟩) (c38:PySem.W.codeIn K cd38 "line_of"=true) (k38:PySem.W.keepIn K (.ref f38)=true)
 (a39:PySem.W.nsIn K mainGlobals "_law_no_box"=some (some (.ref f39)))
 (l39:K.lookup f39=some ⟨oc39,od39,.func (PySem.W.fnOf "_law_no_box" "_law_no_box" (defArgs s_law_no_box) (defBody s_law_no_box) (defScope s_law_no_box) .none kV39 dc39 pm39 an39 cd39 ct39),sl39⟩) (c39:PySem.W.codeIn K cd39 "_law_no_box"=true) (k39:PySem.W.keepIn K (.ref f39)=true)
 (a40:PySem.W.nsIn K mainGlobals "_law_no_bundle"=some (some (.ref f40)))
 (l40:K.lookup f40=some ⟨oc40,od40,.func (PySem.W.fnOf "_law_no_bundle" "_law_no_bundle" (defArgs s_law_no_bundle) (defBody s_law_no_bundle) (defScope s_law_no_bundle) .none kV40 dc40 pm40 an40 cd40 ct40),sl40⟩) (c40:PySem.W.codeIn K cd40 "_law_no_bundle"=true) (k40:PySem.W.keepIn K (.ref f40)=true)
 (l41:K.lookup f41=some ⟨oc41,od41,.func (PySem.W.fnOf "take" "Box.take" (defArgs s_Box_take) (defBody s_Box_take) (defScope s_Box_take) .none kV41 dc41 pm41 an41 cd41 ct41),sl41⟩) (c41:PySem.W.codeIn K cd41 "Box.take"=true) (k41:PySem.W.keepIn K (.ref f41)=true)
 (a42:PySem.W.nsIn K mainGlobals "_law_untaken"=some (some (.ref f42)))
 (l42:K.lookup f42=some ⟨oc42,od42,.func (PySem.W.fnOf "_law_untaken" "_law_untaken" (defArgs s_law_untaken) (defBody s_law_untaken) (defScope s_law_untaken) .none kV42 dc42 pm42 an42 cd42 ct42),sl42⟩) (c42:PySem.W.codeIn K cd42 "_law_untaken"=true) (k42:PySem.W.keepIn K (.ref f42)=true)
 (a43:PySem.W.nsIn K mainGlobals "_law_refusals"=some (some (.ref f43)))
 (l43:K.lookup f43=some ⟨oc43,od43,.func (PySem.W.fnOf "_law_refusals" "_law_refusals" (defArgs s_law_refusals) (defBody s_law_refusals) (defScope s_law_refusals) .none kV43 dc43 pm43 an43 cd43 ct43),sl43⟩) (c43:PySem.W.codeIn K cd43 "_law_refusals"=true) (k43:PySem.W.keepIn K (.ref f43)=true)
 (a44:PySem.W.nsIn K mainGlobals "law"=some (some (.ref f44)))
 (l44:K.lookup f44=some ⟨oc44,od44,.func (PySem.W.fnOf "law" "law" (defArgs s_law) (defBody s_law) (defScope s_law) .none kV44 dc44 pm44 an44 cd44 ct44),sl44⟩) (c44:PySem.W.codeIn K cd44 "law"=true) (k44:PySem.W.keepIn K (.ref f44)=true)
 (z0:PySem.W.nsIn K mainGlobals "ValueError"=some none)
 (z1:PySem.W.nsIn K mainGlobals "all"=some none)
 (z2:PySem.W.nsIn K mainGlobals "bool"=some none)
 (z3:PySem.W.nsIn K mainGlobals "enumerate"=some none)
 (z4:PySem.W.nsIn K mainGlobals "int"=some none)
 (z5:PySem.W.nsIn K mainGlobals "isinstance"=some none)
 (z6:PySem.W.nsIn K mainGlobals "len"=some none)
 (z7:PySem.W.nsIn K mainGlobals "list"=some none)
 (z8:PySem.W.nsIn K mainGlobals "max"=some none)
 (z9:PySem.W.nsIn K mainGlobals "min"=some none)
 (z10:PySem.W.nsIn K mainGlobals "range"=some none)
 (z11:PySem.W.nsIn K mainGlobals "reversed"=some none)
 (z12:PySem.W.nsIn K mainGlobals "set"=some none)
 (z13:PySem.W.nsIn K mainGlobals "sorted"=some none)
 (z14:PySem.W.nsIn K mainGlobals "sum"=some none)
 (z15:PySem.W.nsIn K mainGlobals "tuple"=some none)
 (kc_MOST_RANK:PySem.W.nsIn K mainGlobals "MOST_RANK"=some (some (.int 1000000000 t_MOST_RANK)))
 (kc_MOST_BALLOTS:PySem.W.nsIn K mainGlobals "MOST_BALLOTS"=some (some (.int 1000000000 t_MOST_BALLOTS)))
 (kc_MOST_HANDS:PySem.W.nsIn K mainGlobals "MOST_HANDS"=some (some (.int 12 t_MOST_HANDS)))
 (kc_BASE:PySem.W.nsIn K mainGlobals "BASE"=some (some (.int 13 t_BASE)))
 (mc_NoBundle:PySem.W.nsIn K mainGlobals "NoBundle"=some (some (.ref c_NoBundle))) (ty_NoBundle:PySem.W.typeIn K (.ref c_NoBundle)=some (.type "type")) (be_NoBundle:PySem.W.mroIn K c_NoBundle (.type "BaseException")=some true)
 (mc_NoBallot:PySem.W.nsIn K mainGlobals "NoBallot"=some (some (.ref c_NoBallot))) (ty_NoBallot:PySem.W.typeIn K (.ref c_NoBallot)=some (.type "type")) (be_NoBallot:PySem.W.mroIn K c_NoBallot (.type "BaseException")=some true)
 (mc_Torn:PySem.W.nsIn K mainGlobals "Torn"=some (some (.ref c_Torn))) (ty_Torn:PySem.W.typeIn K (.ref c_Torn)=some (.type "type")) (be_Torn:PySem.W.mroIn K c_Torn (.type "BaseException")=some true)
 (mc_NoWay:PySem.W.nsIn K mainGlobals "NoWay"=some (some (.ref c_NoWay))) (ty_NoWay:PySem.W.typeIn K (.ref c_NoWay)=some (.type "type")) (be_NoWay:PySem.W.mroIn K c_NoWay (.type "BaseException")=some true)
 (mc_WrongNumber:PySem.W.nsIn K mainGlobals "WrongNumber"=some (some (.ref c_WrongNumber))) (ty_WrongNumber:PySem.W.typeIn K (.ref c_WrongNumber)=some (.type "type")) (be_WrongNumber:PySem.W.mroIn K c_WrongNumber (.type "BaseException")=some true)
 (mc_TooHard:PySem.W.nsIn K mainGlobals "TooHard"=some (some (.ref c_TooHard))) (ty_TooHard:PySem.W.typeIn K (.ref c_TooHard)=some (.type "type")) (be_TooHard:PySem.W.mroIn K c_TooHard (.type "BaseException")=some true)
 (mc_NoSheet:PySem.W.nsIn K mainGlobals "NoSheet"=some (some (.ref c_NoSheet))) (ty_NoSheet:PySem.W.typeIn K (.ref c_NoSheet)=some (.type "type")) (be_NoSheet:PySem.W.mroIn K c_NoSheet (.type "BaseException")=some true)
 (mc_NoRow:PySem.W.nsIn K mainGlobals "NoRow"=some (some (.ref c_NoRow))) (ty_NoRow:PySem.W.typeIn K (.ref c_NoRow)=some (.type "type")) (be_NoRow:PySem.W.mroIn K c_NoRow (.type "BaseException")=some true)
 (mc_NoNumber:PySem.W.nsIn K mainGlobals "NoNumber"=some (some (.ref c_NoNumber))) (ty_NoNumber:PySem.W.typeIn K (.ref c_NoNumber)=some (.type "type")) (be_NoNumber:PySem.W.mroIn K c_NoNumber (.type "BaseException")=some true)
 (mc_NoChange:PySem.W.nsIn K mainGlobals "NoChange"=some (some (.ref c_NoChange))) (ty_NoChange:PySem.W.typeIn K (.ref c_NoChange)=some (.type "type")) (be_NoChange:PySem.W.mroIn K c_NoChange (.type "BaseException")=some true)
 (mc_Ended:PySem.W.nsIn K mainGlobals "Ended"=some (some (.ref c_Ended))) (ty_Ended:PySem.W.typeIn K (.ref c_Ended)=some (.type "type")) (be_Ended:PySem.W.mroIn K c_Ended (.type "BaseException")=some true)
 (mc_PollError:PySem.W.nsIn K mainGlobals "PollError"=some (some (.ref c_PollError))) (ty_PollError:PySem.W.typeIn K (.ref c_PollError)=some (.type "type")) (be_PollError:PySem.W.mroIn K c_PollError (.type "BaseException")=some true)
 (mc_Box:PySem.W.nsIn K mainGlobals "Box"=some (some (.ref c_Box))) (pg_Box:PySem.W.plainGet K c_Box Str.empty=true) (hd_Box:PySem.W.hasDictIn K c_Box=true) (po_Box:PySem.W.plainOver K c_Box=true) (sa_Box:PySem.W.findIn K (.ref c_Box) "__setattr__"=some (some (.builtin "object.__setattr__")))
 (mm_Box:PySem.W.makesIn K c_Box=true) (mi_Box:PySem.W.findIn K (.ref c_Box) "__init__"=some (some (.ref f34))) (mf_Box:PySem.W.isFn K (.ref f34)=true) (mk_Box:PySem.W.keepIn K (.ref c_Box)=true)
 (ma_Box_many:PySem.W.findIn K (.ref c_Box) "many"=some (some (.ref f16))) (mn_Box_many:PySem.W.isFn K (.ref f16)=true)
 (ma_Box_take:PySem.W.findIn K (.ref c_Box) "take"=some (some (.ref f41))) (mn_Box_take:PySem.W.isFn K (.ref f41)=true)
 (ma_Box_lines_at:PySem.W.findIn K (.ref c_Box) "lines_at"=some (some (.ref f29))) (mn_Box_lines_at:PySem.W.isFn K (.ref f29)=true)
 (ma_Box_sheet_at:PySem.W.findIn K (.ref c_Box) "sheet_at"=some (some (.ref f36))) (mn_Box_sheet_at:PySem.W.isFn K (.ref f36)=true)
 (ma_Box_seal_at:PySem.W.findIn K (.ref c_Box) "seal_at"=some (some (.ref f37))) (mn_Box_seal_at:PySem.W.isFn K (.ref f37)=true)
 (na_Box_hands:PySem.W.findIn K (.ref c_Box) "hands"=some none)
 (na_Box_bundles:PySem.W.findIn K (.ref c_Box) "bundles"=some none)
 (gt0:PySem.W.specialIn K (.builtin "object.__class__") "__get__"=some (some (.builtin "getset_descriptor.__get__"))) (tk0:PySem.W.takesIn K (.builtin "object.__class__")=some true)
 (xq_Torn:PySem.W.excIn K c_Torn [.type "ValueError",.type "Exception",.type "BaseException",.type "object"] "ValueError.__new__"=true)
 (xq_NoBundle:PySem.W.excIn K c_NoBundle [.type "ValueError",.type "Exception",.type "BaseException",.type "object"] "ValueError.__new__"=true)
 (xq_NoWay:PySem.W.excIn K c_NoWay [.type "ValueError",.type "Exception",.type "BaseException",.type "object"] "ValueError.__new__"=true)
 (xq_NoBallot:PySem.W.excIn K c_NoBallot [.type "ValueError",.type "Exception",.type "BaseException",.type "object"] "ValueError.__new__"=true)
 (ga_Torn:PySem.W.findIn K (.ref c_Torn) "__getattribute__"=some (some (.builtin "BaseException.__getattribute__"))) (gh_Torn:PySem.W.findIn K (.ref c_Torn) "__getattr__"=some none) (cl_Torn:PySem.W.findIn K (.ref c_Torn) "__class__"=some (some (.builtin "object.__class__"))) (ob_Torn:PySem.W.mroIn K c_Torn (.type "object")=some true) (ve_Torn:PySem.W.subIn K (.ref c_Torn) (.type "ValueError")=some true)
 (su_Torn_NoBundle:PySem.W.subIn K (.ref c_Torn) (.ref c_NoBundle)=some false)
 (su_Torn_NoBallot:PySem.W.subIn K (.ref c_Torn) (.ref c_NoBallot)=some false)
 (su_Torn_Torn:PySem.W.subIn K (.ref c_Torn) (.ref c_Torn)=some true)
 (su_Torn_NoWay:PySem.W.subIn K (.ref c_Torn) (.ref c_NoWay)=some false)
 (su_Torn_WrongNumber:PySem.W.subIn K (.ref c_Torn) (.ref c_WrongNumber)=some false)
 (su_Torn_TooHard:PySem.W.subIn K (.ref c_Torn) (.ref c_TooHard)=some false)
 (su_Torn_NoSheet:PySem.W.subIn K (.ref c_Torn) (.ref c_NoSheet)=some false)
 (su_Torn_NoRow:PySem.W.subIn K (.ref c_Torn) (.ref c_NoRow)=some false)
 (su_Torn_NoNumber:PySem.W.subIn K (.ref c_Torn) (.ref c_NoNumber)=some false)
 (su_Torn_NoChange:PySem.W.subIn K (.ref c_Torn) (.ref c_NoChange)=some false)
 (su_Torn_Ended:PySem.W.subIn K (.ref c_Torn) (.ref c_Ended)=some false)
 (su_Torn_PollError:PySem.W.subIn K (.ref c_Torn) (.ref c_PollError)=some true)
 (ga_NoBundle:PySem.W.findIn K (.ref c_NoBundle) "__getattribute__"=some (some (.builtin "BaseException.__getattribute__"))) (gh_NoBundle:PySem.W.findIn K (.ref c_NoBundle) "__getattr__"=some none) (cl_NoBundle:PySem.W.findIn K (.ref c_NoBundle) "__class__"=some (some (.builtin "object.__class__"))) (ob_NoBundle:PySem.W.mroIn K c_NoBundle (.type "object")=some true) (ve_NoBundle:PySem.W.subIn K (.ref c_NoBundle) (.type "ValueError")=some true)
 (su_NoBundle_NoBundle:PySem.W.subIn K (.ref c_NoBundle) (.ref c_NoBundle)=some true)
 (su_NoBundle_NoBallot:PySem.W.subIn K (.ref c_NoBundle) (.ref c_NoBallot)=some false)
 (su_NoBundle_Torn:PySem.W.subIn K (.ref c_NoBundle) (.ref c_Torn)=some false)
 (su_NoBundle_NoWay:PySem.W.subIn K (.ref c_NoBundle) (.ref c_NoWay)=some false)
 (su_NoBundle_WrongNumber:PySem.W.subIn K (.ref c_NoBundle) (.ref c_WrongNumber)=some false)
 (su_NoBundle_TooHard:PySem.W.subIn K (.ref c_NoBundle) (.ref c_TooHard)=some false)
 (su_NoBundle_NoSheet:PySem.W.subIn K (.ref c_NoBundle) (.ref c_NoSheet)=some false)
 (su_NoBundle_NoRow:PySem.W.subIn K (.ref c_NoBundle) (.ref c_NoRow)=some false)
 (su_NoBundle_NoNumber:PySem.W.subIn K (.ref c_NoBundle) (.ref c_NoNumber)=some false)
 (su_NoBundle_NoChange:PySem.W.subIn K (.ref c_NoBundle) (.ref c_NoChange)=some false)
 (su_NoBundle_Ended:PySem.W.subIn K (.ref c_NoBundle) (.ref c_Ended)=some false)
 (su_NoBundle_PollError:PySem.W.subIn K (.ref c_NoBundle) (.ref c_PollError)=some true)
 (ga_NoWay:PySem.W.findIn K (.ref c_NoWay) "__getattribute__"=some (some (.builtin "BaseException.__getattribute__"))) (gh_NoWay:PySem.W.findIn K (.ref c_NoWay) "__getattr__"=some none) (cl_NoWay:PySem.W.findIn K (.ref c_NoWay) "__class__"=some (some (.builtin "object.__class__"))) (ob_NoWay:PySem.W.mroIn K c_NoWay (.type "object")=some true) (ve_NoWay:PySem.W.subIn K (.ref c_NoWay) (.type "ValueError")=some true)
 (su_NoWay_NoBundle:PySem.W.subIn K (.ref c_NoWay) (.ref c_NoBundle)=some false)
 (su_NoWay_NoBallot:PySem.W.subIn K (.ref c_NoWay) (.ref c_NoBallot)=some false)
 (su_NoWay_Torn:PySem.W.subIn K (.ref c_NoWay) (.ref c_Torn)=some false)
 (su_NoWay_NoWay:PySem.W.subIn K (.ref c_NoWay) (.ref c_NoWay)=some true)
 (su_NoWay_WrongNumber:PySem.W.subIn K (.ref c_NoWay) (.ref c_WrongNumber)=some false)
 (su_NoWay_TooHard:PySem.W.subIn K (.ref c_NoWay) (.ref c_TooHard)=some false)
 (su_NoWay_NoSheet:PySem.W.subIn K (.ref c_NoWay) (.ref c_NoSheet)=some false)
 (su_NoWay_NoRow:PySem.W.subIn K (.ref c_NoWay) (.ref c_NoRow)=some false)
 (su_NoWay_NoNumber:PySem.W.subIn K (.ref c_NoWay) (.ref c_NoNumber)=some false)
 (su_NoWay_NoChange:PySem.W.subIn K (.ref c_NoWay) (.ref c_NoChange)=some false)
 (su_NoWay_Ended:PySem.W.subIn K (.ref c_NoWay) (.ref c_Ended)=some false)
 (su_NoWay_PollError:PySem.W.subIn K (.ref c_NoWay) (.ref c_PollError)=some true)
 (ga_NoBallot:PySem.W.findIn K (.ref c_NoBallot) "__getattribute__"=some (some (.builtin "BaseException.__getattribute__"))) (gh_NoBallot:PySem.W.findIn K (.ref c_NoBallot) "__getattr__"=some none) (cl_NoBallot:PySem.W.findIn K (.ref c_NoBallot) "__class__"=some (some (.builtin "object.__class__"))) (ob_NoBallot:PySem.W.mroIn K c_NoBallot (.type "object")=some true) (ve_NoBallot:PySem.W.subIn K (.ref c_NoBallot) (.type "ValueError")=some true)
 (su_NoBallot_NoBundle:PySem.W.subIn K (.ref c_NoBallot) (.ref c_NoBundle)=some false)
 (su_NoBallot_NoBallot:PySem.W.subIn K (.ref c_NoBallot) (.ref c_NoBallot)=some true)
 (su_NoBallot_Torn:PySem.W.subIn K (.ref c_NoBallot) (.ref c_Torn)=some false)
 (su_NoBallot_NoWay:PySem.W.subIn K (.ref c_NoBallot) (.ref c_NoWay)=some false)
 (su_NoBallot_WrongNumber:PySem.W.subIn K (.ref c_NoBallot) (.ref c_WrongNumber)=some false)
 (su_NoBallot_TooHard:PySem.W.subIn K (.ref c_NoBallot) (.ref c_TooHard)=some false)
 (su_NoBallot_NoSheet:PySem.W.subIn K (.ref c_NoBallot) (.ref c_NoSheet)=some false)
 (su_NoBallot_NoRow:PySem.W.subIn K (.ref c_NoBallot) (.ref c_NoRow)=some false)
 (su_NoBallot_NoNumber:PySem.W.subIn K (.ref c_NoBallot) (.ref c_NoNumber)=some false)
 (su_NoBallot_NoChange:PySem.W.subIn K (.ref c_NoBallot) (.ref c_NoChange)=some false)
 (su_NoBallot_Ended:PySem.W.subIn K (.ref c_NoBallot) (.ref c_Ended)=some false)
 (su_NoBallot_PollError:PySem.W.subIn K (.ref c_NoBallot) (.ref c_PollError)=some true) :
 ∃fd:FuncData,(∀(s:Shared) (v:Value),BindsTo s fd ⟨[v],[]⟩ [("_law_script",v)])/\∀base:Heap,K.In base->base.Ns mainGlobals mg->FnOk l.prog w K mg base CX0 9 fa fd ["_law_script"] (spLaw K):=by
 have e:=hfa.symm.trans (PySem.W.mg_of X G a44)
 cases e
 have F1:=fun_mk (st:=s_with_one) l1 c1 k1
 have b1:=F1.binds (ps:=["mask","hand"]) fun _ _ _ _ _ _ us hl=>match us,hl with | [_,_],_=>rfl
 have F2:=fun_mk (st:=s_members) l2 c2 k2
 have b2:=F2.binds (ps:=["mask"]) fun _ _ _ _ _ _ us hl=>match us,hl with | [_],_=>rfl
 have F3:=fun_mk (st:=s_is_whole) l3 c3 k3
 have b3:=F3.binds (ps:=["thing"]) fun _ _ _ _ _ _ us hl=>match us,hl with | [_],_=>rfl
 have F4:=fun_mk (st:=s_numbers_by_slip) l4 c4 k4
 have b4:=F4.binds (ps:=["lines"]) fun _ _ _ _ _ _ us hl=>match us,hl with | [_],_=>rfl
 have F5:=fun_mk (st:=s_sheet_from) l5 c5 k5
 have b5:=F5.binds (ps:=["numbers"]) fun _ _ _ _ _ _ us hl=>match us,hl with | [_],_=>rfl
 have F6:=fun_mk (st:=s_seal_of) l6 c6 k6
 have b6:=F6.binds (ps:=["codes"]) fun _ _ _ _ _ _ us hl=>match us,hl with | [_],_=>rfl
 have F7:=fun_mk (st:=s_place_of) l7 c7 k7
 have b7:=F7.binds (ps:=["lacks","many"]) fun _ _ _ _ _ _ us hl=>match us,hl with | [_,_],_=>rfl
 have F8:=fun_mk (st:=s_law_cell) l8 c8 k8
 have b8:=F8.binds (ps:=["_law_script","_law_k"]) fun _ _ _ _ _ _ us hl=>match us,hl with | [_,_],_=>rfl
 have F9:=fun_mk (st:=s_law_mixed) l9 c9 k9
 have b9:=F9.binds (ps:=["_law_cell_here","_law_by"]) fun _ _ _ _ _ _ us hl=>match us,hl with | [_,_],_=>rfl
 have F10:=fun_mk (st:=s_law_whole) l10 c10 k10
 have b10:=F10.binds (ps:=["_law_found"]) fun _ _ _ _ _ _ us hl=>match us,hl with | [_],_=>rfl
 have F11:=fun_mk (st:=s_law_slip) l11 c11 k11
 have b11:=F11.binds (ps:=["_law_ranks_here"]) fun _ _ _ _ _ _ us hl=>match us,hl with | [_],_=>rfl
 have F12:=fun_mk (st:=s_law_code) l12 c12 k12
 have b12:=F12.binds (ps:=["_law_ranks_here","_law_number"]) fun _ _ _ _ _ _ us hl=>match us,hl with | [_,_],_=>rfl
 have F13:=fun_mk (st:=s_law_seal) l13 c13 k13
 have b13:=F13.binds (ps:=["_law_codes"]) fun _ _ _ _ _ _ us hl=>match us,hl with | [_],_=>rfl
 have F14:=fun_mk (st:=s_law_sheet) l14 c14 k14
 have b14:=F14.binds (ps:=["_law_lines_here"]) fun _ _ _ _ _ _ us hl=>match us,hl with | [_],_=>rfl
 have F15:=fun_mk (st:=s_law_kind) l15 c15 k15
 have b15:=F15.binds (ps:=["_law_e"]) fun _ _ _ _ _ _ us hl=>match us,hl with | [_],_=>rfl
 have F16:=fun_mk (st:=s_Box_many) l16 c16 k16
 have b16:=F16.binds (ps:=["self"]) fun _ _ _ _ _ _ us hl=>match us,hl with | [_],_=>rfl
 have F17:=fun_mk (st:=s_is_rank) l17 c17 k17
 have b17:=F17.binds (ps:=["thing"]) fun _ _ _ _ _ _ us hl=>match us,hl with | [_],_=>rfl
 have F18:=fun_mk (st:=s_tier_at) l18 c18 k18
 have b18:=F18.binds (ps:=["ranks","wanted"]) fun _ _ _ _ _ _ us hl=>match us,hl with | [_,_],_=>rfl
 have F19:=fun_mk (st:=s_ranks_of) l19 c19 k19
 have b19:=F19.binds (ps:=["slip","hands"]) fun _ _ _ _ _ _ us hl=>match us,hl with | [_,_],_=>rfl
 have F20:=fun_mk (st:=s_is_number) l20 c20 k20
 have b20:=F20.binds (ps:=["thing"]) fun _ _ _ _ _ _ us hl=>match us,hl with | [_],_=>rfl
 have F21:=fun_mk (st:=s_mended) l21 c21 k21
 have b21:=F21.binds (ps:=["codes","seal"]) fun _ _ _ _ _ _ us hl=>match us,hl with | [_,_],_=>rfl
 have F22:=fun_mk (st:=s_are_hands) l22 c22 k22
 have b22:=F22.binds (ps:=["thing"]) fun _ _ _ _ _ _ us hl=>match us,hl with | [_],_=>rfl
 have F23:=fun_mk (st:=s_law_ranks) l23 c23 k23
 have b23:=F23.binds (ps:=["_law_cell_here","_law_hands"]) fun _ _ _ _ _ _ us hl=>match us,hl with | [_,_],_=>rfl
 have F24:=fun_mk (st:=s_law_many) l24 c24 k24
 have b24:=F24.binds (ps:=["_law_cell_here","_law_k"]) fun _ _ _ _ _ _ us hl=>match us,hl with | [_,_],_=>rfl
 have F25:=fun_mk (st:=s_law_line) l25 c25 k25
 have b25:=F25.binds (ps:=["_law_found","_law_due"]) fun _ _ _ _ _ _ us hl=>match us,hl with | [_,_],_=>rfl
 have F26:=fun_mk (st:=s_law_codes_of) l26 c26 k26
 have b26:=F26.binds (ps:=["_law_lines_here","_law_hands"]) fun _ _ _ _ _ _ us hl=>match us,hl with | [_,_],_=>rfl
 have F27:=fun_mk (st:=s_law_seal_is) l27 c27 k27
 have b27:=F27.binds (ps:=["_law_found","_law_due"]) fun _ _ _ _ _ _ us hl=>match us,hl with | [_,_],_=>rfl
 have F28:=fun_mk (st:=s_law_no_line) l28 c28 k28
 have b28:=F28.binds (ps:=["_law_hands","_law_number"]) fun _ _ _ _ _ _ us hl=>match us,hl with | [_,_],_=>rfl
 have F29:=fun_mk (st:=s_Box_lines_at) l29 c29 k29
 have b29:=F29.binds (ps:=["self","k"]) fun _ _ _ _ _ _ us hl=>match us,hl with | [_,_],_=>rfl
 have F30:=fun_mk (st:=s_are_ranks) l30 c30 k30
 have b30:=F30.binds (ps:=["thing","hands"]) fun _ _ _ _ _ _ us hl=>match us,hl with | [_,_],_=>rfl
 have F31:=fun_mk (st:=s_sheet_of) l31 c31 k31
 have b31:=F31.binds (ps:=["lines"]) fun _ _ _ _ _ _ us hl=>match us,hl with | [_],_=>rfl
 have F32:=fun_mk (st:=s_code_of) l32 c32 k32
 have b32:=F32.binds (ps:=["line","hands"]) fun _ _ _ _ _ _ us hl=>match us,hl with | [_,_],_=>rfl
 have F33:=fun_mk (st:=s_law_lines) l33 c33 k33
 have b33:=F33.binds (ps:=["_law_found","_law_due"]) fun _ _ _ _ _ _ us hl=>match us,hl with | [_,_],_=>rfl
 have F34:=fun_mk (st:=s_Box_init) l34 c34 k34
 have b34:=F34.binds (ps:=["self","hands"]) fun _ _ _ _ _ _ us hl=>match us,hl with | [_,_],_=>rfl
 have F35:=fun_mk (st:=s_slip_of) l35 c35 k35
 have b35:=F35.binds (ps:=["ranks","hands"]) fun _ _ _ _ _ _ us hl=>match us,hl with | [_,_],_=>rfl
 have F36:=fun_mk (st:=s_Box_sheet_at) l36 c36 k36
 have b36:=F36.binds (ps:=["self","k"]) fun _ _ _ _ _ _ us hl=>match us,hl with | [_,_],_=>rfl
 have F37:=fun_mk (st:=s_Box_seal_at) l37 c37 k37
 have b37:=F37.binds (ps:=["self","k"]) fun _ _ _ _ _ _ us hl=>match us,hl with | [_,_],_=>rfl
 have F38:=fun_mk (st:=s_line_of) l38 c38 k38
 have b38:=F38.binds (ps:=["code","hands"]) fun _ _ _ _ _ _ us hl=>match us,hl with | [_,_],_=>rfl
 have F39:=fun_mk (st:=s_law_no_box) l39 c39 k39
 have b39:=F39.binds (ps:=["_law_hands"]) fun _ _ _ _ _ _ us hl=>match us,hl with | [_],_=>rfl
 have F40:=fun_mk (st:=s_law_no_bundle) l40 c40 k40
 have b40:=F40.binds (ps:=["_law_box","_law_k","_law_way"]) fun _ _ _ _ _ _ us hl=>match us,hl with | [_,_,_],_=>rfl
 have F41:=fun_mk (st:=s_Box_take) l41 c41 k41
 have b41:=F41.binds (ps:=["self","codes","seal"]) fun _ _ _ _ _ _ us hl=>match us,hl with | [_,_,_],_=>rfl
 have F42:=fun_mk (st:=s_law_untaken) l42 c42 k42
 have b42:=F42.binds (ps:=["_law_box","_law_codes","_law_seal_here"]) fun _ _ _ _ _ _ us hl=>match us,hl with | [_,_,_],_=>rfl
 have F43:=fun_mk (st:=s_law_refusals) l43 c43 k43
 have b43:=F43.binds (ps:=["_law_box","_law_codes","_law_hands","_law_number"]) fun _ _ _ _ _ _ us hl=>match us,hl with | [_,_,_,_],_=>rfl
 have F44:=fun_mk (st:=s_law) l44 c44 k44
 have b44:=F44.binds (ps:=["_law_script"]) fun _ _ _ _ _ _ us hl=>match us,hl with | [_],_=>rfl
 have T:Tx K mg (⟨f1,_,f2,_,f3,_,f4,_,f5,_,f6,_,f7,_,f8,_,f9,_,f10,_,f11,_,f12,_,f13,_,f14,_,f15,_,f16,_,f17,_,f18,_,f19,_,f20,_,f21,_,f22,_,f23,_,f24,_,f25,_,f26,_,f27,_,f28,_,f29,_,f30,_,f31,_,f32,_,f33,_,f34,_,f35,_,f36,_,f37,_,f38,_,f39,_,f40,_,f41,_,f42,_,f43,_,fa,_,c_NoBundle,c_NoBallot,c_Torn,c_NoWay,c_WrongNumber,c_TooHard,c_NoSheet,c_NoRow,c_NoNumber,c_NoChange,c_Ended,c_PollError,c_Box,t_MOST_RANK,t_MOST_BALLOTS,t_MOST_HANDS,t_BASE⟩:Ads):=⟨F1,b1,PySem.W.mg_of X G a1,F2,b2,PySem.W.mg_of X G a2,F3,b3,PySem.W.mg_of X G a3,F4,b4,PySem.W.mg_of X G a4,F5,b5,PySem.W.mg_of X G a5,F6,b6,PySem.W.mg_of X G a6,F7,b7,PySem.W.mg_of X G a7,F8,b8,PySem.W.mg_of X G a8,F9,b9,PySem.W.mg_of X G a9,F10,b10,PySem.W.mg_of X G a10,F11,b11,PySem.W.mg_of X G a11,F12,b12,PySem.W.mg_of X G a12,F13,b13,PySem.W.mg_of X G a13,F14,b14,PySem.W.mg_of X G a14,F15,b15,PySem.W.mg_of X G a15,F16,b16,F17,b17,PySem.W.mg_of X G a17,F18,b18,PySem.W.mg_of X G a18,F19,b19,PySem.W.mg_of X G a19,F20,b20,PySem.W.mg_of X G a20,F21,b21,PySem.W.mg_of X G a21,F22,b22,PySem.W.mg_of X G a22,F23,b23,PySem.W.mg_of X G a23,F24,b24,PySem.W.mg_of X G a24,F25,b25,PySem.W.mg_of X G a25,F26,b26,PySem.W.mg_of X G a26,F27,b27,PySem.W.mg_of X G a27,F28,b28,PySem.W.mg_of X G a28,F29,b29,F30,b30,PySem.W.mg_of X G a30,F31,b31,PySem.W.mg_of X G a31,F32,b32,PySem.W.mg_of X G a32,F33,b33,PySem.W.mg_of X G a33,F34,b34,F35,b35,PySem.W.mg_of X G a35,F36,b36,F37,b37,F38,b38,PySem.W.mg_of X G a38,F39,b39,PySem.W.mg_of X G a39,F40,b40,PySem.W.mg_of X G a40,F41,b41,F42,b42,PySem.W.mg_of X G a42,F43,b43,PySem.W.mg_of X G a43,F44,b44,PySem.W.mg_of X G a44,PySem.W.mg_none_of X G z0,PySem.W.mg_none_of X G z1,PySem.W.mg_none_of X G z2,PySem.W.mg_none_of X G z3,PySem.W.mg_none_of X G z4,PySem.W.mg_none_of X G z5,PySem.W.mg_none_of X G z6,PySem.W.mg_none_of X G z7,PySem.W.mg_none_of X G z8,PySem.W.mg_none_of X G z9,PySem.W.mg_none_of X G z10,PySem.W.mg_none_of X G z11,PySem.W.mg_none_of X G z12,PySem.W.mg_none_of X G z13,PySem.W.mg_none_of X G z14,PySem.W.mg_none_of X G z15,PySem.W.mg_of X G kc_MOST_RANK,PySem.W.mg_of X G kc_MOST_BALLOTS,PySem.W.mg_of X G kc_MOST_HANDS,PySem.W.mg_of X G kc_BASE,PySem.W.mg_of X G mc_NoBundle,⟨ty_NoBundle,be_NoBundle⟩,PySem.W.mg_of X G mc_NoBallot,⟨ty_NoBallot,be_NoBallot⟩,PySem.W.mg_of X G mc_Torn,⟨ty_Torn,be_Torn⟩,PySem.W.mg_of X G mc_NoWay,⟨ty_NoWay,be_NoWay⟩,PySem.W.mg_of X G mc_WrongNumber,⟨ty_WrongNumber,be_WrongNumber⟩,PySem.W.mg_of X G mc_TooHard,⟨ty_TooHard,be_TooHard⟩,PySem.W.mg_of X G mc_NoSheet,⟨ty_NoSheet,be_NoSheet⟩,PySem.W.mg_of X G mc_NoRow,⟨ty_NoRow,be_NoRow⟩,PySem.W.mg_of X G mc_NoNumber,⟨ty_NoNumber,be_NoNumber⟩,PySem.W.mg_of X G mc_NoChange,⟨ty_NoChange,be_NoChange⟩,PySem.W.mg_of X G mc_Ended,⟨ty_Ended,be_Ended⟩,PySem.W.mg_of X G mc_PollError,⟨ty_PollError,be_PollError⟩,PySem.W.mg_of X G mc_Box,⟨pg_Box,hd_Box,po_Box,sa_Box⟩,⟨mm_Box,mi_Box,mf_Box,mk_Box⟩,⟨ma_Box_many,mn_Box_many,k16⟩,⟨ma_Box_take,mn_Box_take,k41⟩,⟨ma_Box_lines_at,mn_Box_lines_at,k29⟩,⟨ma_Box_sheet_at,mn_Box_sheet_at,k36⟩,⟨ma_Box_seal_at,mn_Box_seal_at,k37⟩,na_Box_hands,na_Box_bundles,xq_Torn,⟨⟨ga_Torn,gh_Torn,be_Torn⟩,cl_Torn,gt0,tk0,ob_Torn⟩,ve_Torn,su_Torn_NoBundle,su_Torn_NoBallot,su_Torn_Torn,su_Torn_NoWay,su_Torn_WrongNumber,su_Torn_TooHard,su_Torn_NoSheet,su_Torn_NoRow,su_Torn_NoNumber,su_Torn_NoChange,su_Torn_Ended,su_Torn_PollError,xq_NoBundle,⟨⟨ga_NoBundle,gh_NoBundle,be_NoBundle⟩,cl_NoBundle,gt0,tk0,ob_NoBundle⟩,ve_NoBundle,su_NoBundle_NoBundle,su_NoBundle_NoBallot,su_NoBundle_Torn,su_NoBundle_NoWay,su_NoBundle_WrongNumber,su_NoBundle_TooHard,su_NoBundle_NoSheet,su_NoBundle_NoRow,su_NoBundle_NoNumber,su_NoBundle_NoChange,su_NoBundle_Ended,su_NoBundle_PollError,xq_NoWay,⟨⟨ga_NoWay,gh_NoWay,be_NoWay⟩,cl_NoWay,gt0,tk0,ob_NoWay⟩,ve_NoWay,su_NoWay_NoBundle,su_NoWay_NoBallot,su_NoWay_Torn,su_NoWay_NoWay,su_NoWay_WrongNumber,su_NoWay_TooHard,su_NoWay_NoSheet,su_NoWay_NoRow,su_NoWay_NoNumber,su_NoWay_NoChange,su_NoWay_Ended,su_NoWay_PollError,xq_NoBallot,⟨⟨ga_NoBallot,gh_NoBallot,be_NoBallot⟩,cl_NoBallot,gt0,tk0,ob_NoBallot⟩,ve_NoBallot,su_NoBallot_NoBundle,su_NoBallot_NoBallot,su_NoBallot_Torn,su_NoBallot_NoWay,su_NoBallot_WrongNumber,su_NoBallot_TooHard,su_NoBallot_NoSheet,su_NoBallot_NoRow,su_NoBallot_NoNumber,su_NoBallot_NoChange,su_NoBallot_Ended,su_NoBallot_PollError⟩
 exact ⟨PySem.W.fnOf "law" "law" (defArgs s_law) (defBody s_law) (defScope s_law) .none kV44 dc44 pm44 an44 cd44 ct44,fun s v=>.of_eq rfl,fun base _ _=>ok_law T⟩
theorem walk {l:PySem.W.OpenLaw} {q:Program} {loose:List Str} {XP:(Str->Option Value)->Heap->Prop} {YP:World->Heap->Prop} {d:DefRec} {K:Params->PySem.W.Frag} (hn:l.most=some 63) (hdf:d.params.defaults=[])
 (hY:∀(w:World) (h:Heap),YP w h->(K w.params).In h)
 (F:∀(w:World) (mg:Str->Option Value) (fa:Addr) (h:Heap),(K w.params).In h->h.Ns mainGlobals mg->mg d.name=some (.ref fa) ->
  ∃fd:FuncData,(∀(s:Shared) (u:Value),BindsTo s fd ⟨[u],[]⟩ [("_law_script",u)])/\∀base:Heap,(K w.params).In base->base.Ns mainGlobals mg->FnOk l.prog w (K w.params) mg base CX0 9 fa fd ["_law_script"] (spLaw (K w.params))) :
 PySem.W.WalkO q loose XP YP l.row.toRowW d [] (fun f vs=>PySem.call f vs) :=
 L2.walk_of (n:=63) (k:=9) (x:="_law_script") (CX:=fun _=>CX0) (sp:=fun w=>spLaw (K w.params)) hn (by decide) hdf ⟨rfl,by decide,by decide⟩ hY F (fun _ _ a ns hl _ hS=>⟨a,ns,rfl,hS,hl,fun _=>rfl⟩) fun _ _ _ _ _ z=>z
end Law
open PySem PySem.W PyProof.Rows
set_option maxRecDepth 100000 in
set_option maxHeartbeats 0 in
theorem PySem.Challenge.cw_pollproof_k38_what_a_box_refuses_holds : PySem.Challenge.rw_pollproof_k38_what_a_box_refuses.Holds := by
 refine Head.top ?_
 k_fill
 refine Law.walk (l:=PySem.Challenge.rw_pollproof_k38_what_a_box_refuses) rfl rfl (fun w h Y=>PySem.W.kIn_of Y) ?F
 case F =>
  intro w mg fa h KX G hmg
  refine' Law.all_mk KX G hmg ?a1 ?l1 ?c1 ?k1 ?a2 ?l2 ?c2 ?k2 ?a3 ?l3 ?c3 ?k3 ?a4 ?l4 ?c4 ?k4 ?a5 ?l5 ?c5 ?k5 ?a6 ?l6 ?c6 ?k6 ?a7 ?l7 ?c7 ?k7 ?a8 ?l8 ?c8 ?k8 ?a9 ?l9 ?c9 ?k9 ?a10 ?l10 ?c10 ?k10 ?a11 ?l11 ?c11 ?k11 ?a12 ?l12 ?c12 ?k12 ?a13 ?l13 ?c13 ?k13 ?a14 ?l14 ?c14 ?k14 ?a15 ?l15 ?c15 ?k15 ?l16 ?c16 ?k16 ?a17 ?l17 ?c17 ?k17 ?a18 ?l18 ?c18 ?k18 ?a19 ?l19 ?c19 ?k19 ?a20 ?l20 ?c20 ?k20 ?a21 ?l21 ?c21 ?k21 ?a22 ?l22 ?c22 ?k22 ?a23 ?l23 ?c23 ?k23 ?a24 ?l24 ?c24 ?k24 ?a25 ?l25 ?c25 ?k25 ?a26 ?l26 ?c26 ?k26 ?a27 ?l27 ?c27 ?k27 ?a28 ?l28 ?c28 ?k28 ?l29 ?c29 ?k29 ?a30 ?l30 ?c30 ?k30 ?a31 ?l31 ?c31 ?k31 ?a32 ?l32 ?c32 ?k32 ?a33 ?l33 ?c33 ?k33 ?l34 ?c34 ?k34 ?a35 ?l35 ?c35 ?k35 ?l36 ?c36 ?k36 ?l37 ?c37 ?k37 ?a38 ?l38 ?c38 ?k38 ?a39 ?l39 ?c39 ?k39 ?a40 ?l40 ?c40 ?k40 ?l41 ?c41 ?k41 ?a42 ?l42 ?c42 ?k42 ?a43 ?l43 ?c43 ?k43 ?a44 ?l44 ?c44 ?k44 ?z0 ?z1 ?z2 ?z3 ?z4 ?z5 ?z6 ?z7 ?z8 ?z9 ?z10 ?z11 ?z12 ?z13 ?z14 ?z15 ?kc_MOST_RANK ?kc_MOST_BALLOTS ?kc_MOST_HANDS ?kc_BASE ?mc_NoBundle ?ty_NoBundle ?be_NoBundle ?mc_NoBallot ?ty_NoBallot ?be_NoBallot ?mc_Torn ?ty_Torn ?be_Torn ?mc_NoWay ?ty_NoWay ?be_NoWay ?mc_WrongNumber ?ty_WrongNumber ?be_WrongNumber ?mc_TooHard ?ty_TooHard ?be_TooHard ?mc_NoSheet ?ty_NoSheet ?be_NoSheet ?mc_NoRow ?ty_NoRow ?be_NoRow ?mc_NoNumber ?ty_NoNumber ?be_NoNumber ?mc_NoChange ?ty_NoChange ?be_NoChange ?mc_Ended ?ty_Ended ?be_Ended ?mc_PollError ?ty_PollError ?be_PollError ?mc_Box ?pg_Box ?hd_Box ?po_Box ?sa_Box ?mm_Box ?mi_Box ?mf_Box ?mk_Box ?ma_Box_many ?mn_Box_many ?ma_Box_take ?mn_Box_take ?ma_Box_lines_at ?mn_Box_lines_at ?ma_Box_sheet_at ?mn_Box_sheet_at ?ma_Box_seal_at ?mn_Box_seal_at ?na_Box_hands ?na_Box_bundles ?gt0 ?tk0 ?xq_Torn ?xq_NoBundle ?xq_NoWay ?xq_NoBallot ?ga_Torn ?gh_Torn ?cl_Torn ?ob_Torn ?ve_Torn ?su_Torn_NoBundle ?su_Torn_NoBallot ?su_Torn_Torn ?su_Torn_NoWay ?su_Torn_WrongNumber ?su_Torn_TooHard ?su_Torn_NoSheet ?su_Torn_NoRow ?su_Torn_NoNumber ?su_Torn_NoChange ?su_Torn_Ended ?su_Torn_PollError ?ga_NoBundle ?gh_NoBundle ?cl_NoBundle ?ob_NoBundle ?ve_NoBundle ?su_NoBundle_NoBundle ?su_NoBundle_NoBallot ?su_NoBundle_Torn ?su_NoBundle_NoWay ?su_NoBundle_WrongNumber ?su_NoBundle_TooHard ?su_NoBundle_NoSheet ?su_NoBundle_NoRow ?su_NoBundle_NoNumber ?su_NoBundle_NoChange ?su_NoBundle_Ended ?su_NoBundle_PollError ?ga_NoWay ?gh_NoWay ?cl_NoWay ?ob_NoWay ?ve_NoWay ?su_NoWay_NoBundle ?su_NoWay_NoBallot ?su_NoWay_Torn ?su_NoWay_NoWay ?su_NoWay_WrongNumber ?su_NoWay_TooHard ?su_NoWay_NoSheet ?su_NoWay_NoRow ?su_NoWay_NoNumber ?su_NoWay_NoChange ?su_NoWay_Ended ?su_NoWay_PollError ?ga_NoBallot ?gh_NoBallot ?cl_NoBallot ?ob_NoBallot ?ve_NoBallot ?su_NoBallot_NoBundle ?su_NoBallot_NoBallot ?su_NoBallot_Torn ?su_NoBallot_NoWay ?su_NoBallot_WrongNumber ?su_NoBallot_TooHard ?su_NoBallot_NoSheet ?su_NoBallot_NoRow ?su_NoBallot_NoNumber ?su_NoBallot_NoChange ?su_NoBallot_Ended ?su_NoBallot_PollError
  (case a1=>k_is)
  (case l1=>k_is)
  (case c1=>k_is)
  (case k1=>k_is)
  (case a2=>k_is)
  (case l2=>k_is)
  (case c2=>k_is)
  (case k2=>k_is)
  (case a3=>k_is)
  (case l3=>k_is)
  (case c3=>k_is)
  (case k3=>k_is)
  (case a4=>k_is)
  (case l4=>k_is)
  (case c4=>k_is)
  (case k4=>k_is)
  (case a5=>k_is)
  (case l5=>k_is)
  (case c5=>k_is)
  (case k5=>k_is)
  (case a6=>k_is)
  (case l6=>k_is)
  (case c6=>k_is)
  (case k6=>k_is)
  (case a7=>k_is)
  (case l7=>k_is)
  (case c7=>k_is)
  (case k7=>k_is)
  (case a8=>k_is)
  (case l8=>k_is)
  (case c8=>k_is)
  (case k8=>k_is)
  (case a9=>k_is)
  (case l9=>k_is)
  (case c9=>k_is)
  (case k9=>k_is)
  (case a10=>k_is)
  (case l10=>k_is)
  (case c10=>k_is)
  (case k10=>k_is)
  (case a11=>k_is)
  (case l11=>k_is)
  (case c11=>k_is)
  (case k11=>k_is)
  (case a12=>k_is)
  (case l12=>k_is)
  (case c12=>k_is)
  (case k12=>k_is)
  (case a13=>k_is)
  (case l13=>k_is)
  (case c13=>k_is)
  (case k13=>k_is)
  (case a14=>k_is)
  (case l14=>k_is)
  (case c14=>k_is)
  (case k14=>k_is)
  (case a15=>k_is)
  (case l15=>k_is)
  (case c15=>k_is)
  (case k15=>k_is)
  (case a17=>k_is)
  (case l17=>k_is)
  (case c17=>k_is)
  (case k17=>k_is)
  (case a18=>k_is)
  (case l18=>k_is)
  (case c18=>k_is)
  (case k18=>k_is)
  (case a19=>k_is)
  (case l19=>k_is)
  (case c19=>k_is)
  (case k19=>k_is)
  (case a20=>k_is)
  (case l20=>k_is)
  (case c20=>k_is)
  (case k20=>k_is)
  (case a21=>k_is)
  (case l21=>k_is)
  (case c21=>k_is)
  (case k21=>k_is)
  (case a22=>k_is)
  (case l22=>k_is)
  (case c22=>k_is)
  (case k22=>k_is)
  (case a23=>k_is)
  (case l23=>k_is)
  (case c23=>k_is)
  (case k23=>k_is)
  (case a24=>k_is)
  (case l24=>k_is)
  (case c24=>k_is)
  (case k24=>k_is)
  (case a25=>k_is)
  (case l25=>k_is)
  (case c25=>k_is)
  (case k25=>k_is)
  (case a26=>k_is)
  (case l26=>k_is)
  (case c26=>k_is)
  (case k26=>k_is)
  (case a27=>k_is)
  (case l27=>k_is)
  (case c27=>k_is)
  (case k27=>k_is)
  (case a28=>k_is)
  (case l28=>k_is)
  (case c28=>k_is)
  (case k28=>k_is)
  (case a30=>k_is)
  (case l30=>k_is)
  (case c30=>k_is)
  (case k30=>k_is)
  (case a31=>k_is)
  (case l31=>k_is)
  (case c31=>k_is)
  (case k31=>k_is)
  (case a32=>k_is)
  (case l32=>k_is)
  (case c32=>k_is)
  (case k32=>k_is)
  (case a33=>k_is)
  (case l33=>k_is)
  (case c33=>k_is)
  (case k33=>k_is)
  (case a35=>k_is)
  (case l35=>k_is)
  (case c35=>k_is)
  (case k35=>k_is)
  (case a38=>k_is)
  (case l38=>k_is)
  (case c38=>k_is)
  (case k38=>k_is)
  (case a39=>k_is)
  (case l39=>k_is)
  (case c39=>k_is)
  (case k39=>k_is)
  (case a40=>k_is)
  (case l40=>k_is)
  (case c40=>k_is)
  (case k40=>k_is)
  (case a42=>k_is)
  (case l42=>k_is)
  (case c42=>k_is)
  (case k42=>k_is)
  (case a43=>k_is)
  (case l43=>k_is)
  (case c43=>k_is)
  (case k43=>k_is)
  (case a44=>k_is)
  (case l44=>k_is)
  (case c44=>k_is)
  (case k44=>k_is)
  (case z0=>k_is)
  (case z1=>k_is)
  (case z2=>k_is)
  (case z3=>k_is)
  (case z4=>k_is)
  (case z5=>k_is)
  (case z6=>k_is)
  (case z7=>k_is)
  (case z8=>k_is)
  (case z9=>k_is)
  (case z10=>k_is)
  (case z11=>k_is)
  (case z12=>k_is)
  (case z13=>k_is)
  (case z14=>k_is)
  (case z15=>k_is)
  (case kc_MOST_RANK=>k_is)
  (case kc_MOST_BALLOTS=>k_is)
  (case kc_MOST_HANDS=>k_is)
  (case kc_BASE=>k_is)
  (case mc_NoBundle=>k_is)
  (case ty_NoBundle=>k_is)
  (case be_NoBundle=>k_is)
  (case mc_NoBallot=>k_is)
  (case ty_NoBallot=>k_is)
  (case be_NoBallot=>k_is)
  (case mc_Torn=>k_is)
  (case ty_Torn=>k_is)
  (case be_Torn=>k_is)
  (case mc_NoWay=>k_is)
  (case ty_NoWay=>k_is)
  (case be_NoWay=>k_is)
  (case mc_WrongNumber=>k_is)
  (case ty_WrongNumber=>k_is)
  (case be_WrongNumber=>k_is)
  (case mc_TooHard=>k_is)
  (case ty_TooHard=>k_is)
  (case be_TooHard=>k_is)
  (case mc_NoSheet=>k_is)
  (case ty_NoSheet=>k_is)
  (case be_NoSheet=>k_is)
  (case mc_NoRow=>k_is)
  (case ty_NoRow=>k_is)
  (case be_NoRow=>k_is)
  (case mc_NoNumber=>k_is)
  (case ty_NoNumber=>k_is)
  (case be_NoNumber=>k_is)
  (case mc_NoChange=>k_is)
  (case ty_NoChange=>k_is)
  (case be_NoChange=>k_is)
  (case mc_Ended=>k_is)
  (case ty_Ended=>k_is)
  (case be_Ended=>k_is)
  (case mc_PollError=>k_is)
  (case ty_PollError=>k_is)
  (case be_PollError=>k_is)
  (case mc_Box=>k_is)
  (case pg_Box=>k_is)
  (case hd_Box=>k_is)
  (case po_Box=>k_is)
  (case sa_Box=>k_is)
  (case mm_Box=>k_is)
  (case mi_Box=>k_is)
  (case mf_Box=>k_is)
  (case mk_Box=>k_is)
  (case ma_Box_many=>k_is)
  (case mn_Box_many=>k_is)
  (case ma_Box_take=>k_is)
  (case mn_Box_take=>k_is)
  (case ma_Box_lines_at=>k_is)
  (case mn_Box_lines_at=>k_is)
  (case ma_Box_sheet_at=>k_is)
  (case mn_Box_sheet_at=>k_is)
  (case ma_Box_seal_at=>k_is)
  (case mn_Box_seal_at=>k_is)
  (case na_Box_hands=>k_is)
  (case na_Box_bundles=>k_is)
  (case gt0=>k_is)
  (case tk0=>k_is)
  (case xq_Torn=>k_exc)
  (case xq_NoBundle=>k_exc)
  (case xq_NoWay=>k_exc)
  (case xq_NoBallot=>k_exc)
  (case ga_Torn=>k_is)
  (case gh_Torn=>k_is)
  (case cl_Torn=>k_is)
  (case ob_Torn=>k_is)
  (case ve_Torn=>k_is)
  (case su_Torn_NoBundle=>k_is)
  (case su_Torn_NoBallot=>k_is)
  (case su_Torn_Torn=>k_is)
  (case su_Torn_NoWay=>k_is)
  (case su_Torn_WrongNumber=>k_is)
  (case su_Torn_TooHard=>k_is)
  (case su_Torn_NoSheet=>k_is)
  (case su_Torn_NoRow=>k_is)
  (case su_Torn_NoNumber=>k_is)
  (case su_Torn_NoChange=>k_is)
  (case su_Torn_Ended=>k_is)
  (case su_Torn_PollError=>k_is)
  (case ga_NoBundle=>k_is)
  (case gh_NoBundle=>k_is)
  (case cl_NoBundle=>k_is)
  (case ob_NoBundle=>k_is)
  (case ve_NoBundle=>k_is)
  (case su_NoBundle_NoBundle=>k_is)
  (case su_NoBundle_NoBallot=>k_is)
  (case su_NoBundle_Torn=>k_is)
  (case su_NoBundle_NoWay=>k_is)
  (case su_NoBundle_WrongNumber=>k_is)
  (case su_NoBundle_TooHard=>k_is)
  (case su_NoBundle_NoSheet=>k_is)
  (case su_NoBundle_NoRow=>k_is)
  (case su_NoBundle_NoNumber=>k_is)
  (case su_NoBundle_NoChange=>k_is)
  (case su_NoBundle_Ended=>k_is)
  (case su_NoBundle_PollError=>k_is)
  (case ga_NoWay=>k_is)
  (case gh_NoWay=>k_is)
  (case cl_NoWay=>k_is)
  (case ob_NoWay=>k_is)
  (case ve_NoWay=>k_is)
  (case su_NoWay_NoBundle=>k_is)
  (case su_NoWay_NoBallot=>k_is)
  (case su_NoWay_Torn=>k_is)
  (case su_NoWay_NoWay=>k_is)
  (case su_NoWay_WrongNumber=>k_is)
  (case su_NoWay_TooHard=>k_is)
  (case su_NoWay_NoSheet=>k_is)
  (case su_NoWay_NoRow=>k_is)
  (case su_NoWay_NoNumber=>k_is)
  (case su_NoWay_NoChange=>k_is)
  (case su_NoWay_Ended=>k_is)
  (case su_NoWay_PollError=>k_is)
  (case ga_NoBallot=>k_is)
  (case gh_NoBallot=>k_is)
  (case cl_NoBallot=>k_is)
  (case ob_NoBallot=>k_is)
  (case ve_NoBallot=>k_is)
  (case su_NoBallot_NoBundle=>k_is)
  (case su_NoBallot_NoBallot=>k_is)
  (case su_NoBallot_Torn=>k_is)
  (case su_NoBallot_NoWay=>k_is)
  (case su_NoBallot_WrongNumber=>k_is)
  (case su_NoBallot_TooHard=>k_is)
  (case su_NoBallot_NoSheet=>k_is)
  (case su_NoBallot_NoRow=>k_is)
  (case su_NoBallot_NoNumber=>k_is)
  (case su_NoBallot_NoChange=>k_is)
  (case su_NoBallot_Ended=>k_is)
  (case su_NoBallot_PollError=>k_is)
  (case l16=>k_is)
  (case c16=>k_is)
  (case k16=>k_is)
  (case l29=>k_is)
  (case c29=>k_is)
  (case k29=>k_is)
  (case l34=>k_is)
  (case c34=>k_is)
  (case k34=>k_is)
  (case l36=>k_is)
  (case c36=>k_is)
  (case k36=>k_is)
  (case l37=>k_is)
  (case c37=>k_is)
  (case k37=>k_is)
  (case l41=>k_is)
  (case c41=>k_is)
  (case k41=>k_is)
#print axioms PySem.Challenge.cw_pollproof_k38_what_a_box_refuses_holds
