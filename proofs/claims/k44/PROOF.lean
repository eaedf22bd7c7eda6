import PyProof.Rows.All
import Wide.All
import OpenK.AllK
import Wide.FinOn
import Lean
import PyProof.EqAt
import PyProof.EqKinds
import PyProof.TupleCall
import PySem.Challenge.RW_pollproof_k44_tallies_of_two_sheets
set_option Elab.async false
set_option linter.all false
set_option compiler.extract_closed false
set_option maxRecDepth 100000
namespace Head
open PySem PySem.W PyProof.Rows
def runT (p:Program) (w:World) (n0:Nat) (ann:Option Value):Nat->SharedT->Thread->Option SharedT
 | 0,_,_=>none
 | n+1,s,t=>match through t with
   | true=>some s
   | false=>match stepOk n0 ann t with
     | false=>none
     | true=>match stepT (denote treeTable) p w s t with
       | some (s',t')=>runT p w n0 ann n s' t'
       | none=>none
theorem runT_of {p:Program} {w:World} {n0:Nat} {ann:Option Value}:∀{n:Nat} {s s':SharedT} {t:Thread},runT p w n0 ann n s t=some s'->topRun treeTable p w n0 ann n s.abs t=some s'.abs
 | 0,_,_,_,h=>by cases h
 | n+1,s,s',t,h=>by
   unfold runT at h
   unfold topRun
   cases he:through t with
   | true=>rw [he] at h;cases h;rfl
   | false =>
     rw [he] at h
     cases hk:stepOk n0 ann t with
     | false=>rw [hk] at h;cases h
     | true =>
       rw [hk] at h
       cases hs:stepT (denote treeTable) p w s t with
       | none=>rw [hs] at h;cases h
       | some r=>obtain ⟨s2,t2⟩:=r;rw [hs] at h;rw [stepT_spec hs];exact runT_of h
def grow:List Obj->Nat->BT->Option BT
 | [],_,t=>some t
 | o :: os,n,t=>match ((t.ins n o).get n).isSome with
   | true=>grow os (n+1) (t.ins n o)
   | false=>none
theorem grow_of {life:Life}:∀{os:List Obj} {n:Nat} {t t':BT} {xs:List Obj},(absHeap t n life)=⟨xs.toArray,life⟩->grow os n t=some t'->absHeap t' (n+os.length) life=⟨(xs++os).toArray,life⟩
 | [],n,t,t',xs,a,h=>by
   cases h
   rw [List.append_nil]
   exact a
 | o :: os,n,t,t',xs,a,h=>by
   unfold grow at h
   cases g:((t.ins n o).get n).isSome with
   | false=>rw [g] at h;cases h
   | true =>
     rw [g] at h
     have b:absHeap (t.ins n o) (n+1) life=⟨(xs++[o]).toArray,life⟩:=by
      rw [absHeap_ins g,a]
      show (⟨xs.toArray.push o,life⟩:Heap)=_
      rw [List.push_toArray]
     have c:=grow_of b h
     rw [List.append_assoc] at c
     rw [List.length_cons,show n+(os.length+1)=n+1+os.length by omega]
     exact c
theorem grow_all {H:Heap} {T:BT} (h:grow H.objs.toList 0 .nil=some T):absHeap T H.objs.size H.life=H:=by
 have c:=grow_of (life:=H.life) (n:=0) (t:=.nil) (xs:=[]) rfl h
 rw [Nat.zero_add,Array.length_toList] at c
 rw [c]
 obtain ⟨a,l⟩:=H
 show (⟨([]++a.toList).toArray,l⟩:Heap)=⟨a,l⟩
 rw [List.nil_append,Array.toArray_toList]
theorem left {p q:Program} {loose:List PySem.Str} {Xt:Shared->Bool} {α:Type} {Yf:Shared->α} {Ya:World->α} {N:Nat} {g0:Bool}
 (e:opening p=plainProg p.main.scope.names) (hN:Nat.ble 600 N=true) (f:∀s,fenceModules? p s=some s)
 (h:∀(w:World) (os:OsState),((grow (boot_heap w.params).objs.toList 0 .nil).bind fun T=>(runT p w (boot_heap w.params).objs.size ((boot_heap w.params).nsMap mainGlobals "__annotations__") N ⟨T,(boot_heap w.params).objs.size,(boot_heap w.params).life,Array.mk [],boot_drawn,boot_toks,os⟩ (topStub p)).map fun s =>
  (((boot_heap w.params).isNs mainGlobals,staticsOk (importedModules p.main.body) (boot_heap w.params) s.abs.heap && namesBound p s.abs.heap && gensDone s.abs && laidKept (boot_heap w.params) s.abs.heap),openSeen q loose (importedModules p.main.body) Xt g0 s.abs,Yf s.abs)) =
  some ((true,true),openGood q loose,Ya w)):LeftO p q loose Xt Yf Ya N g0:=fun w=>by
 obtain ⟨⟨hp,gs,d,k,os⟩,e1,e2⟩:=Option.map_eq_some_iff.mp (boot_open e hN f w)
 obtain ⟨rfl,rfl,rfl,rfl⟩:hp=boot_heap w.params/\gs=Array.mk []/\d=boot_drawn/\k=boot_toks:=by simpa using e2
 have z:=h w os
 cases gT:grow (boot_heap w.params).objs.toList 0 .nil with
 | none=>rw [gT] at z;cases z
 | some T =>
   rw [gT] at z
   obtain ⟨s,r,y⟩:=Option.map_eq_some_iff.mp z
   have r':=runT_of r
   injection y with y1 y2
   injection y1 with y3 y4
   injection y2 with y5 y6
   have a:(⟨T,(boot_heap w.params).objs.size,(boot_heap w.params).life,Array.mk [],boot_drawn,boot_toks,os⟩:SharedT).abs=⟨boot_heap w.params,Array.mk [],boot_drawn,boot_toks,os⟩:=by
    unfold SharedT.abs
    rw [grow_all gT]
   rw [a] at r'
   unfold openEnds
   rw [e1]
   show (topFrom treeTable p w N _).map _=_
   have t:topFrom treeTable p w N ⟨boot_heap w.params,Array.mk [],boot_drawn,boot_toks,os⟩=some s.abs:=by
    unfold topFrom
    dsimp only
    rw [y3,r']
    show (match staticsOk (importedModules p.main.body) (boot_heap w.params) s.abs.heap && namesBound p s.abs.heap && gensDone s.abs && laidKept (boot_heap w.params) s.abs.heap with | true=>_ | false=>_)=_
    rw [y4]
   rw [t]
   exact congrArg some (Prod.ext y5 y6)
end Head
namespace Head
open PySem PySem.W PyProof.Rows
abbrev q0:Program:=view PySem.Challenge.pw_pollproof_k44_tallies_of_two_sheets [58]
abbrev r0:OpenRow:=OpenLaw.row PySem.Challenge.rw_pollproof_k44_tallies_of_two_sheets
local macro_rules | `(tactic| o_head $H)=>do
 let (hl,hw,hc):=(Lean.mkIdent `hl,Lean.mkIdent `hw,Lean.mkIdent `hc)
 `(tactic| (
   refine holds_open (r:=r0) (q:=q0) (loose:=[PySem.Str.ofString "PollError",PySem.Str.ofString "NoNumber",PySem.Str.ofString "all_of",PySem.Str.ofString "holds",PySem.Str.ofString "without",PySem.Str.ofString "size",PySem.Str.ofString "members",PySem.Str.ofString "is_whole",PySem.Str.ofString "divisor",PySem.Str.ofString "lies",PySem.Str.ofString "fraction",PySem.Str.ofString "minus",PySem.Str.ofString "times",PySem.Str.ofString "parted",PySem.Str.ofString "under",PySem.Str.ofString "begin",PySem.Str.ofString "even_part",PySem.Str.ofString "table_row",PySem.Str.ofString "table",PySem.Str.ofString "common_bottom",PySem.Str.ofString "weighed",PySem.Str.ofString "tallies",PySem.Str.ofString "share_at",PySem.Str.ofString "part_kept",PySem.Str.ofString "with_kept",PySem.Str.ofString "kept_by",PySem.Str.ofString "state_behind",PySem.Str.ofString "along",PySem.Str.ofString "_law_cell",PySem.Str.ofString "_law_mixed",PySem.Str.ofString "_law_lots",PySem.Str.ofString "_law_mask",PySem.Str.ofString "_law_slip",PySem.Str.ofString "_law_number",PySem.Str.ofString "_law_sheet",PySem.Str.ofString "_law_whole",PySem.Str.ofString "_law_divisor",PySem.Str.ofString "_law_is_fraction",PySem.Str.ofString "_law_added",PySem.Str.ofString "_law_worth",PySem.Str.ofString "_law_other",PySem.Str.ofString "_law_apart",PySem.Str.ofString "_law_deeds",PySem.Str.ofString "_law_ballots",PySem.Str.ofString "_law_good",PySem.Str.ofString "_law_near",PySem.Str.ofString "_law_lowest",PySem.Str.ofString "_law_where",PySem.Str.ofString "_law_tally",PySem.Str.ofString "_law_behind",PySem.Str.ofString "_law_walked"]) (N:=100000)
    (Xt:=fun s=>xlAt q0 [] s && recOk (RowW.records (OpenRow.toRowW r0)) s)
    (XP:=XL q0 []) (Yf:=Hook.obs $H) (Ya:=Hook.val $H) (YP:=Hook.says $H)
    ?$hl (Hook.of $H) (Hook.keeps $H) (fun s e=>xl_of s (Bool.and_eq_true_iff.mp e).1) XL.keeps
    (by rfl) (by rfl) (by rfl) (fun s e=>recFacts_of (Bool.and_eq_true_iff.mp e).2) (by rfl) (by assumption)
    (by decide +kernel) ⟨rfl,rfl,rfl,rfl,rfl,by decide +kernel⟩ ?$hw ?$hc;
   (next=>(exact left (by kernel_rfl) (by decide) (fun s=>by kernel_rfl) (fun w os=>by kernel_rfl)))))
set_option maxRecDepth 100000 in
set_option maxHeartbeats 0 in
open_top top for PySem.Challenge.rw_pollproof_k44_tallies_of_two_sheets
end Head
namespace L2
open PySem PySem.Spec PyProof.Rows
abbrev Key:=Sum Int Str
def keyIs:Key->Value->Bool
 | .inl k,v=>Value.isInt k v
 | .inr x,v=>Value.isStrOf x v
def keyH (w:World):Key->Int
 | .inl k=>hashInt k
 | .inr x=>hashStr w x
theorem keyIs_shape:∀{k:Key} {v:Value},keyIs k v=true->(∃i t,k=Sum.inl i/\v=Value.int i t)\/(∃x t,k=Sum.inr x/\v=Value.str x t)
 | .inl i,v,h=>by
   obtain ⟨t,e⟩:=Value.isInt_shape (k:=i) (v:=v) h
   exact .inl ⟨i,t,rfl,e⟩
 | .inr x,v,h=>by
   obtain ⟨t,e⟩:=Value.isStrOf_shape (x:=x) (v:=v) h
   exact .inr ⟨x,t,rfl,e⟩
theorem keyIs_int (i:Int) (t:Tok):keyIs (.inl i) (.int i t)=true:=by simp [keyIs,Value.isInt]
theorem keyIs_str (x:Str) (t:Tok):keyIs (.inr x) (.str x t)=true:=by simp [keyIs,Value.isStrOf]
theorem key_ll (a b:Int):decide ((Sum.inl a:Key)=Sum.inl b)=(a == b):=by
 by_cases e:a=b
 ·subst e;simp
 ·have h:¬ (Sum.inl a:Key)=Sum.inl b:=fun q=>e (Sum.inl.inj q)
  rw [decide_eq_false h]
  exact (beq_eq_false_iff_ne.mpr e).symm
theorem key_rr (a b:Str):decide ((Sum.inr a:Key)=Sum.inr b)=decide (a=b):=by
 by_cases e:a=b
 ·subst e;simp
 ·have h:¬ (Sum.inr a:Key)=Sum.inr b:=fun q=>e (Sum.inr.inj q)
  rw [decide_eq_false h,decide_eq_false e]
theorem key_lr (a:Int) (b:Str):decide ((Sum.inl a:Key)=Sum.inr b)=false:=decide_eq_false (fun q=>nomatch q)
theorem key_rl (a:Str) (b:Int):decide ((Sum.inr a:Key)=Sum.inl b)=false:=decide_eq_false (fun q=>nomatch q)
def mixKind (prog:Program) (w:World):PySem.KeyKind prog w Key where
 is:=keyIs
 hash:=keyH w
 inj:=fun v a b ha hb=>by
  rcases keyIs_shape ha with ⟨i,t,rfl,rfl⟩ | ⟨x,t,rfl,rfl⟩
  ·rcases keyIs_shape hb with ⟨j,u,rfl,e⟩ | ⟨y,u,rfl,e⟩
   ·injection e with e1 _;rw [e1]
   ·exact nomatch e
  ·rcases keyIs_shape hb with ⟨j,u,rfl,e⟩ | ⟨y,u,rfl,e⟩
   ·exact nomatch e
   ·injection e with e1 _;rw [e1]
 byValue:=fun k v h=>by
  rcases keyIs_shape h with ⟨i,t,rfl,rfl⟩ | ⟨x,t,rfl,rfl⟩ <;> rfl
 pyHash:=fun hv h=>by
  rcases keyIs_shape hv with ⟨i,t,rfl,rfl⟩ | ⟨x,t,rfl,rfl⟩
  ·exact wpAny_pyHash_int h
  ·exact wpAny_pyHash_str h
 eqBool:=fun hu hv h=>by
  rcases keyIs_shape hu with ⟨i,t,rfl,rfl⟩ | ⟨x,t,rfl,rfl⟩
  ·rcases keyIs_shape hv with ⟨j,u,rfl,rfl⟩ | ⟨y,u,rfl,rfl⟩
   ·rw [key_ll] at h;exact wpAny_eqBool_int h
   ·rw [key_lr] at h;exact SeqAt.EqAt.int_str i t y u _ _ _ _ h
  ·rcases keyIs_shape hv with ⟨j,u,rfl,rfl⟩ | ⟨y,u,rfl,rfl⟩
   ·rw [key_rl] at h;exact SeqAt.EqAt.str_int x t j u _ _ _ _ h
   ·rw [key_rr] at h;exact wpAny_eqBool_str h
 «strs»:=fun k x t v h=>by
  rcases keyIs_shape h with ⟨i,u,rfl,e⟩ | ⟨y,u,rfl,e⟩
  ·exact nomatch e
  ·injection e with e1 _
   subst e1
   cases v <;> rfl
theorem mixKind_int (prog:Program) (w:World) (i:Int) (t:Tok):(mixKind prog w).is (.inl i) (.int i t)=true:=keyIs_int i t
theorem mixKind_str (prog:Program) (w:World) (x:Str) (t:Tok):(mixKind prog w).is (.inr x) (.str x t)=true:=keyIs_str x t
end L2
namespace L2
open PySem PySem.Spec PyProof.Rows
inductive V where
 | non | bl (b:Bool) | int (i:Int) | str (x:Str) | byt (b:Array UInt8) | flt (b:UInt64) | ref (a:Addr) | ty (n:String)
 deriving DecidableEq
noncomputable def RelV:V->Value->Prop
 | .non,u=>u=Value.none
 | .bl b,u=>u=Value.bool b
 | .int i,u=>∃t,u=Value.int i t
 | .str x,u=>∃t,u=Value.str x t
 | .byt b,u=>∃t,u=Value.bytes b t
 | .flt b,u=>∃t,u=Value.float b t
 | .ref a,u=>u=Value.ref a
 | .ty n,u=>u=Value.type n
abbrev Vals:List V->List Value->Prop:=Paired RelV
theorem Vals.length {xs:List V} {us:List Value} (r:Vals xs us):xs.length=us.length:=Paired.length r
theorem Vals.get:∀{xs:List V} {us:List Value} {i:Nat} {x:V},Vals xs us->xs[i]?=some x->∃u,us[i]?=some u/\RelV x u
 | _,_,_,_,.nil,e=>by simp at e
 | _,_,0,_,.cons r _,e=>by simp at e;subst e;exact ⟨_,rfl,r⟩
 | _,_,i+1,x,.cons _ t,e=>by
   obtain ⟨u,h1,h2⟩:=Vals.get (i:=i) (x:=x) t (by simpa using e)
   exact ⟨u,by simpa using h1,h2⟩
theorem Vals.set {x:V} {u:Value} (r:RelV x u):∀{xs:List V} {us:List Value} (i:Nat),Vals xs us->Vals (xs.set i x) (us.set i u)
 | _,_,_,.nil=>.nil
 | _,_,0,.cons _ t=>.cons r t
 | _,_,i+1,.cons q t=>.cons q (Vals.set r i t)
theorem Vals.append:∀{xs ys:List V} {us ws:List Value},Vals xs us->Vals ys ws->Vals (xs++ys) (us++ws)
 | _,_,_,_,.nil,s=>s
 | _,_,_,_,.cons r t,s=>.cons r (Vals.append t s)
theorem Vals.take:∀{xs:List V} {us:List Value} (n:Nat),Vals xs us->Vals (xs.take n) (us.take n)
 | _,_,0,_=>.nil
 | _,_,_+1,.nil=>.nil
 | _,_,n+1,.cons r t=>.cons r (Vals.take n t)
theorem Vals.drop:∀{xs:List V} {us:List Value} (n:Nat),Vals xs us->Vals (xs.drop n) (us.drop n)
 | _,_,0,r=>r
 | _,_,_+1,.nil=>.nil
 | _,_,n+1,.cons _ t=>Vals.drop n t
noncomputable def RelO:Option V->Option Value->Prop
 | some v,some u=>RelV v u
 | none,none=>True
 | _,_=>False
noncomputable def KV {κ:Type}:List (κ × V)->List (κ × Value)->Prop:=Paired fun (p:κ × V) (q:κ × Value)=>p.1=q.1/\RelV p.2 q.2
def kV:Key->V
 | .inl i=>.int i
 | .inr x=>.str x
inductive HO where
 | lst (xs:List V)
 | tup (xs:List V)
 | dK (kvs:List (Key × V)) | dT (kvs:List (List Key × V))
 | set (S:Int->Bool) (n:Nat)
 | ins (C dx:Addr) (fs:List (Str × V))
 | own (x:Addr)
 | xd (fs:List (Str × V))
 | met (f x:Addr)
 | rng (lo hi:Int)
 | frz (o:Obj) (u:HO)
 | tbl (ps:Array Value)
 | ext (φ:Heap->Prop)
abbrev Hp:=Addr->Option HO
noncomputable def upd (H:Hp) (a:Addr) (o:HO):Hp:=fun b=>if b=a then some o else H b
theorem upd_same {H:Hp} {a:Addr} {o:HO}:upd H a o a=some o:=by unfold upd;rw [if_pos rfl]
theorem upd_ne {H:Hp} {a b:Addr} {o:HO} (h:b≠a):upd H a o b=H b:=by unfold upd;rw [if_neg h]
theorem upd_upd {H:Hp} {a:Addr} {o u:HO}:upd (upd H a o) a u=upd H a u:=by
 funext b;unfold upd;split <;> rfl
theorem ne_of {H:Hp} {a b:Addr} {o u:HO} (h:H a=some o) (h':H b=some u) (d:o≠u):a≠b:=by
 intro e;subst e;rw [h] at h';exact d (Option.some.inj h')
theorem ne_of_none {H:Hp} {a b:Addr} {o:HO} (h:H a=some o) (h':H b=none):a≠b:=by
 intro e;subst e;rw [h] at h';cases h'
section
variable (P:Program) (w:World)
noncomputable def ObjOk (H:Hp) (h:Heap) (a:Addr):HO->Prop
 | .lst xs=>xs.length<=sizeLine/\∃(its:List Value) (n:Nat),Vals xs its/\h.get? a=some { cls:=.type "list",data:=.seq its.toArray n }
 | .tup xs=>xs.length<=sizeLine/\∃its:List Value,Vals xs its/\IsTup h a its.toArray
 | .dK kvs=>kvs.length<=sizeLine/\(a == sysModules)=false/\∃vs,KV kvs vs/\h.DictOf (mixKind P w) a vs
 | .dT kvs=>kvs.length<=sizeLine/\(a == sysModules)=false/\∃xs:List (List Key × Addr × Value),
  Paired (fun (p:List Key × V) (q:List Key × Addr × Value)=>p.1=q.1/\H q.2.1=some (.tup (p.1.map kV))/\RelV p.2 q.2.2) kvs xs /\
  ∃o es ep,h.get? a=some o/\o.ExactDict/\o.data=.dict es ep/\es.toList=xs.map (entryOfKey (tupleKind (mixKind P w)))/\(xs.map (·.1)).Nodup
 | .set S n=>h.SetOf (intKind P w) a S n
 | .ins C dx fs=>H dx=some (.own a)/\fs.length<=1000/\dx≠a/\h.get? a=some (PySem.W.instObj C dx) /\
  ∃mA,h.Ns1 dx mA/\(∀f,RelO (fs.lookup f) (mA f))/\PySem.Within mA (fs.map (·.1))
 | .own _=>∃o,h.get? a=some o
 | .xd fs=>∃mA,h.Ns1 a mA/\∀f,RelO (fs.lookup f) (mA f)
 | .rng lo hi=>∃t u v,h.get? a=some { cls:=.type "range",data:=.fields #[.int lo t,.int hi u,.int 1 v] }
 | .frz o u=>h.get? a=some o/\ObjOk H h a u
 | .tbl ps=>h.get? a=some { cls:=.none,data:=.fields ps }
 | .met f x=>h.get? a=some (PySem.W.methodObj (.ref f) (.ref x))
 | .ext φ=>φ h/\(∃o,h.get? a=some o)/\∀h1 h2:Heap,φ h1->(∀o,h1.get? a=some o->h2.get? a=some o)->φ h2
noncomputable def HOk (H:Hp) (h:Heap):Prop:=∀a o,H a=some o->ObjOk P w H h a o
end
section
variable {P:Program} {w:World} {H H':Hp} {h h':Heap} {a:Addr} {o:HO}
theorem ObjOk.lt (x:ObjOk P w H h a o):a < h.objs.size:=by
 cases o with
 | lst xs=>obtain ⟨_,_,_,_,e⟩:=x;exact Heap.lt_size e
 | tup xs=>obtain ⟨_,_,_,p⟩:=x;exact p.lt
 | dK kvs=>obtain ⟨_,_,_,_,o,_,_,e,_⟩:=x;exact Heap.lt_size e
 | dT kvs=>obtain ⟨_,_,_,_,o,_,_,e,_⟩:=x;exact Heap.lt_size e
 | set S n=>obtain ⟨o,_,_,_,e,_⟩:=x;exact Heap.lt_size e
 | ins C dx fs=>obtain ⟨_,_,_,e,_⟩:=x;exact Heap.lt_size e
 | own y=>obtain ⟨_,e⟩:=x;exact Heap.lt_size e
 | xd fs=>obtain ⟨_,⟨_,_,_,e,_⟩,_⟩:=x;exact Heap.lt_size e
 | rng lo hi=>obtain ⟨_,_,_,e⟩:=x;exact Heap.lt_size e
 | frz ob u=>obtain ⟨e,_⟩:=x;exact Heap.lt_size e
 | tbl ps=>exact Heap.lt_size (show h.get? a=some _ from x)
 | met f y=>exact Heap.lt_size (show h.get? a=some _ from x)
 | ext φ=>obtain ⟨_,⟨_,e⟩,_⟩:=x;exact Heap.lt_size e
theorem Paired.mapP {α β:Type} {F G:α->β->Prop}:∀{l₁:List α} {l₂:List β},Paired F l₁ l₂->(∀a b,F a b->G a b)->Paired G l₁ l₂
 | _,_,.nil,_=>.nil
 | _,_,.cons r t,f=>.cons (f _ _ r) (Paired.mapP t f)
theorem ObjOk.stay (x:ObjOk P w H h a o) (k:∀b u,(b=a\/H b=some (.own a))->h.get? b=some u->h'.get? b=some u)
 (ho:∀b,H b=some (.own a)->H' b=some (.own a)) (ht:∀b xs,H b=some (.tup xs)->H' b=some (.tup xs)):ObjOk P w H' h' a o:=by
 induction o with
 | lst xs=>obtain ⟨z,its,n,r,e⟩:=x;exact ⟨z,its,n,r,k _ _ (.inl rfl) e⟩
 | tup xs=>obtain ⟨z,its,r,ob,e,c⟩:=x;exact ⟨z,its,r,ob,k _ _ (.inl rfl) e,c⟩
 | dK kvs=>obtain ⟨z,y,vs,r,ob,es,ep,e,c⟩:=x;exact ⟨z,y,vs,r,ob,es,ep,k _ _ (.inl rfl) e,c⟩
 | dT kvs =>
   obtain ⟨z,y,xs,r,ob,es,ep,e,c⟩:=x
   exact ⟨z,y,xs,Paired.mapP r fun p q z=>⟨z.1,ht _ _ z.2.1,z.2.2⟩,ob,es,ep,k _ _ (.inl rfl) e,c⟩
 | set S n=>obtain ⟨ob,es,ep,t,e,c⟩:=x;exact ⟨ob,es,ep,t,k _ _ (.inl rfl) e,c⟩
 | ins C dx fs =>
   obtain ⟨d,z,ne,e,mA,⟨od,es,ep,e2,c⟩,r⟩:=x
   exact ⟨ho _ d,z,ne,k _ _ (.inl rfl) e,mA,⟨od,es,ep,k _ _ (.inr d) e2,c⟩,r⟩
 | own y=>obtain ⟨ob,e⟩:=x;exact ⟨ob,k _ _ (.inl rfl) e⟩
 | xd fs=>obtain ⟨mA,⟨od,es,ep,e,c⟩,r⟩:=x;exact ⟨mA,⟨od,es,ep,k _ _ (.inl rfl) e,c⟩,r⟩
 | rng lo hi=>obtain ⟨t,u,v,e⟩:=x;exact ⟨t,u,v,k _ _ (.inl rfl) e⟩
 | frz ob u ih=>obtain ⟨e,q⟩:=x;exact ⟨k _ _ (.inl rfl) e,ih q⟩
 | tbl ps =>
   have e:h.get? a=some { cls:=.none,data:=.fields ps }:=x
   show h'.get? a=some { cls:=.none,data:=.fields ps }
   exact k a _ (.inl rfl) e
 | met f y =>
   have e:h.get? a=some (PySem.W.methodObj (.ref f) (.ref y)):=x
   show h'.get? a=some (PySem.W.methodObj (.ref f) (.ref y))
   exact k a _ (.inl rfl) e
 | ext φ=>obtain ⟨p,⟨o,e⟩,st⟩:=x;exact ⟨st _ _ p fun o q=>k _ _ (.inl rfl) q,⟨o,k _ _ (.inl rfl) e⟩,st⟩
theorem HOk.lt (x:HOk P w H h) (e:H a=some o):a < h.objs.size:=(x a o e).lt
theorem HOk.fresh (x:HOk P w H h) (e:h.objs.size<=a):H a=none:=by
 cases q:H a with
 | none=>rfl
 | some u=>exact absurd (Nat.lt_of_lt_of_le (x.lt q) e) (Nat.lt_irrefl _)
theorem HOk.kept (x:HOk P w H h) (k:∀b u,h.get? b=some u->h'.get? b=some u):HOk P w H h':=fun a o e =>
 (x a o e).stay (fun b u _ q=>k b u q) (fun _ q=>q) fun _ _ q=>q
theorem HOk.laid (x:HOk P w H h) (k:∀b u,h.get? b=some u->h'.get? b=some u) (hp:h.objs.size<=a) (new:ObjOk P w (upd H a o) h' a o):HOk P w (upd H a o) h':=fun b u e=>by
 have hn:=x.fresh hp
 by_cases hb:b=a
 ·subst hb;rw [upd_same] at e;cases e;exact new
 ·rw [upd_ne hb] at e
  exact (x b u e).stay (fun c v _ q=>k c v q) (fun c q=>by rw [upd_ne (ne_of_none q hn)];exact q) fun c xs q=>by rw [upd_ne (ne_of_none q hn)];exact q
end
noncomputable def Rd (H:Hp) (a:Addr) (u:HO):Prop:=H a=some u\/∃o,H a=some (.frz o u)
theorem Rd.ok {P:Program} {w:World} {H:Hp} {h:Heap} {a:Addr} {u:HO} (r:Rd H a u) (x:HOk P w H h):ObjOk P w H h a u:=by
 rcases r with r | ⟨o,r⟩
 ·exact x a u r
 ·obtain ⟨_,q⟩:=x a _ r
  exact q
noncomputable def Mut:Option HO->Prop
 | some (.lst _)=>True
 | some (.dK _)=>True
 | some (.dT _)=>True
 | some (.set _ _)=>True
 | some (.ins _ _ _)=>True
 | some (.ext _)=>True
 | _=>False
section
variable {P:Program} {w:World} {H:Hp} {h h':Heap} {x e:Addr} {o':HO}
theorem HOk.write (ok:HOk P w H h) (mu:Mut (H x)) (he:e=x\/H e=some (.own x)) (k:∀b u,b≠e->h.get? b=some u->h'.get? b=some u) (heo:∃u,h'.get? e=some u)
 (new:ObjOk P w (upd H x o') h' x o'):HOk P w (upd H x o') h':=fun b u q=>by
 have nown:∀c y,H c=some (.own y)->c≠x:=fun c y r z=>by subst z;rw [r] at mu;exact mu
 have ntup:∀c xs,H c=some (.tup xs)->c≠x:=fun c xs r z=>by subst z;rw [r] at mu;exact mu
 by_cases hb:b=x
 ·subst hb;rw [upd_same] at q;cases q;exact new
 ·rw [upd_ne hb] at q
  by_cases hbe:b=e
  ·have q':H b=some (.own x):=by
    rcases he with z | z
    ·exact absurd (hbe.trans z) hb
    ·rw [hbe];exact z
   rw [q] at q';cases q'
   obtain ⟨v,hv⟩:=heo
   exact ⟨v,by rw [hbe];exact hv⟩
  ·refine (ok b u q).stay (fun c v hc r=>k c v ?_ r) (fun c r=>by rw [upd_ne (nown c b r)];exact r) fun c xs r=>by rw [upd_ne (ntup c xs r)];exact r
   rcases hc with rfl | hc
   ·exact hbe
   ·rintro rfl
    rcases he with z | z
    ·exact nown c b hc z
    ·rw [hc] at z;cases z;exact hb rfl
end
structure Un (fs ex:List Addr) (H H':Hp) (h h':Heap):Prop where
 keep:∀b o,h.get? b=some o->H b=none->b ∉ fs->b ∉ ex->h'.get? b=some o
 slot:∀b o,h.get? b=some o->H b=none->b∈fs->b ∉ ex->∃sl,h'.get? b=some { o with slots:=sl }
 free:∀b o,h.get? b=some o->H b=none->b ∉ ex->H' b=none
 there:∀b o,h.get? b=some o->b ∉ ex->∃o',h'.get? b=some o'
 tups:∀b xs,H b=some (.tup xs)->H' b=some (.tup xs)
 frzs:∀b o u,H b=some (.frz o u)->H' b=some (.frz o u)
 tbls:∀b ps,H b=some (.tbl ps)->∃more,H' b=some (.tbl (ps++more))
section
variable {fs fs' ex ex':List Addr} {H H1 H2:Hp} {h h1 h2 h':Heap} {a x e:Addr} {o:HO}
theorem Un.any (u:Un fs ex H H1 h h1) {b:Addr} {ob:Obj} (q:h.get? b=some ob) (n:H b=none) (hx:b ∉ ex):∃sl,h1.get? b=some { ob with slots:=sl }:=by
 by_cases hb:b∈fs
 ·exact u.slot b ob q n hb hx
 ·exact ⟨ob.slots,u.keep b ob q n hb hx⟩
theorem Un.kept (k:∀b u,h.get? b=some u->h'.get? b=some u):Un fs ex H H h h' :=
 ⟨fun b ob q _ _ _=>k b ob q,fun b ob q _ _ _=>⟨ob.slots,k b ob q⟩,fun _ _ _ n _=>n,fun b ob q _=>⟨ob,k b ob q⟩,fun _ _ q=>q,fun _ _ _ q=>q,fun _ ps q=>⟨#[],by rw [q];simp⟩⟩
theorem Un.refl:Un fs ex H H h h:=Un.kept fun _ _ q=>q
theorem Un.laid (k:∀b u,h.get? b=some u->h'.get? b=some u) (hp:h.objs.size<=a) (hn:H a=none):Un fs ex H (upd H a o) h h' where
 keep:=fun b u q _ _ _=>k b u q
 slot:=fun b u q _ _ _=>⟨u.slots,k b u q⟩
 free:=fun b u q n _=>by rw [upd_ne (Nat.ne_of_lt (Nat.lt_of_lt_of_le (Heap.lt_size q) hp))];exact n
 there:=fun b u q _=>⟨u,k b u q⟩
 tups:=fun b xs q=>by rw [upd_ne (ne_of_none q hn)];exact q
 frzs:=fun b u xs q=>by rw [upd_ne (ne_of_none q hn)];exact q
 tbls:=fun b ps q=>⟨#[],by rw [upd_ne (ne_of_none q hn),q];simp⟩
theorem Un.write (mu:Mut (H x)) (he:e=x\/H e=some (.own x)) (k:∀b u,b≠e->h.get? b=some u->h'.get? b=some u) (heo:∃u,h'.get? e=some u):Un fs ex H (upd H x o) h h':=by
 have hx:∀b,H b=none->b≠x:=fun b n z=>by subst z;rw [n] at mu;exact mu
 have hb:∀b,H b=none->b≠e:=fun b n z=>by
  subst z
  rcases he with r | r
  ·exact hx b n r
  ·rw [n] at r;cases r
 have hm:∀b u,H b=some u->¬ Mut (some u)->b≠x:=fun b u q nm z=>by subst z;rw [q] at mu;exact nm mu
 refine ⟨fun b u q n _ _=>k b u (hb b n) q,fun b u q n _ _=>⟨u.slots,k b u (hb b n) q⟩,fun b u q n _=>by rw [upd_ne (hx b n)];exact n,fun b u q _=>?_,
  fun b xs q=>by rw [upd_ne (hm b _ q fun z=>z)];exact q,fun b u xs q=>by rw [upd_ne (hm b _ q fun z=>z)];exact q,fun b ps q=>⟨#[],by rw [upd_ne (hm b _ q fun z=>z),q];simp⟩⟩
 by_cases hbe:b=e
 ·subst hbe;exact heo
 ·exact ⟨u,k b u hbe q⟩
end
noncomputable def trk (h:Heap) (H:Hp):List Addr:=(List.range h.objs.size).filter fun a=>(H a).isSome
noncomputable def hidT (h:Heap) (H:Hp):Heap:=PySem.W.hideAll h (trk h H)
theorem hidT_size (h:Heap) (H:Hp):(hidT h H).objs.size=h.objs.size:=PySem.W.hideAll_size _ _
theorem hidT_get {h:Heap} {H:Hp} {b:Addr} {o:Obj} (e:h.get? b=some o) (n:H b=none):(hidT h H).get? b=some o :=
 PySem.W.hideAll_get _ e fun hm=>by
  have q:(H b).isSome=true:=(List.mem_filter.mp hm).2
  rw [n] at q;simp at q
theorem of_hidT {h:Heap} {H:Hp} {b:Addr} {o:Obj} (e:(hidT h H).get? b=some o):h.get? b=some o/\H b=none:=by
 have e':h.get? b=some o:=PySem.W.of_hideAll (trk h H) e
 refine ⟨e',?_⟩
 cases q:H b with
 | none=>rfl
 | some x =>
   have hm:b∈trk h H:=List.mem_filter.mpr ⟨List.mem_range.mpr (Heap.lt_size e'),by simp [q]⟩
   have z:(hidT h H).get? b=none:=PySem.W.hideAll_none (trk h H) hm
   rw [z] at e;cases e
end L2
namespace L2
open PySem PySem.Spec PyProof.Rows
structure Mod (K:PySem.W.Frag) (mg:Str->Option Value) (base:Heap):Prop where
 kin:K.In base
 glob:base.Ns mainGlobals mg
 blt:∃mb,base.Ns builtinsNs mb/\∀x:Str,x≠"__name__"->mb x=bootBuiltins x
 nolimit:base.NoLimit
structure Cx where
 prog:Program
 w:World
 K:PySem.W.Frag
 mg:Str->Option Value
 base:Heap
 A:Around
 N:List Str
 s₀:Shared
 H₀:Hp
 env:Env
 outer:List Env
 stack:List Env
 ex:List Addr
 fn:Str->Bool
 calm:Bool
 pn:List (Addr × Obj)
 xe:Value->Shared->Prop
def frs (l:List Env):List Addr:=l.filterMap (·.frame)
abbrev Cx.fs (X:Cx):List Addr:=frs X.outer
noncomputable def Vis (sc:Scope) (x:Str):Prop:=sc.names.lookup x=some .local\/sc.names.lookup x=some .cell\/sc.names.lookup x=some .free
noncomputable def Loc (sc:Scope) (x:Str):Prop:=sc.names.lookup x=some .local\/sc.names.lookup x=some .cell
noncomputable def Look (env:Env) (h:Heap) (m:Str->Option Value) (x:Str) (u:Value):Prop :=
 (env.kindOf x=some .local/\m x=some u)\/((env.kindOf x=some .cell\/env.kindOf x=some .free)/\∃c,env.cells.lookup x=some c/\h.IsCell c (some u))
structure Cx.Ok (X:Cx):Prop where
 mod:Mod X.K X.mg X.base
 kind:X.env.scope.kind=.function
 glob:X.env.globals=mainGlobals
 blt:X.env.builtins=builtinsNs
 above:X.s₀.heap.objs.size<=X.env.locals
 inj:∀x y c,X.env.cells.lookup x=some c->X.env.cells.lookup y=some c->x=y
 has:∀x,(X.env.kindOf x=some .cell\/X.env.kindOf x=some .free)->∃c,X.env.cells.lookup x=some c
 cab:∀x c,X.fn x=true->X.env.cells.lookup x=some c->X.s₀.heap.objs.size<=c
 hd:X.calm=true->X.A.handled=none
 frames:X.A.frames=some X.stack
 stk:X.stack=X.outer\/(X.stack=X.env :: X.outer/\X.env.frame=some X.env.locals)
 exf:∀b∈X.ex,b≠X.env.locals/\∀x c,X.env.cells.lookup x=some c->c≠b
 bs:∀b o,X.base.get? b=some o->X.s₀.heap.get? b=some o/\X.H₀ b=none
 bsz:X.base.objs.size<=X.s₀.heap.objs.size
 noex:∀b o,X.base.get? b=some o->b ∉ X.ex
 exfs:∀b∈X.ex,b ∉ X.fs
 funs:X.s₀.heap.FunFrames X.base X.outer
 frf:∀b∈X.fs,X.H₀ b=none
structure Inv (X:Cx) (pins:List (Addr × Obj)) (σ:List (Option V)) (H:Hp) (s:Shared):Prop where
 ok:X.Ok
 os:s.os=X.s₀.os
 bare:AllBare s.gens
 base:Un X.fs X.ex X.H₀ H X.s₀.heap s.heap
 loc:∃m,s.heap.Ns X.env.locals m/\∀(i:Nat) (x:Str) (v:V),X.N[i]?=some x->σ[i]?=some (some v)->Vis X.env.scope x->∃u,RelV v u/\Look X.env s.heap m x u
 cell:∀x c,X.env.cells.lookup x=some c->∃v,s.heap.IsCell c v
 free:H X.env.locals=none
 freeC:∀x c,X.env.cells.lookup x=some c->H c=none
 pin:∀p∈X.pn++pins,s.heap.get? p.1=some p.2/\H p.1=none/\p.1≠X.env.locals/\p.1 ∉ X.fs/\∀v,p.2.data≠.cell v
 hok:HOk X.prog X.w H s.heap
 len:σ.length=X.N.length
section
variable {X:Cx} {pins:List (Addr × Obj)} {σ:List (Option V)} {H H':Hp} {s:Shared} {h':Heap}
theorem Cx.Ok.nofr (ok:X.Ok) {b:Addr} {o:Obj} (e:X.base.get? b=some o):b ∉ X.fs:=fun hb=>by
 have:=(ok.funs.mem hb).1
 rw [e] at this;cases this
theorem Inv.bs (I:Inv X pins σ H s):∀b o,X.base.get? b=some o->s.heap.get? b=some o/\H b=none:=fun b o e =>
 ⟨I.base.keep b o (I.ok.bs b o e).1 (I.ok.bs b o e).2 (I.ok.nofr e) (I.ok.noex b o e),I.base.free b o (I.ok.bs b o e).1 (I.ok.bs b o e).2 (I.ok.noex b o e)⟩
theorem Inv.bk (I:Inv X pins σ H s):∀b o,X.base.get? b=some o->s.heap.get? b=some o:=fun b o e=>(I.bs b o e).1
theorem Inv.mod (I:Inv X pins σ H s):Mod X.K X.mg X.base:=I.ok.mod
theorem Inv.kIn (I:Inv X pins σ H s):X.K.In s.heap:=I.ok.mod.kin.keeps I.bk
theorem Inv.lt (I:Inv X pins σ H s):X.env.locals < s.heap.objs.size:=let ⟨_,hn,_⟩:=I.loc;hn.lt
theorem Inv.sz (I:Inv X pins σ H s):X.s₀.heap.objs.size<=s.heap.objs.size:=Nat.le_trans I.ok.above (Nat.le_of_lt I.lt)
theorem Inv.nofs (I:Inv X pins σ H s) {a:Addr} (h:s.heap.objs.size<=a):a ∉ X.fs:=fun hb=>by
 obtain ⟨_,o,ho,_⟩:=I.ok.funs.mem hb
 exact absurd (Nat.lt_of_lt_of_le (Heap.lt_size ho) (Nat.le_trans I.sz h)) (Nat.lt_irrefl _)
theorem Inv.cne (I:Inv X pins σ H s):∀x c,X.env.cells.lookup x=some c->c≠X.env.locals:=fun x c e z=>by
 obtain ⟨v,o,ho,hd⟩:=I.cell x c e
 obtain ⟨m,⟨o',es,ep,ho',hd',_⟩,_⟩:=I.loc
 rw [z,ho'] at ho;cases ho;rw [hd'] at hd;cases hd
theorem Inv.funs (I:Inv X pins σ H s):s.heap.FunFrames X.base X.outer:=by
 have all:∀(l:List Env),(∀b∈frs l,b∈X.fs)->X.s₀.heap.FunFrames X.base l->s.heap.FunFrames X.base l:=by
  intro l
  induction l with
  | nil=>intro _ _;trivial
  | cons env r ih =>
    intro hs hl
    obtain ⟨hk,⟨L,o,hf,hn,ho,hd⟩,hr⟩:=hl
    have hL:L∈X.fs:=hs L (by unfold frs;rw [List.filterMap_cons,hf];exact List.mem_cons_self)
    obtain ⟨sl,e⟩:=I.base.slot L o ho (I.ok.frf L hL) hL fun z=>I.ok.exfs L z hL
    exact ⟨hk,⟨L,_,hf,hn,e,hd⟩,ih (fun b hb=>hs b (by unfold frs;rw [List.filterMap_cons,hf];exact List.mem_cons_of_mem _ hb)) hr⟩
 exact all X.outer (fun _ hb=>hb) I.ok.funs
theorem Inv.stack (I:Inv X pins σ H s):s.heap.FunFrames X.base X.stack:=by
 rcases I.ok.stk with e | ⟨e,hf⟩
 ·rw [e];exact I.funs
 ·rw [e]
  obtain ⟨m,hn,_⟩:=I.loc
  refine .cons (by rw [I.ok.kind];decide) hf hn ?_ I.funs
  exact Heap.get?_none_of_le (Nat.le_trans I.ok.bsz I.ok.above)
theorem Inv.stkSub (I:Inv X pins σ H s):∀b∈frs X.stack,b∈X.env.locals :: X.fs:=fun b hb=>by
 rcases I.ok.stk with e | ⟨e,hf⟩
 ·rw [e] at hb;exact List.mem_cons_of_mem _ hb
 ·rw [e] at hb
  unfold frs at hb
  rw [List.filterMap_cons,hf] at hb
  exact hb
theorem Inv.stkFree (I:Inv X pins σ H s):∀b∈frs X.stack,H b=none:=fun b hb=>by
 rcases List.mem_cons.mp (I.stkSub b hb) with e | hb
 ·rw [e];exact I.free
 ·obtain ⟨_,o,ho,_⟩:=I.ok.funs.mem hb
  exact I.base.free b o ho (I.ok.frf b hb) fun z=>I.ok.exfs b z hb
theorem Inv.step {g':Array GenState} {t':Nat} {d':Drawn} {ch:List Addr} (I:Inv X pins σ H s)
 (hch:∀b∈ch,(b∈X.ex\/X.s₀.heap.objs.size<=b)/\b≠X.env.locals/\(∀x c,X.env.cells.lookup x=some c->c≠b)/\∀p∈X.pn++pins,p.1≠b)
 (keep:∀b o,b≠X.env.locals->b ∉ X.fs->b ∉ ch->s.heap.get? b=some o->H b=none->h'.get? b=some o)
 (slot:∀b o,b≠X.env.locals->b∈X.fs->b ∉ ch->s.heap.get? b=some o->H b=none->∃sl,h'.get? b=some { o with slots:=sl }) (free:∀b o,b ∉ ch->s.heap.get? b=some o->H b=none->H' b=none)
 (there:∀b o,b ∉ ch->s.heap.get? b=some o->∃o',h'.get? b=some o')
 (tups:∀b xs,H b=some (.tup xs)->H' b=some (.tup xs)) (frzs:∀b o u,H b=some (.frz o u)->H' b=some (.frz o u)) (tbls:∀b ps,H b=some (.tbl ps)->∃more,H' b=some (.tbl (ps++more)))
 (ns:∀m,s.heap.Ns X.env.locals m->h'.Ns X.env.locals m) (hok:HOk X.prog X.w H' h') (hg:AllBare g') :
 Inv X pins σ H' { s with heap:=h',gens:=g',drawn:=d',toks:=t' }:=by
 have neL:∀b o,X.s₀.heap.get? b=some o->b≠X.env.locals:=fun b o e=>Nat.ne_of_lt (Nat.lt_of_lt_of_le (Heap.lt_size e) I.ok.above)
 have neC:∀b o,X.s₀.heap.get? b=some o->b ∉ X.ex->b ∉ ch:=fun b o e hx hb=>by
  rcases (hch b hb).1 with z | z
  ·exact hx z
  ·exact absurd (Nat.lt_of_lt_of_le (Heap.lt_size e) z) (Nat.lt_irrefl _)
 have cellK:∀x c,X.env.cells.lookup x=some c->∀v,s.heap.IsCell c v->h'.IsCell c v:=fun x c e v ⟨o,ho,hd⟩=>by
  have nch:c ∉ ch:=fun z=>(hch c z).2.2.1 x c e rfl
  by_cases hc:c∈X.fs
  ·obtain ⟨sl,q⟩:=slot c o (I.cne x c e) hc nch ho (I.freeC x c e)
   exact ⟨_,q,hd⟩
  ·exact ⟨o,keep c o (I.cne x c e) hc nch ho (I.freeC x c e),hd⟩
 refine ⟨I.ok,I.os,hg,⟨fun b o e n hb hx=>?_,fun b o e n hb hx=>?_,fun b o e n hx=>?_,fun b o e hx=>?_,fun b xs e=>tups b xs (I.base.tups b xs e),fun b o xs e=>frzs b o xs (I.base.frzs b o xs e),fun b ps e=>?_⟩,?_,fun x c e=>?_,?_,fun x c e=>?_,fun p hp=>?_,hok,I.len⟩
 ·exact keep b o (neL b o e) hb (neC b o e hx) (I.base.keep b o e n hb hx) (I.base.free b o e n hx)
 ·obtain ⟨sl,e1⟩:=I.base.slot b o e n hb hx
  obtain ⟨sl',e2⟩:=slot b _ (neL b o e) hb (neC b o e hx) e1 (I.base.free b o e n hx)
  exact ⟨sl',e2⟩
 ·obtain ⟨o',e1⟩:=I.base.there b o e hx
  exact free b o' (neC b o e hx) e1 (I.base.free b o e n hx)
 ·obtain ⟨o',e1⟩:=I.base.there b o e hx
  exact there b o' (neC b o e hx) e1
 ·obtain ⟨m1,e1⟩:=I.base.tbls b ps e
  obtain ⟨m2,e2⟩:=tbls b _ e1
  exact ⟨m1++m2,by rw [e2,Array.append_assoc]⟩
 ·obtain ⟨m,hn,hl⟩:=I.loc
  refine ⟨m,ns m hn,fun i x v e1 e2 e3=>?_⟩
  obtain ⟨u,r,l⟩:=hl i x v e1 e2 e3
  refine ⟨u,r,?_⟩
  rcases l with l | ⟨k,c,e,z⟩
  ·exact .inl l
  ·exact .inr ⟨k,c,e,cellK x c e _ z⟩
 ·obtain ⟨v,z⟩:=I.cell x c e
  exact ⟨v,cellK x c e v z⟩
 ·obtain ⟨m,⟨o,_,_,ho,_⟩,_⟩:=I.loc
  exact free _ o (fun z=>(hch _ z).2.1 rfl) ho I.free
 ·obtain ⟨v,o,ho,hd⟩:=I.cell x c e
  exact free c o (fun z=>(hch c z).2.2.1 x c e rfl) ho (I.freeC x c e)
 ·obtain ⟨e,n,ne,nf,d⟩:=I.pin p hp
  have nch:p.1 ∉ ch:=fun z=>(hch p.1 z).2.2.2 p hp rfl
  exact ⟨keep p.1 p.2 ne nf nch e n,free p.1 p.2 nch e n,ne,nf,d⟩
theorem Inv.un {t':Nat} (I:Inv X pins σ H s) (u:Un X.fs [] H H' s.heap h') (hok:HOk X.prog X.w H' h'):Inv X pins σ H' { s with heap:=h',toks:=t' }:=by
 obtain ⟨m,⟨o,es,ep,ho,r⟩,_⟩:=id I.loc
 obtain ⟨sl,hL⟩:=u.any ho I.free (by simp)
 exact I.step (g':=s.gens) (d':=s.drawn) (ch:=[]) (fun _ z=>by cases z) (fun b o _ hb _ e n=>u.keep b o e n hb (by simp)) (fun b o _ hb _ e n=>u.slot b o e n hb (by simp)) (fun b o _ e n=>u.free b o e n (by simp)) (fun b o _ e=>u.there b o e (by simp)) u.tups u.frzs u.tbls (fun m' hm=>by
  obtain ⟨o',es',ep',ho',r'⟩:=hm
  rw [ho] at ho';cases ho'
  exact ⟨_,es',ep',hL,r'⟩) hok I.bare
theorem Inv.call {g':Array GenState} {t':Nat} {d':Drawn} {ch:List Addr} (I:Inv X pins σ H s) (u:Un (frs X.stack) ch H H' s.heap h') (hok:HOk X.prog X.w H' h') (hg:AllBare g')
 (hch:∀b∈ch,(b∈X.ex\/X.s₀.heap.objs.size<=b)/\b≠X.env.locals/\(∀x c,X.env.cells.lookup x=some c->c≠b)/\∀p∈X.pn++pins,p.1≠b) :
 Inv X pins σ H' { s with heap:=h',gens:=g',drawn:=d',toks:=t' }:=by
 obtain ⟨m,⟨o,es,ep,ho,r⟩,_⟩:=id I.loc
 obtain ⟨sl,hL⟩:=u.any ho I.free fun z=>(hch _ z).2.1 rfl
 exact I.step (ch:=ch) hch (fun b o hL hb hc e n=>u.keep b o e n (fun z=>(List.mem_cons.mp (I.stkSub b z)).elim hL hb) hc) (fun b o _ _ hc e n=>u.any e n hc) (fun b o hc e n=>u.free b o e n hc) (fun b o hc e=>u.there b o e hc) u.tups u.frzs u.tbls (fun m' hm=>by
  obtain ⟨o',es',ep',ho',r'⟩:=hm
  rw [ho] at ho';cases ho'
  exact ⟨_,es',ep',hL,r'⟩) hok hg
theorem Inv.turned {t':Nat} {it:Addr} (I:Inv X pins σ H s) (k:∀b o,b≠it->s.heap.get? b=some o->h'.get? b=some o) (hn:H it=none) (hL:it≠X.env.locals)
 (h1:it∈X.ex\/X.s₀.heap.objs.size<=it) (h2:∀x c,X.env.cells.lookup x=some c->c≠it) (h3:∀p∈X.pn++pins,p.1≠it):Inv X pins σ H { s with heap:=h',toks:=t' }:=by
 have nit:∀b u,H b=some u->b≠it:=fun b u e z=>by rw [z,hn] at e;cases e
 refine I.step (g':=s.gens) (d':=s.drawn) (ch:=[it]) (fun b hb=>?_) (fun b o _ _ hc e _=>k b o (fun z=>hc (by simp [z])) e) (fun b o _ _ hc e _=>⟨o.slots,k b o (fun z=>hc (by simp [z])) e⟩) (fun _ _ _ _ n=>n)
  (fun b o hc e=>⟨o,k b o (fun z=>hc (by simp [z])) e⟩) (fun _ _ e=>e) (fun _ _ _ e=>e) (fun b ps e=>⟨#[],by rw [e];simp⟩) (fun m hm=>?_) (fun b u e=>?_) I.bare
 ·have e:b=it:=by simpa using hb
  subst e
  exact ⟨h1,hL,h2,h3⟩
 ·obtain ⟨o,es,ep,ho,r⟩:=hm
  exact ⟨o,es,ep,k _ o (Ne.symm hL) ho,r⟩
 ·refine (I.hok b u e).stay (fun c v hc q=>k c v ?_ q) (fun _ q=>q) fun _ _ q=>q
  rcases hc with z | z
  ·rw [z];exact nit b u e
  ·exact nit c _ z
theorem Inv.tok (I:Inv X pins σ H s) (t:Nat):Inv X pins σ H { s with toks:=t }:=I.un (h':=s.heap) (t':=t) Un.refl I.hok
theorem Inv.kept {t':Nat} (I:Inv X pins σ H s) (k:∀b u,s.heap.get? b=some u->h'.get? b=some u):Inv X pins σ H { s with heap:=h',toks:=t' }:=I.un (Un.kept k) (I.hok.kept k)
theorem Inv.laid {a:Addr} {o:HO} {t':Nat} (I:Inv X pins σ H s) (k:∀b u,s.heap.get? b=some u->h'.get? b=some u) (hp:s.heap.objs.size<=a) (new:ObjOk X.prog X.w (upd H a o) h' a o) :
 Inv X pins σ (upd H a o) { s with heap:=h',toks:=t' }:=I.un (Un.laid k hp (I.hok.fresh hp)) (I.hok.laid k hp new)
theorem Inv.write {x e:Addr} {o:HO} {t':Nat} (I:Inv X pins σ H s) (mu:Mut (H x)) (he:e=x\/H e=some (.own x)) (k:∀b u,b≠e->s.heap.get? b=some u->h'.get? b=some u) (heo:∃u,h'.get? e=some u)
 (new:ObjOk X.prog X.w (upd H x o) h' x o):Inv X pins σ (upd H x o) { s with heap:=h',toks:=t' }:=I.un (Un.write mu he k heo) (I.hok.write mu he k heo new)
theorem Inv.pins_of {pins':List (Addr × Obj)} (I:Inv X pins σ H s) (h:∀p∈pins',s.heap.get? p.1=some p.2/\H p.1=none/\p.1≠X.env.locals/\p.1 ∉ X.fs/\∀v,p.2.data≠.cell v):Inv X pins' σ H s :=
 ⟨I.ok,I.os,I.bare,I.base,I.loc,I.cell,I.free,I.freeC,fun p hp=>(List.mem_append.mp hp).elim (fun z=>I.pin p (List.mem_append_left _ z)) (h p),I.hok,I.len⟩
theorem nodup_ix {N:List Str} (hN:N.Nodup) {i j:Nat} {x:Str} (a:N[i]?=some x) (b:N[j]?=some x):i=j:=by
 obtain ⟨h1,e1⟩:=List.getElem?_eq_some_iff.mp a
 obtain ⟨h2,e2⟩:=List.getElem?_eq_some_iff.mp b
 exact (List.getElem_inj hN).mp (e1.trans e2.symm)
theorem store_ok2 {M:Model} {A:Around} {E:Value->Shared->Prop} {i:Nat} {x:Str} {v:V} {u:Value} {Q:Unit->Shared->Prop} (I:Inv X pins σ H s) (hN:X.N.Nodup) (hi:X.N[i]?=some x) (hx:Loc X.env.scope x) (r:RelV v u)
 (h:∀s',Inv X pins (σ.set i (some v)) H s'->(∃a,Heap.SameBut a s.heap s'.heap/\(a=X.env.locals\/X.env.cells.lookup x=some a))->Q () s') (hf:X.fn x=true\/X.env.scope.names.lookup x=some .local:=by first | exact .inl rfl | exact .inr rfl | assumption):wpAny M A (storeName X.env x u) Q E s:=by
 obtain ⟨m,hn,hl⟩:=id I.loc
 have hcls:(X.env.scope.kind == .class || (X.env.scope.kind == .module && X.env.locals != X.env.globals))=false:=by rw [I.ok.kind];rfl
 have hiσ:i < σ.length:=by rw [I.len];exact (List.getElem?_eq_some_iff.mp hi).1
 have cne:=I.cne
 have tracked:∀{a:Addr} {h':Heap},(∃o,s.heap.get? a=some o/\H a=none)->Heap.SameBut a s.heap h'->HOk X.prog X.w H h':=fun {a h'} ha hs b ob e=>by
  obtain ⟨_,_,hfree⟩:=ha
  refine (I.hok b ob e).stay (fun c w' hc q=>(hs.2 c ?_).trans q) (fun _ q=>q) fun _ _ q=>q
  rintro rfl
  rcases hc with rfl | hc
  ·rw [hfree] at e;cases e
  ·rw [hfree] at hc;cases hc
 rcases hx with hk | hk
 ·refine wpAny_storeName_local hk hn (fun h' hn' hs=>?_) hcls
  obtain ⟨oL,_,_,hoL,_⟩:=id hn
  refine h _ ⟨I.ok,I.os,I.bare,⟨fun b o e n hb hx=>?_,fun b o e n hb hx=>?_,I.base.free,fun b o e hx=>?_,I.base.tups,I.base.frzs,I.base.tbls⟩,⟨_,hn',fun j y v' e1 e2 e3=>?_⟩,fun y c e=>?_,I.free,I.freeC,fun p hp=>?_,tracked ⟨oL,hoL,I.free⟩ hs,by simpa using I.len⟩ ⟨_,hs,.inl rfl⟩
  ·exact (hs.2 b (Nat.ne_of_lt (Nat.lt_of_lt_of_le (Heap.lt_size e) I.ok.above))).trans (I.base.keep b o e n hb hx)
  ·obtain ⟨sl,e1⟩:=I.base.slot b o e n hb hx
   exact ⟨sl,(hs.2 b (Nat.ne_of_lt (Nat.lt_of_lt_of_le (Heap.lt_size e) I.ok.above))).trans e1⟩
  ·obtain ⟨o',e1⟩:=I.base.there b o e hx
   exact ⟨o',(hs.2 b (Nat.ne_of_lt (Nat.lt_of_lt_of_le (Heap.lt_size e) I.ok.above))).trans e1⟩
  ·by_cases hj:j=i
   ·subst hj
    rw [hi] at e1;cases e1
    rw [List.getElem?_set_self hiσ] at e2
    cases e2
    exact ⟨u,r,.inl ⟨hk,by simp⟩⟩
   ·rw [List.getElem?_set_ne (Ne.symm hj)] at e2
    obtain ⟨u',r',q⟩:=hl j y v' e1 e2 e3
    refine ⟨u',r',?_⟩
    rcases q with ⟨k,e⟩ | ⟨k,c,e,z⟩
    ·refine .inl ⟨k,?_⟩
     have:y≠x:=fun e=>hj (nodup_ix hN e1 (e ▸ hi))
     simp [this,e]
    ·exact .inr ⟨k,c,e,z.sameBut hs (cne y c e)⟩
  ·obtain ⟨w',z⟩:=I.cell y c e
   exact ⟨w',z.sameBut hs (cne y c e)⟩
  ·obtain ⟨e,n,ne,nf,d⟩:=I.pin p hp
   exact ⟨(hs.2 p.1 ne).trans e,n,ne,nf,d⟩
 ·have hfn:X.fn x=true:=by
   rcases hf with z | z
   ·exact z
   ·rw [z] at hk;cases hk
  obtain ⟨c,hc⟩:=I.ok.has x (.inl hk)
  obtain ⟨w',z⟩:=I.cell x c hc
  refine wpAny_storeName_cell I.ok.kind hk hc z (fun h' hc' hs=>?_)
  obtain ⟨oc,hoc,hocd⟩:=id z
  refine h { s with heap:=h' } ⟨I.ok,I.os,I.bare,⟨fun b o e n hb hx=>?_,fun b o e n hb hx=>?_,I.base.free,fun b o e hx=>?_,I.base.tups,I.base.frzs,I.base.tbls⟩,⟨m,hn.sameBut hs (Ne.symm (cne x c hc)),fun j y v' e1 e2 e3=>?_⟩,fun y c' e=>?_,I.free,I.freeC,fun p hp=>?_,tracked ⟨oc,hoc,I.freeC x c hc⟩ hs,by simpa using I.len⟩ ⟨c,hs,.inr hc⟩
  ·exact (hs.2 b (Nat.ne_of_lt (Nat.lt_of_lt_of_le (Heap.lt_size e) (I.ok.cab x c hfn hc)))).trans (I.base.keep b o e n hb hx)
  ·obtain ⟨sl,e1⟩:=I.base.slot b o e n hb hx
   exact ⟨sl,(hs.2 b (Nat.ne_of_lt (Nat.lt_of_lt_of_le (Heap.lt_size e) (I.ok.cab x c hfn hc)))).trans e1⟩
  ·obtain ⟨o',e1⟩:=I.base.there b o e hx
   exact ⟨o',(hs.2 b (Nat.ne_of_lt (Nat.lt_of_lt_of_le (Heap.lt_size e) (I.ok.cab x c hfn hc)))).trans e1⟩
  ·by_cases hj:j=i
   ·subst hj
    rw [hi] at e1;cases e1
    rw [List.getElem?_set_self hiσ] at e2
    cases e2
    exact ⟨u,r,.inr ⟨.inl hk,c,hc,hc'⟩⟩
   ·rw [List.getElem?_set_ne (Ne.symm hj)] at e2
    obtain ⟨u',r',q⟩:=hl j y v' e1 e2 e3
    refine ⟨u',r',?_⟩
    rcases q with q | ⟨k,c',e,z'⟩
    ·exact .inl q
    ·refine .inr ⟨k,c',e,z'.sameBut hs ?_⟩
     rintro rfl
     exact hj (nodup_ix hN e1 (I.ok.inj _ _ _ e hc ▸ hi))
  ·by_cases hcc:c'=c
   ·subst hcc;exact ⟨_,hc'⟩
   ·obtain ⟨w2,z2⟩:=I.cell y c' e
    exact ⟨w2,z2.sameBut hs hcc⟩
  ·obtain ⟨e,n,ne,nf,d⟩:=I.pin p hp
   refine ⟨(hs.2 p.1 ?_).trans e,n,ne,nf,d⟩
   intro q
   rw [q,hoc] at e
   have q':oc=p.2:=Option.some.inj e
   exact d w' (by rw [<- q'];exact hocd)
theorem store_ok {M:Model} {A:Around} {E:Value->Shared->Prop} {i:Nat} {x:Str} {v:V} {u:Value} {Q:Unit->Shared->Prop} (I:Inv X pins σ H s) (hN:X.N.Nodup) (hi:X.N[i]?=some x) (hx:Loc X.env.scope x) (r:RelV v u)
 (h:∀s',Inv X pins (σ.set i (some v)) H s'->Q () s') (hf:X.fn x=true\/X.env.scope.names.lookup x=some .local:=by first | exact .inl rfl | exact .inr rfl | assumption):wpAny M A (storeName X.env x u) Q E s :=
 store_ok2 I hN hi hx r (fun s' I' _=>h s' I') hf
theorem Inv.call' {s':Shared} {ch:List Addr} (I:Inv X pins σ H s) (ho:s'.os=s.os) (u:Un (frs X.stack) ch H H' s.heap s'.heap) (hok:HOk X.prog X.w H' s'.heap) (hg:AllBare s'.gens)
 (hch:∀b∈ch,(b∈X.ex\/X.s₀.heap.objs.size<=b)/\b≠X.env.locals/\(∀x c,X.env.cells.lookup x=some c->c≠b)/\∀p∈X.pn++pins,p.1≠b):Inv X pins σ H' s':=by
 obtain ⟨h',g',d',t',o'⟩:=s'
 have e:o'=s.os:=ho
 subst e
 exact I.call (g':=g') (t':=t') (d':=d') u hok hg hch
end
abbrev XK:=Value->Option Addr->Hp->Prop
abbrev St:=List (Option V)
abbrev VK:=V->Hp->Prop
abbrev TE:=St->Hp->VK->Prop
abbrev TT:=St->Hp->(Bool->Hp->Prop)->Prop
abbrev TA:=St->Hp->(List V->Hp->Prop)->Prop
structure Ends where
 nx:St->Hp->Prop
 rt:VK
 bk:St->Hp->Prop:=fun _ _=>False
 ct:St->Hp->Prop:=fun _ _=>False
abbrev TS:=Ends->St->Hp->Prop
noncomputable def EP (X:Cx) (pins:List (Addr × Obj)) (σ:St) (Q:VK) (u:Value) (s':Shared):Prop:=∃v H',Inv X pins σ H' s'/\RelV v u/\Q v H'
noncomputable def TP (X:Cx) (pins:List (Addr × Obj)) (σ:St) (Q:Bool->Hp->Prop) (b:Bool) (s':Shared):Prop:=∃H',Inv X pins σ H' s'/\Q b H'
noncomputable def AP (X:Cx) (pins:List (Addr × Obj)) (σ:St) (Q:List V->Hp->Prop) (us:List Value) (s':Shared):Prop:=∃vs H',Inv X pins σ H' s'/\Vals vs us/\Q vs H'
noncomputable def SP (X:Cx) (pins:List (Addr × Obj)) (D:Ends) (f:Flow) (s':Shared):Prop :=
 match f with
 | .next=>∃σ' H',Inv X pins σ' H' s'/\D.nx σ' H'
 | .brk=>∃σ' H',Inv X pins σ' H' s'/\D.bk σ' H'
 | .cont=>∃σ' H',Inv X pins σ' H' s'/\D.ct σ' H'
 | .ret u=>∃v σ' H',Inv X pins σ' H' s'/\RelV v u/\D.rt v H'
noncomputable def PE (X:Cx) (e:Expr) (t:TE):Prop :=
 ∀(pins:List (Addr × Obj)) (s:Shared) (σ:St) (H:Hp) (Q:VK),Inv X pins σ H s->t σ H Q->wpAny (model X.prog X.w) X.A (eval e X.env) (EP X pins σ Q) X.xe s
noncomputable def PT (X:Cx) (e:Expr) (t:TT):Prop :=
 ∀(pins:List (Addr × Obj)) (s:Shared) (σ:St) (H:Hp) (Q:Bool->Hp->Prop),Inv X pins σ H s->t σ H Q->wpAny (model X.prog X.w) X.A (isTrue e X.env (eval e X.env)) (TP X pins σ Q) X.xe s
noncomputable def PW (X:Cx) (e:Expr) (t:TT):Prop :=
 ∀(whole:Sem Value) (pins:List (Addr × Obj)) (s:Shared) (σ:St) (H:Hp) (Q:Bool->Hp->Prop),Inv X pins σ H s->t σ H Q->wpAny (model X.prog X.w) X.A (isTrue e X.env whole) (TP X pins σ Q) X.xe s
theorem PW.pt {X:Cx} {e:Expr} {t:TT} (h:PW X e t):PT X e t:=h _
noncomputable def PA (X:Cx) (es:List Expr) (t:TA):Prop :=
 ∀(pos:Pos) (pins:List (Addr × Obj)) (s:Shared) (σ:St) (H:Hp) (Q:List V->Hp->Prop),Inv X pins σ H s->t σ H Q->wpAny (model X.prog X.w) X.A (spliced (backTo pos (starEach es X.env))) (AP X pins σ Q) X.xe s
noncomputable def PS (X:Cx) (st:Stmt) (t:TS):Prop :=
 ∀(pins:List (Addr × Obj)) (s:Shared) (σ:St) (H:Hp) (D:Ends),Inv X pins σ H s->t D σ H->wpAny (model X.prog X.w) X.A (exec st X.env) (SP X pins D) X.xe s
noncomputable def PSs (X:Cx) (st:List Stmt) (t:TS):Prop :=
 ∀(pins:List (Addr × Obj)) (s:Shared) (σ:St) (H:Hp) (D:Ends),Inv X pins σ H s->t D σ H->wpAny (model X.prog X.w) X.A (execs st X.env) (SP X pins D) X.xe s
theorem thn {α:Type} {t:Sem α} {Q Q':α->Shared->Prop} {M:Model} {A:Around} {E:Value->Shared->Prop} {s:Shared} (h:wpAny M A t Q E s) (hQ:∀a s,Q a s->Q' a s):wpAny M A t Q' E s:=wpAny_mono h hQ fun _ _ x=>x
end L2
namespace L2
open PySem PySem.Spec PyProof.Rows
section
variable {X:Cx}
noncomputable def tVar (i:Nat):TE:=fun σ H Q=>∃v,σ[i]?=some (some v)/\Q v H
noncomputable def tC (v:V):TE:=fun _ H Q=>Q v H
theorem pe_var {i:Nat} {x:Str} {pos:Pos} (hN:X.N[i]?=some x) (hv:Vis X.env.scope x) (hd:(x == ("__debug__":Str))=false:=by decide) (hcd:(x == ("__classdict__":Str))=false:=by decide):PE X (.Name x pos) (tVar i):=by
 intro pins s σ H Q I h
 obtain ⟨v,e,h⟩:=h
 obtain ⟨m,hn,hl⟩:=I.loc
 obtain ⟨u,r,l⟩:=hl i x v hN e hv
 have fin:EP X pins σ Q u s:=⟨v,H,I,r,h⟩
 rcases l with ⟨hk,hm⟩ | ⟨hk,c,hc,hcell⟩
 ·exact wpAny_Name (wpAny_loadName_local I.ok.kind hk hn hm fin) hd
 ·rcases hk with hk | hk
  ·exact wpAny_Name (wpAny_loadName_cell I.ok.kind hk hc hcell fin) hd
  ·exact wpAny_Name (wpAny_loadName_free I.ok.kind hk hc hcell fin hcd) hd
theorem pe_int {i j pos}:PE X (.Constant (.int i) j pos) (tC (.int i)):=fun _ _ _ H _ I h=>wpAny_Constant_int ⟨.int i,H,I.tok _,⟨_,rfl⟩,h⟩
theorem pe_bl {b j pos}:PE X (.Constant (.bool b) j pos) (tC (.bl b)):=fun _ _ _ H _ I h=>Constant_bool ⟨.bl b,H,I,rfl,h⟩
theorem pe_str {x j pos}:PE X (.Constant (.str x) j pos) (tC (.str x)):=fun _ _ _ H _ I h=>Calls.Constant_str ⟨.str x,H,I.tok _,⟨_,rfl⟩,h⟩
noncomputable def Gl (X:Cx) (x:Str):Prop:=X.env.kindOf x=some .globalImplicit
theorem ld_glob {E:Value->Shared->Prop} {pins:List (Addr × Obj)} {s:Shared} {σ:St} {H:Hp} {x:Str} {u:Value} {pos:Pos} {Q:Value->Shared->Prop} (I:Inv X pins σ H s) (hg:Gl X x) (hm:X.mg x=some u) (h:Q u s)
 (hd:(x == ("__debug__":Str))=false:=by decide):wpAny (model X.prog X.w) X.A (eval (.Name x pos) X.env) Q E s :=
 Calls.Name_function_global I.ok.kind hg (Calls.loadGlobal_global (by rw [I.ok.glob];exact I.mod.glob.keeps I.bk) hm h) hd
theorem ld_blt {E:Value->Shared->Prop} {pins:List (Addr × Obj)} {s:Shared} {σ:St} {H:Hp} {x:Str} {u:Value} {pos:Pos} {Q:Value->Shared->Prop} (I:Inv X pins σ H s) (hg:Gl X x) (hm:X.mg x=none) (hv:bootBuiltins x=some u) (h:Q u s)
 (hn:x≠"__name__":=by decide) (hd:(x == ("__debug__":Str))=false:=by decide):wpAny (model X.prog X.w) X.A (eval (.Name x pos) X.env) Q E s:=by
 obtain ⟨mb,h1,h2⟩:=I.mod.blt
 exact Calls.Name_function_global I.ok.kind hg (Calls.loadGlobal_builtin (by rw [I.ok.glob];exact I.mod.glob.keeps I.bk) hm (by rw [I.ok.blt];exact h1.keeps I.bk) ((h2 x hn).trans hv) h) hd
theorem pe_bltn {x:Str} {v:V} {u:Value} {pos:Pos} (hg:Gl X x) (hm:X.mg x=none) (hv:bootBuiltins x=some u) (r:RelV v u) (hn:x≠"__name__":=by decide) (hd:(x == ("__debug__":Str))=false:=by decide):PE X (.Name x pos) (tC v) :=
 fun _ _ _ H _ I h=>ld_blt I hg hm hv ⟨v,H,I,r,h⟩ hn hd
variable {a b:Expr} {ta tb:TE} {pos:Pos}
noncomputable def tB (t:TE):TT:=fun σ H Q=>t σ H fun x H1=>∃c,x=.bl c/\Q c H1
theorem pt_val {e:Expr} {t:TE} (h:PE X e t) (he:∀whole,isTrue e X.env whole=(do let v <- whole;standAt e.pos;holding [v] (truthy v)):=by intro _;rfl):PT X e (tB t):=by
 intro pins s σ H Q I hw
 refine isTrue_plain (thn (h pins s σ H _ I hw) fun v s1 ⟨x,H1,I1,r1,q1⟩=>?_) (he _)
 obtain ⟨d,rfl,q⟩:=q1
 cases r1
 exact wpAny_truthy_bool ⟨H1,I1,q⟩
variable {tA tB':TT} {rest:List Expr}
noncomputable def tAnd (t u:TT):TT:=fun σ H Q=>t σ H fun c H1=>if c=true then u σ H1 Q else Q false H1
noncomputable def tOr (t u:TT):TT:=fun σ H Q=>t σ H fun c H1=>if c=true then Q true H1 else u σ H1 Q
noncomputable def tNot (t:TT):TT:=fun σ H Q=>t σ H fun c H1=>Q (!c) H1
theorem pw_and1 (ha:PT X a tA):PW X (.BoolOp .And [a] pos) tA:=by
 intro wh pins s σ H Q I h
 refine isTrue_and (thn (ha pins s σ H Q I h) fun c s1 e=>?_)
 cases c with
 | true=>exact isTrue_and_nil e
 | false=>exact e
theorem pw_or1 (ha:PT X a tA):PW X (.BoolOp .Or [a] pos) tA:=by
 intro wh pins s σ H Q I h
 refine isTrue_or (thn (ha pins s σ H Q I h) fun c s1 e=>?_)
 cases c with
 | false=>exact isTrue_or_nil e
 | true=>exact e
theorem pw_and (ha:PT X a tA) (hb:PW X (.BoolOp .And (b :: rest) pos) tB'):PW X (.BoolOp .And (a :: b :: rest) pos) (tAnd tA tB'):=by
 intro wh pins s σ H Q I h
 refine isTrue_and (thn (ha pins s σ H _ I h) fun c s1 ⟨H1,I1,q1⟩=>?_)
 cases c with
 | true=>exact hb wh pins s1 σ H1 Q I1 q1
 | false=>exact ⟨H1,I1,q1⟩
theorem pw_or (ha:PT X a tA) (hb:PW X (.BoolOp .Or (b :: rest) pos) tB'):PW X (.BoolOp .Or (a :: b :: rest) pos) (tOr tA tB'):=by
 intro wh pins s σ H Q I h
 refine isTrue_or (thn (ha pins s σ H _ I h) fun c s1 ⟨H1,I1,q1⟩=>?_)
 cases c with
 | true=>exact ⟨H1,I1,q1⟩
 | false=>exact hb wh pins s1 σ H1 Q I1 q1
theorem pt_not (ha:PT X a tA):PT X (.UnaryOp .Not a pos) (tNot tA):=by
 intro pins s σ H Q I h
 exact isTrue_not (ha pins s σ H (fun c H1=>Q (!c) H1) I h)
noncomputable def tAndV (ta tb:TE):TE:=fun σ H Q=>ta σ H fun x H1=>∃c,x=.bl c/\if c=true then tb σ H1 Q else Q (.bl false) H1
noncomputable def tNotV (ta:TE):TE:=fun σ H Q=>ta σ H fun x H1=>∃c,x=.bl c/\Q (.bl (!c)) H1
theorem pe_one {op} {t:TE} (h:PE X a t):PE X (.BoolOp op [a] pos) t:=fun pins s σ H Q I hw=>BoolOp_one (h pins s σ H Q I hw)
theorem pe_and (ha:PE X a ta) (hb:PE X (.BoolOp .And (b :: rest) pos) tb):PE X (.BoolOp .And (a :: b :: rest) pos) (tAndV ta tb):=by
 intro pins s σ H Q I h
 refine BoolOp_and (thn (ha pins s σ H _ I h) fun v s1 ⟨x,H1,I1,r1,q1⟩=>?_)
 obtain ⟨c,rfl,q1⟩:=q1
 cases r1
 refine wpAny_truthy_bool ?_
 cases c with
 | true=>exact hb pins s1 σ H1 Q I1 q1
 | false=>exact ⟨.bl false,H1,I1,rfl,q1⟩
theorem pe_not (ha:PE X a ta):PE X (.UnaryOp .Not a pos) (tNotV ta):=by
 intro pins s σ H Q I h
 refine UnaryOp_ (thn (ha pins s σ H _ I h) fun v s1 ⟨x,H1,I1,r1,q1⟩=>?_)
 obtain ⟨c,rfl,q1⟩:=q1
 cases r1
 exact not_of (wpAny_truthy_bool ⟨.bl (!c),H1,I1,rfl,q1⟩)
end
end L2
namespace L2
open PySem PySem.Spec PyProof.Rows
noncomputable def SqL (K:PySem.W.Frag) (H:Hp) (a:Addr) (xs:List V):Prop :=
 Rd H a (.lst xs) \/
  ∃(o:Obj) (its:Array Value) (n:Nat),K.lookup a=some o/\o.cls=.type "list"/\o.dict=none/\o.data=.seq its n/\its.size<=sizeLine/\Vals xs its.toList
noncomputable def SqT (K:PySem.W.Frag) (H:Hp) (a:Addr) (xs:List V):Prop :=
 Rd H a (.tup xs) \/
  ∃(o:Obj) (its:Array Value) (n:Nat),K.lookup a=some o/\o.cls=.type "tuple"/\o.data=.seq its n/\its.size<=sizeLine/\Vals xs its.toList
noncomputable def absV:Value->Option V
 | .none=>some .non
 | .bool b=>some (.bl b)
 | .int i _=>some (.int i)
 | .str x _=>some (.str x)
 | .bytes b _=>some (.byt b)
 | .float b _=>some (.flt b)
 | .ref a=>some (.ref a)
 | .type n=>some (.ty n)
 | _=>none
theorem RelV.abs {x:V} {u:Value} (r:RelV x u):absV u=some x:=by
 cases x with
 | non=>cases r;rfl
 | bl _=>cases r;rfl
 | int _=>obtain ⟨t,rfl⟩:=r;rfl
 | str _=>obtain ⟨t,rfl⟩:=r;rfl
 | byt _=>obtain ⟨t,rfl⟩:=r;rfl
 | flt _=>obtain ⟨t,rfl⟩:=r;rfl
 | ref _=>cases r;rfl
 | ty _=>cases r;rfl
theorem RelV.inj {x y:V} {u:Value} (r:RelV x u) (q:RelV y u):x=y:=Option.some.inj (r.abs.symm.trans q.abs)
theorem Vals.inj:∀{xs ys:List V} {us:List Value},Vals xs us->Vals ys us->xs=ys
 | _,_,_,.nil,.nil=>rfl
 | _,_,_,.cons r t,.cons r' t'=>by rw [r.inj r',Vals.inj t t']
section
variable {X:Cx} {pins:List (Addr × Obj)} {σ:St} {H:Hp} {s:Shared} {a:Addr} {xs ys:List V}
theorem SqL.of {K:PySem.W.Frag} (h:H a=some (.lst xs)):SqL K H a xs:=.inl (.inl h)
theorem SqT.of {K:PySem.W.Frag} (h:H a=some (.tup xs)):SqT K H a xs:=.inl (.inl h)
theorem Inv.list (I:Inv X pins σ H s) (h:SqL X.K H a xs):∃its:List Value,Vals xs its/\PlainL s.heap a its.toArray/\xs.length<=sizeLine:=by
 rcases h with h | ⟨o,its,n,hk,hc,hd,hs,hz,r⟩
 ·obtain ⟨z,its,n,r,e⟩:=h.ok I.hok
  exact ⟨its,r,⟨_,n,e,rfl,rfl,rfl⟩,z⟩
 ·refine ⟨its.toList,r,⟨o,n,I.kIn a o hk,hc,hd,by simpa using hs⟩,?_⟩
  have e:=r.length
  simp only [Array.length_toList] at e
  omega
theorem Inv.tuple (I:Inv X pins σ H s) (h:SqT X.K H a xs):∃its:List Value,Vals xs its/\IsTup s.heap a its.toArray/\xs.length<=sizeLine:=by
 rcases h with h | ⟨o,its,n,hk,hc,hs,hz,r⟩
 ·obtain ⟨z,its,r,p⟩:=h.ok I.hok
  exact ⟨its,r,p,z⟩
 ·refine ⟨its.toList,r,⟨o,I.kIn a o hk,hc,n,by simpa using hs⟩,?_⟩
  have e:=r.length
  simp only [Array.length_toList] at e
  omega
theorem Inv.list_inj (I:Inv X pins σ H s) (h:SqL X.K H a xs) (h':SqL X.K H a ys):xs=ys:=by
 obtain ⟨its,r,⟨o,n,e,_,_,d⟩,_⟩:=I.list h
 obtain ⟨its',r',⟨o',n',e',_,_,d'⟩,_⟩:=I.list h'
 rw [e] at e';cases e'
 rw [d] at d'
 injection d' with d1 _
 have:its=its':=by simpa using congrArg Array.toList d1
 subst this
 exact r.inj r'
theorem Inv.tuple_inj (I:Inv X pins σ H s) (h:SqT X.K H a xs) (h':SqT X.K H a ys):xs=ys:=by
 obtain ⟨its,r,⟨o,e,_,n,d⟩,_⟩:=I.tuple h
 obtain ⟨its',r',⟨o',e',_,n',d'⟩,_⟩:=I.tuple h'
 rw [e] at e';cases e'
 rw [d] at d'
 injection d' with d1 _
 have:its=its':=by simpa using congrArg Array.toList d1
 subst this
 exact r.inj r'
end
abbrev Cx.wish (X:Cx) (E:Value->Shared->Prop):Cx:={ X with xe:=E }
abbrev Cx.nox (X:Cx):Cx:=X.wish fun _ _=>False
theorem Cx.Ok.wish {X:Cx} (ok:X.Ok) (E:Value->Shared->Prop):(X.wish E).Ok :=
 ⟨ok.mod,ok.kind,ok.glob,ok.blt,ok.above,ok.inj,ok.has,ok.cab,ok.hd,ok.frames,ok.stk,ok.exf,ok.bs,ok.bsz,ok.noex,ok.exfs,ok.funs,ok.frf⟩
theorem Cx.Ok.unwish {X:Cx} {E:Value->Shared->Prop} (ok:(X.wish E).Ok):X.Ok :=
 ⟨ok.mod,ok.kind,ok.glob,ok.blt,ok.above,ok.inj,ok.has,ok.cab,ok.hd,ok.frames,ok.stk,ok.exf,ok.bs,ok.bsz,ok.noex,ok.exfs,ok.funs,ok.frf⟩
section
variable {X:Cx} {pins:List (Addr × Obj)} {σ:St} {H:Hp} {s:Shared} {E:Value->Shared->Prop}
theorem Inv.wish (I:Inv X pins σ H s) (E:Value->Shared->Prop):Inv (X.wish E) pins σ H s:=⟨I.ok.wish E,I.os,I.bare,I.base,I.loc,I.cell,I.free,I.freeC,I.pin,I.hok,I.len⟩
theorem Inv.unwish (I:Inv (X.wish E) pins σ H s):Inv X pins σ H s:=⟨I.ok.unwish,I.os,I.bare,I.base,I.loc,I.cell,I.free,I.freeC,I.pin,I.hok,I.len⟩
theorem SP.unwish {D:Ends} {f:Flow} {s':Shared} (h:SP (X.wish E) pins D f s'):SP X pins D f s':=by
 cases f with
 | next=>obtain ⟨σ',H',I,q⟩:=h;exact ⟨σ',H',I.unwish,q⟩
 | brk=>obtain ⟨σ',H',I,q⟩:=h;exact ⟨σ',H',I.unwish,q⟩
 | cont=>obtain ⟨σ',H',I,q⟩:=h;exact ⟨σ',H',I.unwish,q⟩
 | ret u=>obtain ⟨v,σ',H',I,r,q⟩:=h;exact ⟨v,σ',H',I.unwish,r,q⟩
theorem PSs.nox {st:List Stmt} {t:TS} (h:PSs X.nox st t):PSs X st t:=fun pins s σ H D I hw =>
 wpAny_mono (h pins s σ H D (I.wish _) hw) (fun _ _ q=>q.unwish) fun _ _ z=>False.elim z
end
section
variable {X:Cx} {st:Stmt} {rest:List Stmt} {t u:TS} {e:Expr} {te:TE} {pos:Pos}
noncomputable def tNext:TS:=fun D σ H=>D.nx σ H
noncomputable def tSeq (t u:TS):TS:=fun D σ H=>t { D with nx:=u D } σ H
theorem pss_nil:PSs X [] tNext:=fun _ _ σ H _ I h=>wpAny_execs_nil ⟨σ,H,I,h⟩
theorem pss_cons (h1:PS X st t) (h2:PSs X rest u):PSs X (st :: rest) (tSeq t u):=by
 intro pins s σ H D I h
 refine wpAny_execs_cons (thn (h1 pins s σ H { D with nx:=u D } I h) fun f s1 q=>?_)
 cases f with
 | next =>
   obtain ⟨σ',H',I',q⟩:=q
   exact h2 pins s1 σ' H' D I' q
 | ret v=>exact q
 | brk=>exact q
 | cont=>exact q
theorem pss_one (h1:PS X st t):PSs X [st] t:=by
 intro pins s σ H D I h
 refine wpAny_execs_cons (thn (h1 pins s σ H D I h) fun f s1 q=>?_)
 cases f with
 | next=>exact wpAny_execs_nil q
 | ret v=>exact q
 | brk=>exact q
 | cont=>exact q
theorem Inv.quiet {pins:List (Addr × Obj)} {σ:St} {H:Hp} {s:Shared} (I:Inv X pins σ H s):interactive X.env=false:=by simp [interactive,I.ok.kind]
noncomputable def tDrop (te:TE):TS:=fun D σ H=>te σ H fun _ H1=>D.nx σ H1
theorem ps_expr (he:PE X e te) (hs:swapsWith e none pos.line X.env=pure false:=by rfl):PS X (.Expr e pos) (tDrop te):=by
 intro pins s σ H D I h
 exact wpAny_Expr_any (thn (he pins s σ H _ I h) fun v s1 ⟨x,H1,I1,r1,q1⟩=>⟨σ,H1,I1,q1⟩) I.quiet hs
noncomputable def tRet (te:TE):TS:=fun D σ H=>te σ H D.rt
theorem ps_ret (he:PE X e te):PS X (.Return (some e) pos) (tRet te):=by
 intro pins s σ H D I h
 exact wpAny_Return_some (thn (he pins s σ H _ I h) fun v s1 ⟨x,H1,I1,r1,q1⟩=>⟨x,σ,H1,I1,r1,q1⟩)
noncomputable def tIfS (c:TT) (t u:TS):TS:=fun D σ H=>c σ H fun b H1=>if b=true then t D σ H1 else u D σ H1
theorem ps_if {c:Expr} {a b:List Stmt} {tc:TT} (hc:PT X c tc) (ha:PSs X a t) (hb:PSs X b u):PS X (.If c a b pos) (tIfS tc t u):=by
 intro pins s σ H D I h
 refine wpAny_If (thn (hc pins s σ H _ I h) fun d s1 ⟨H1,I1,q1⟩=>?_)
 cases d with
 | true=>exact ha pins s1 σ H1 D I1 q1
 | false=>exact hb pins s1 σ H1 D I1 q1
noncomputable def tNever:TS:=fun _ _ _=>False
theorem ps_never:PS X st tNever:=fun _ _ _ _ _ _ h=>h.elim
end
abbrev TG:=V->St->Hp->(St->Hp->Prop)->Prop
abbrev TGs:=List V->St->Hp->(St->Hp->Prop)->Prop
noncomputable def PG (X:Cx) (target:Expr) (t:TG):Prop :=
 ∀(pins:List (Addr × Obj)) (s:Shared) (σ:St) (H:Hp) (v:V) (u:Value) (Q:St->Hp->Prop),Inv X pins σ H s->RelV v u->t v σ H Q ->
  wpAny (model X.prog X.w) X.A (assign target X.env u) (fun _ s'=>∃σ' H',Inv X pins σ' H' s'/\Q σ' H') X.xe s
noncomputable def PGs (X:Cx) (ts:List Expr) (t:TGs):Prop :=
 ∀(pins:List (Addr × Obj)) (s:Shared) (σ:St) (H:Hp) (vs:List V) (us:List Value) (Q:St->Hp->Prop),Inv X pins σ H s->Vals vs us->t vs σ H Q ->
  wpAny (model X.prog X.w) X.A (assignInOrder ((assignEach ts X.env).map (·.2)) us) (fun _ s'=>∃σ' H',Inv X pins σ' H' s'/\Q σ' H') X.xe s
abbrev TSet:=V->V->V->Hp->(Hp->Prop)->Prop
noncomputable def PSet (X:Cx) (t:TSet):Prop :=
 ∀(pins:List (Addr × Obj)) (s:Shared) (σ:St) (H:Hp) (o i v:V) (ov iv u:Value) (Q:Hp->Prop),Inv X pins σ H s->RelV o ov->RelV i iv->RelV v u->t o i v H Q ->
  wpAny (model X.prog X.w) X.A (setItem ov iv u) (fun _ s'=>∃H',Inv X pins σ H' s'/\Q H') X.xe s
section
variable {X:Cx} {pos:Pos}
noncomputable def gName (i:Nat):TG:=fun v σ H Q=>Q (σ.set i (some v)) H
theorem pg_name {i:Nat} {x:Str} (hN:X.N.Nodup) (hi:X.N[i]?=some x) (hx:Loc X.env.scope x) (hf:X.fn x=true\/X.env.scope.names.lookup x=some .local:=by first | exact .inl rfl | exact .inr rfl | assumption):PG X (.Name x pos) (gName i):=by
 intro pins s σ H v u Q I r h
 exact wpAny_assign_Name (store_ok I hN hi hx r (fun s' I'=>⟨_,H,I',h⟩) hf)
noncomputable def gNil:TGs:=fun vs σ H Q=>vs=[]/\Q σ H
noncomputable def gCons (t:TG) (u:TGs):TGs:=fun vs σ H Q=>∃v r,vs=v :: r/\t v σ H fun σ' H'=>u r σ' H' Q
theorem pgs_nil:PGs X [] gNil:=by
 intro pins s σ H vs us Q I r h
 obtain ⟨e,h⟩:=h
 subst e
 cases r
 exact assignInOrder_nil ⟨σ,H,I,h⟩
theorem pgs_cons {e:Expr} {es:List Expr} {t:TG} {u:TGs} (h1:PG X e t) (h2:PGs X es u)
 (hs:(assignEach (e :: es) X.env).map (·.2)=assign e X.env :: (assignEach es X.env).map (·.2):=by rfl):PGs X (e :: es) (gCons t u):=by
 intro pins s σ H vs us Q I r h
 obtain ⟨v,vr,e1,h⟩:=h
 subst e1
 cases r with
 | cons r rr =>
   rw [hs]
   refine assignInOrder_cons (thn (h1 pins s σ H _ _ _ I r h) fun _ s1 ⟨σ1,H1,I1,q1⟩=>?_)
   exact h2 pins s1 σ1 H1 _ _ Q I1 rr q1
noncomputable def gTup (K:PySem.W.Frag) (n:Nat) (t:TGs):TG:=fun v σ H Q=>∃a xs,v=.ref a/\SqT K H a xs/\xs.length=n/\t xs σ H Q
theorem pg_tup {es:List Expr} {k:Nat} {t:TGs} {n:Nat} (hc:X.calm=true) (h:PGs X es t)
 (hn:(assignEach es X.env).length=n:=by rfl) (hst:(assignEach es X.env).findIdx? (·.1)=none:=by rfl):PG X (.Tuple es k pos) (gTup X.K n t):=by
 intro pins s σ H v u Q I r hw
 obtain ⟨a,xs,e1,hq,hl,hw⟩:=hw
 subst e1
 cases r
 obtain ⟨its,rv,ht,hz⟩:=I.tuple hq
 refine assign_Tuple_tuple (I.ok.hd hc) ht (by simp [hn,<- hl,rv.length]) hst fun h' hx=>?_
 have I1:Inv X pins σ H { s with heap:=h' }:=I.kept (t':=s.toks) fun b o e=>hx b o (Nat.ne_of_lt (Heap.lt_size e)) e
 exact h pins _ σ H xs _ Q I1 (by simpa using rv) hw
noncomputable def gSub (to ti:TE) (t:TSet):TG:=fun v σ H Q=>to σ H fun o H1=>ti σ H1 fun i H2=>t o i v H2 fun H3=>Q σ H3
theorem pg_sub {o i:Expr} {to ti:TE} {t:TSet} (ho:PE X o to) (hi:PE X i ti) (hs:PSet X t)
 (ha:∀v,assign (.Subscript o i pos) X.env v=(do
  let ov <- holding [v] (eval o X.env)
  let iv <- holding [v,ov] (eval i X.env)
  standAt pos
  holding [v,ov,iv] (setItem ov iv v)
  release [v,ov,iv] []):=by intro _;rfl):PG X (.Subscript o i pos) (gSub to ti t):=by
 intro pins s σ H v u Q I r h
 rw [ha]
 refine wpAny_bind (wpAny_holding (thn (ho pins s σ H _ I h) fun ov s1 ⟨x,H1,I1,r1,q1⟩=>?_))
 refine wpAny_bind (wpAny_holding (thn (hi pins s1 σ H1 _ I1 q1) fun iv s2 ⟨y,H2,I2,r2,q2⟩=>?_))
 refine wpAny_bind (wpAny_standAt (wpAny_bind (wpAny_holding (thn (hs pins s2 σ H2 x y v ov iv u _ I2 r1 r2 r q2) fun _ s3 ⟨H3,I3,q3⟩=>?_))))
 exact wpAny_release ⟨σ,H3,I3,q3⟩
noncomputable def tAsg (te:TE) (g:TG):TS:=fun D σ H=>te σ H fun x H1=>g x σ H1 D.nx
theorem ps_asg {tg e:Expr} {te:TE} {g:TG} (he:PE X e te) (hg:PG X tg g) (hs:swapsWithSole [tg] e pos.line X.env=pure false:=by rfl) (hw:swappedStores [tg] e X.env=pure none:=by rfl)
 (h1:(assignEach [tg] X.env).map (·.2)=[assign tg X.env]:=by rfl):PS X (.Assign [tg] e pos) (tAsg te g):=by
 intro pins s σ H D I h
 refine wpAny_Assign_stores (thn (he pins s σ H _ I h) fun v s1 ⟨x,H1,I1,r1,q1⟩=>?_) hs hw
 rw [h1]
 exact thn (hg pins s1 σ H1 x v _ I1 r1 q1) fun _ s2 q=>q
theorem ps_set {i:Nat} {x:Str} {e:Expr} {te:TE} {pos':Pos} (hN:X.N.Nodup) (hi:X.N[i]?=some x) (hx:Loc X.env.scope x) (he:PE X e te) (hs:swapsWith e (some (.Name x pos')) pos.line X.env=pure false:=by rfl) (hf:X.fn x=true\/X.env.scope.names.lookup x=some .local:=by first | exact .inl rfl | exact .inr rfl | assumption) :
 PS X (.Assign [.Name x pos'] e pos) (tAsg te (gName i)):=by
 intro pins s σ H D I h
 refine wpAny_Assign_Name (thn (he pins s σ H _ I h) fun v s1 ⟨y,H1,I1,r1,q1⟩=>?_) hs
 exact store_ok I1 hN hi hx r1 (fun s2 I2=>⟨_,H1,I2,q1⟩) hf
noncomputable def tPar (i j:Nat) (ta:TA):TS:=fun D σ H=>ta σ H fun vs H1=>∃v w,vs=[v,w]/\D.nx ((σ.set i (some v)).set j (some w)) H1
theorem ps_par {i j:Nat} {x y:Str} {a b:Expr} {ta:TA} {px py pt:Pos} {kt k2 pt2} (hc:X.calm=true) (hN:X.N.Nodup) (hi:X.N[i]?=some x) (hj:X.N[j]?=some y) (hij:i≠j)
 (hx:X.env.scope.names.lookup x=some .local) (hy:X.env.scope.names.lookup y=some .local) (ha:PA X [a,b] ta)
 (hw:swappedStores [.Tuple [.Name x px,.Name y py] kt pt] (.Tuple [a,b] k2 pt2) X.env=pure (some [x,y]))
 (hs:swapsWithSole [.Tuple [.Name x px,.Name y py] kt pt] (.Tuple [a,b] k2 pt2) pos.line X.env=pure false:=by rfl) :
 PS X (.Assign [.Tuple [.Name x px,.Name y py] kt pt] (.Tuple [a,b] k2 pt2) pos) (tPar i j ta):=by
 intro pins s σ H D I h
 rw [exec_Assign_arm]
 refine wpAny_bind (wpAny_standAt ?_)
 rw [hs]
 refine wpAny_bind (wpAny_pure ?_)
 rw [if_neg (by decide)]
 refine wpAny_bind (Tuple_ (thn (ha _ pins s σ H _ I h) fun us s1 ⟨vs,H1,I1,r1,q1⟩=>?_))
 obtain ⟨v,w,e1,q1⟩:=q1
 subst e1
 obtain ⟨u1,u2,rfl,rv,rw'⟩:∃u1 u2,us=[u1,u2]/\RelV v u1/\RelV w u2:=by
  cases r1 with
  | cons p q =>
    cases q with
    | cons p' q' =>
      cases q'
      exact ⟨_,_,rfl,p,p'⟩
 refine wpAny_newObj_type ?_ (by show 2<=sizeLine;decide)
 have I2:Inv X pins σ H1 { s1 with heap:=s1.heap.push { cls:=.type "tuple",data:=.seq [u1,u2].toArray } }:=I1.kept (t':=s1.toks) fun b o e=>Heap.get?_push_of_some _ e
 rw [hw]
 refine wpAny_bind (wpAny_pure ?_)
 show wpAny (model X.prog X.w) X.A (do rule "assign.swapped-stores";let items <- unpackItems (.ref s1.heap.objs.size) 2 none;assignInOrder [fun v=>bindName X.env y v,fun v=>bindName X.env x v] items.reverse;pure Flow.next) _ _ _
 refine wpAny_bind (wpAny_rule (wpAny_bind (unpackItems_tuple (items:=#[u1,u2]) (I.ok.hd hc) (IsTup.new s1.heap _) fun h' hx'=>?_)))
 have I3:=I2.kept (h':=h') (t':=s1.toks) fun b o e=>hx' b o (Nat.ne_of_lt (Heap.lt_size e)) e
 show wpAny _ _ (assignInOrder [fun v=>bindName X.env y v,fun v=>bindName X.env x v] [u2,u1] >>= fun _=>pure Flow.next) _ _ _
 refine wpAny_bind (assignInOrder_cons (wpAny_bindName (store_ok I3 hN hj (.inl hy) rw' (fun s2 I4=>?_) (.inr hy))))
 refine assignInOrder_cons (wpAny_bindName (store_ok I4 hN hi (.inl hx) rv (fun s3 I5=>assignInOrder_nil (wpAny_pure ?_)) (.inr hx)))
 rw [List.set_comm _ _ (Ne.symm hij)] at I5
 exact ⟨_,H1,I5,q1⟩
end
section
variable {X:Cx} {pos:Pos}
noncomputable def tWhile (c:TT) (tb:TS):TS:=fun D σ H=>∃W:Nat->St->Hp->Prop,(∃m,W m σ H)/\∀m σ H,W m σ H ->
 c σ H fun b H1=>if b=true then ∃N:St->Hp->Prop,(∀σ' H',N σ' H'->∃m',m' < m/\W m' σ' H')/\tb { D with nx:=N,ct:=N,bk:=D.nx } σ H1 else D.nx σ H1
theorem ps_while {c:Expr} {body:List Stmt} {tc:TT} {tb:TS} (hp:PassesOwn (model X.prog X.w) X.A X.env X.xe) (hc:PT X c tc) (hb:PSs X body tb):PS X (.While c body [] pos) (tWhile tc tb):=by
 intro pins s σ H D I h
 obtain ⟨W,⟨m0,w0⟩,turn⟩:=h
 refine wpAny_While (codeAny_whileLoop (fun n s'=>∃σ' H',Inv X pins σ' H' s'/\W n σ' H') ?_ m0 ⟨σ,H,I,w0⟩)
 rintro n s1 ⟨σ1,H1,I1,w1⟩
 refine wpAny_passesOwn hp (thn (hc pins s1 σ1 H1 _ I1 (turn n σ1 H1 w1)) fun b s2 ⟨H2,I2,q2⟩=>?_)
 cases b with
 | true =>
   obtain ⟨N,hN,q2⟩:=q2
   rw [if_pos rfl]
   refine wpAny_passesOwn hp (thn (hb pins s2 σ1 H2 _ I2 q2) fun f s3 q3=>?_)
   cases f with
   | next =>
     obtain ⟨σ3,H3,I3,n3⟩:=q3
     obtain ⟨m',hm,w3⟩:=hN σ3 H3 n3
     exact ⟨m',hm,σ3,H3,I3,w3⟩
   | cont =>
     obtain ⟨σ3,H3,I3,n3⟩:=q3
     obtain ⟨m',hm,w3⟩:=hN σ3 H3 n3
     exact ⟨m',hm,σ3,H3,I3,w3⟩
   | brk=>exact q3
   | ret v=>exact q3
 | false =>
   rw [if_neg Bool.false_ne_true]
   exact wpAny_execs_nil ⟨σ1,H2,I2,q2⟩
end
structure It where
 go:Nat->Hp->Prop
 yld:Nat->Hp->V->Hp->Prop
 stop:Nat->Hp->Prop
noncomputable def FpOk (X:Cx) (pins:List (Addr × Obj)) (H:Hp) (b:Addr):Prop :=
 H b=none/\b≠X.env.locals/\b ∉ X.fs/\(b∈X.ex\/X.s₀.heap.objs.size<=b)/\(∀x c,X.env.cells.lookup x=some c->c≠b)/\∀p∈X.pn++pins,p.1≠b
theorem Inv.fpOk {X:Cx} {pins:List (Addr × Obj)} {σ:St} {H H':Hp} {s:Shared} {b:Addr} (I:Inv X pins σ H s) (hb:s.heap.objs.size<=b) (hn:H' b=none):FpOk X pins H' b:=by
 refine ⟨hn,Nat.ne_of_gt (Nat.lt_of_lt_of_le I.lt hb),I.nofs hb,.inr (Nat.le_trans I.sz hb),fun x c e z=>?_,fun p hp z=>?_⟩
 ·obtain ⟨v,q⟩:=I.cell x c e
  exact absurd (Nat.lt_of_lt_of_le q.lt (by rw [z];exact hb)) (Nat.lt_irrefl _)
 ·exact absurd (Nat.lt_of_lt_of_le (Heap.lt_size (I.pin p hp).1) (by rw [z];exact hb)) (Nat.lt_irrefl _)
structure Turn (P:Program) (w:World) (K:PySem.W.Frag) (tg:Expr) (J:It) (fp:List Addr) (it:Addr) (tn:Nat->Heap->Prop):Prop where
 mem:it∈fp
 obj:∀i h,tn i h->∀b∈fp,∃o,h.get? b=some o/\∀v,o.data≠.cell v
 keep:∀i h h',tn i h->(∀b∈fp,∀o,h.get? b=some o->h'.get? b=some o)->tn i h'
 item:∀(X:Cx),X.prog=P->X.w=w->X.K=K->X.calm=true->∀(i:Nat) (pins:List (Addr × Obj)) (s:Shared) (σ:St) (H:Hp) (E:Value->Shared->Prop),Inv X pins σ H s->(∀b∈fp,FpOk X pins H b)->tn i s.heap->J.go i H ->
  wpAny (model P w) X.A (pyNext (.ref it)) (fun r s1=>∃u,r=some u /\
   wpAny (model P w) X.A (letOwnedTupleGo tg (.ref it) u) (fun _ s2=>∃x H',Inv X pins σ H' s2/\RelV x u/\J.yld i H x H'/\tn (i+1) s2.heap/\∀b∈fp,H' b=none) E s1) E s
 done:∀(X:Cx),X.prog=P->X.w=w->X.K=K->X.calm=true->∀(i:Nat) (pins:List (Addr × Obj)) (s:Shared) (σ:St) (H:Hp) (E:Value->Shared->Prop),Inv X pins σ H s->(∀b∈fp,FpOk X pins H b)->tn i s.heap->J.stop i H ->
  wpAny (model P w) X.A (pyNext (.ref it)) (fun r s1=>r=none/\Inv X pins σ H s1) E s
 self:∀(A:Around) (i:Nat) (s:Shared) (Q:Value->Shared->Prop) (E:Value->Shared->Prop),tn i s.heap->Q (.ref it) s->wpAny (model P w) A (pyIter (.ref it)) Q E s
abbrev TI:=St->Hp->(It->Hp->Prop)->Prop
noncomputable def PIE (X:Cx) (pins:List (Addr × Obj)) (σ:St) (tg:Expr) (R:It->Hp->Prop) (itv:Value) (s2:Shared):Prop :=
 ∃(it:Addr) (fp:List Addr) (tn:Nat->Heap->Prop) (J:It) (H':Hp),itv=.ref it/\Inv X pins σ H' s2/\Turn X.prog X.w X.K tg J fp it tn/\tn 0 s2.heap/\(∀b∈fp,FpOk X pins H' b)/\R J H'
noncomputable def PI (X:Cx) (tg iter:Expr) (wi:TI):Prop :=
 ∀(pins:List (Addr × Obj)) (s:Shared) (σ:St) (H:Hp) (R:It->Hp->Prop),Inv X pins σ H s->wi σ H R ->
  wpAny (model X.prog X.w) X.A (eval iter X.env) (fun v s1=>wpAny (model X.prog X.w) X.A (pyIter v) (PIE X pins σ tg R) X.xe s1) X.xe s
theorem go_of {M:Model} {A:Around} {E:Value->Shared->Prop} {s:Shared} {tg:Expr} {it:Addr} {u:Value} {o:Obj} {n:String} {vs:Array Value} {Q:Unit->Shared->Prop} (ho:s.heap.get? it=some o) (hc:o.cls=.type n) (hd:o.data=.fields vs)
 (hn:["enumerate","zip","dict_itemiterator","dict_reverseitemiterator","odict_iterator","itertools.zip_longest","itertools.pairwise"].contains n=false) (hQ:Q () s):wpAny M A (letOwnedTupleGo tg (.ref it) u) Q E s:=by
 unfold letOwnedTupleGo
 cases tg <;> first
  | exact wpAny_pure hQ
  | (cases u <;> first
   | exact wpAny_pure hQ
   | (refine wpAny_bind (wpAny_load ho ?_)
      rw [hc,hd]
      show wpAny M A (if (["enumerate","zip","dict_itemiterator","dict_reverseitemiterator","odict_iterator","itertools.zip_longest","itertools.pairwise"].contains n && vs[0]? == some (rawInt _))=true then _ else _) Q E s
      rw [if_neg (by intro h;rw [hn,Bool.false_and] at h;cases h)]
      exact wpAny_pure hQ))
noncomputable def Itl (K:PySem.W.Frag) (a:Addr):It :=
 ⟨fun i H=>∃xs x,SqL K H a xs/\xs[i]?=some x,fun i H x H'=>H'=H/\∀xs,SqL K H a xs->xs[i]?=some x,fun i H=>∃xs,SqL K H a xs/\xs.length<=i⟩
noncomputable def Itt (K:PySem.W.Frag) (a:Addr):It :=
 ⟨fun i H=>∃xs x,SqT K H a xs/\xs[i]?=some x,fun i H x H'=>H'=H/\∀xs,SqT K H a xs->xs[i]?=some x,fun i H=>∃xs,SqT K H a xs/\xs.length<=i⟩
noncomputable def Itr (lo:Int) (n:Nat):It:=⟨fun i _=>i < n,fun i H x H'=>H'=H/\x=.int (lo+i),fun i _=>n<=i⟩
theorem turn_list {P:Program} {w:World} {K:PySem.W.Frag} {tg:Expr} (a it:Addr):Turn P w K tg (Itl K a) [it] it (fun i h=>h.IsListIter it a i) where
 mem:=by simp
 obj:=fun i h st b hb=>by
  have e:b=it:=by simpa using hb
  subst e
  obtain ⟨o,e,c,d⟩:=st
  exact ⟨o,e,fun v z=>by rw [d] at z;cases z⟩
 keep:=fun i h h' st k=>st.at fun o e=>k it (by simp) o e
 item:=by
  intro X hP hw hK hc i pins s σ H E I hf st hg
  subst hP hw hK
  obtain ⟨xs,x,hq,hx⟩:=hg
  obtain ⟨its,rv,p,hz⟩:=I.list hq
  obtain ⟨u,hu,ru⟩:=rv.get hx
  obtain ⟨f0,f1,f2,f3,f4,f5⟩:=hf it (by simp)
  refine wpAny_pyNext_list_item st p.isList (x:=u) (by simpa using hu) fun h' st' sb=>?_
  have I1:Inv X pins σ H { s with heap:=h' }:=I.turned (t':=s.toks) (fun b o hb e=>(sb.2 b hb).trans e) f0 f1 f3 f4 f5
  obtain ⟨o,e,c,d⟩:=id st'
  exact ⟨u,rfl,go_of (s:={ s with heap:=h' }) e c d (by decide) ⟨x,H,I1,ru,⟨rfl,fun ys hy=>by rw [I.list_inj hy hq];exact hx⟩,st',fun b hb=>(hf b hb).1⟩⟩
 done:=by
  intro X hP hw hK hc i pins s σ H E I hf st hg
  subst hP hw hK
  obtain ⟨xs,hq,hx⟩:=hg
  obtain ⟨its,rv,p,hz⟩:=I.list hq
  obtain ⟨f0,f1,f2,f3,f4,f5⟩:=hf it (by simp)
  have hl:=rv.length
  exact wpAny_pyNext_list_end (I.ok.hd hc) st p.isList (by simp;omega) fun h' eb=>⟨rfl,I.turned (t':=s.toks) (fun b o hb e=>eb b o hb e) f0 f1 f3 f4 f5⟩
 self:=fun _ _ _ _ _ st h=>wpAny_pyIter_listiter st h
theorem turn_tuple {P:Program} {w:World} {K:PySem.W.Frag} {tg:Expr} (a it:Addr):Turn P w K tg (Itt K a) [it] it (fun i h=>h.IsTupleIter it a i) where
 mem:=by simp
 obj:=fun i h st b hb=>by
  have e:b=it:=by simpa using hb
  subst e
  obtain ⟨o,e,c,d⟩:=st
  exact ⟨o,e,fun v z=>by rw [d] at z;cases z⟩
 keep:=fun i h h' st k=>st.at fun o e=>k it (by simp) o e
 item:=by
  intro X hP hw hK hc i pins s σ H E I hf st hg
  subst hP hw hK
  obtain ⟨xs,x,hq,hx⟩:=hg
  obtain ⟨its,rv,p,hz⟩:=I.tuple hq
  obtain ⟨u,hu,ru⟩:=rv.get hx
  obtain ⟨f0,f1,f2,f3,f4,f5⟩:=hf it (by simp)
  refine wpAny_pyNext_tuple_item st (show s.heap.IsTuple a its.toArray from p) (x:=u) (by simpa using hu) fun h' st' sb=>?_
  have I1:Inv X pins σ H { s with heap:=h' }:=I.turned (t':=s.toks) (fun b o hb e=>(sb.2 b hb).trans e) f0 f1 f3 f4 f5
  obtain ⟨o,e,c,d⟩:=id st'
  exact ⟨u,rfl,go_of (s:={ s with heap:=h' }) e c d (by decide) ⟨x,H,I1,ru,⟨rfl,fun ys hy=>by rw [I.tuple_inj hy hq];exact hx⟩,st',fun b hb=>(hf b hb).1⟩⟩
 done:=by
  intro X hP hw hK hc i pins s σ H E I hf st hg
  subst hP hw hK
  obtain ⟨xs,hq,hx⟩:=hg
  obtain ⟨its,rv,p,hz⟩:=I.tuple hq
  obtain ⟨f0,f1,f2,f3,f4,f5⟩:=hf it (by simp)
  have hl:=rv.length
  exact wpAny_pyNext_tuple_end (I.ok.hd hc) st (show s.heap.IsTuple a its.toArray from p) (by simp;omega) fun h' eb=>⟨rfl,I.turned (t':=s.toks) (fun b o hb e=>eb b o hb e) f0 f1 f3 f4 f5⟩
 self:=fun _ _ _ _ _ st h=>wpAny_pyIter_tupleiter st h
theorem turn_range {P:Program} {w:World} {K:PySem.W.Frag} {tg:Expr} (it:Addr) (lo:Int) (n:Nat):Turn P w K tg (Itr lo n) [it] it (fun i h=>IsRangeIter h it (lo+(i:Nat)*1) ((n:Int) - (i:Nat)) 1) where
 mem:=by simp
 obj:=fun i h st b hb=>by
  have e:b=it:=by simpa using hb
  subst e
  exact ⟨_,st,fun v z=>by
   have z':Data.fields _=Data.cell v:=z
   cases z'⟩
 keep:=fun i h h' st k=>k it (by simp) _ st
 item:=by
  intro X hP hw hK hc i pins s σ H E I hf st hg
  subst hP hw hK
  obtain ⟨f0,f1,f2,f3,f4,f5⟩:=hf it (by simp)
  have W:=Walks.range (prog:=X.prog) (w:=X.w) (I.ok.hd hc) it lo 1 n
  refine W.item i s _ _ hg st fun v h' tk hv st' kk=>?_
  obtain ⟨t,rfl⟩:=hv
  have I1:Inv X pins σ H { s with heap:=h',toks:=tk }:=I.turned (fun b o hb e=>kk b o (by simpa using hb) e) f0 f1 f3 f4 f5
  refine ⟨_,rfl,go_of (s:={ s with heap:=h',toks:=tk }) (n:="range_iterator") st' rfl rfl (by decide) ⟨.int (lo+i),H,I1,⟨t,?_⟩,⟨rfl,rfl⟩,st',fun b hb=>(hf b hb).1⟩⟩
  rw [Int.mul_one]
 done:=by
  intro X hP hw hK hc i pins s σ H E I hf st hg
  subst hP hw hK
  obtain ⟨f0,f1,f2,f3,f4,f5⟩:=hf it (by simp)
  exact wpAny_pyNext_range_end (I.ok.hd hc) st (by have:n<=i:=hg;omega) fun h' eb=>⟨rfl,I.turned (t':=s.toks) (fun b o hb e=>eb b o hb e) f0 f1 f3 f4 f5⟩
 self:=fun _ _ _ _ _ st h=>wpAny_pyIter_rangeiter st h
end L2
namespace L2
open PySem PySem.Spec PyProof.Rows
section
variable {X:Cx} {tg:Expr}
noncomputable def iList (K:PySem.W.Frag) (tl:TE):TI:=fun σ H R=>tl σ H fun x H1=>∃a,x=.ref a/\(∃xs,SqL K H1 a xs)/\R (Itl K a) H1
noncomputable def iTup (K:PySem.W.Frag) (tl:TE):TI:=fun σ H R=>tl σ H fun x H1=>∃a,x=.ref a/\(∃xs,SqT K H1 a xs)/\R (Itt K a) H1
theorem pi_list {l:Expr} {tl:TE} (hl:PE X l tl):PI X tg l (iList X.K tl):=by
 intro pins s σ H R I h
 refine thn (hl pins s σ H _ I h) fun v s1 ⟨x,H1,I1,r1,q1⟩=>?_
 obtain ⟨a,e,⟨xs,hq⟩,q⟩:=q1
 subst e
 cases r1
 obtain ⟨its,rv,p,hz⟩:=I1.list hq
 refine wpAny_pyIter_list p.isList ?_
 refine ⟨s1.heap.objs.size,[s1.heap.objs.size],_,_,H1,rfl,I1.kept (t':=s1.toks) fun b o e=>Heap.get?_push_of_some _ e,turn_list a _,⟨_,Heap.get?_push_size _ rfl,rfl,rfl⟩,fun b hb=>?_,q⟩
 have e:b=s1.heap.objs.size:=by simpa using hb
 subst e
 exact I1.fpOk (Nat.le_refl _) (I1.hok.fresh (Nat.le_refl _))
theorem pi_tup {l:Expr} {tl:TE} (hl:PE X l tl):PI X tg l (iTup X.K tl):=by
 intro pins s σ H R I h
 refine thn (hl pins s σ H _ I h) fun v s1 ⟨x,H1,I1,r1,q1⟩=>?_
 obtain ⟨a,e,⟨xs,hq⟩,q⟩:=q1
 subst e
 cases r1
 obtain ⟨its,rv,p,hz⟩:=I1.tuple hq
 refine wpAny_pyIter_tuple (show s1.heap.IsTuple a its.toArray from p) ?_
 refine ⟨s1.heap.objs.size,[s1.heap.objs.size],_,_,H1,rfl,I1.kept (t':=s1.toks) fun b o e=>Heap.get?_push_of_some _ e,turn_tuple a _,⟨_,Heap.get?_push_size _ rfl,rfl,rfl⟩,fun b hb=>?_,q⟩
 have e:b=s1.heap.objs.size:=by simpa using hb
 subst e
 exact I1.fpOk (Nat.le_refl _) (I1.hok.fresh (Nat.le_refl _))
theorem range_it {pins:List (Addr × Obj)} {σ:St} {H:Hp} {s:Shared} {R:It->Hp->Prop} {E:Value->Shared->Prop} {lo hi:Int} {t u v:Tok} {tk:Nat} (I:Inv X pins σ H s) (h1:-(2 ^ 62)<=lo) (h2:lo < 2 ^ 62) (h3:-(2 ^ 62)<=hi) (h4:hi < 2 ^ 62)
 (q:R (Itr lo (hi - lo).toNat) H):wpAny (model X.prog X.w) X.A (pyIter (.ref s.heap.objs.size)) (PIE X pins σ tg R) E { s with heap:=s.heap.push { cls:=.type "range",data:=.fields #[.int lo t,.int hi u,.int 1 v] },toks:=tk }:=by
 refine wpAny_pyIter_range (IsRange.new ..) (small_one h1 h2 h3 h4) ?_
 have I1:Inv X pins σ H { s with heap:=s.heap.push { cls:=.type "range",data:=.fields #[.int lo t,.int hi u,.int 1 v] },toks:=tk }:=I.kept fun b o e=>Heap.get?_push_of_some _ e
 refine ⟨(s.heap.push { cls:=.type "range",data:=.fields #[.int lo t,.int hi u,.int 1 v] }).objs.size,[(s.heap.push { cls:=.type "range",data:=.fields #[.int lo t,.int hi u,.int 1 v] }).objs.size],_,_,H,rfl,
  I1.kept (t':=tk) fun b o e=>Heap.get?_push_of_some _ e,turn_range _ lo (hi - lo).toNat,?_,fun b hb=>?_,q⟩
 ·have e1:lo+((0:Nat):Int)*1=lo:=by simp
  have e2:(((hi - lo).toNat:Nat):Int) - ((0:Nat):Int)=Builtin.Range.rangeSize lo hi 1:=by rw [rangeSize_one];split <;> omega
  show IsRangeIter _ _ (lo+((0:Nat):Int)*1) ((((hi - lo).toNat:Nat):Int) - ((0:Nat):Int)) 1
  rw [e1,e2]
  exact Heap.get?_push_size _ rfl
 ·have e:b=(s.heap.push { cls:=.type "range",data:=.fields #[.int lo t,.int hi u,.int 1 v] }).objs.size:=by simpa using hb
  subst e
  exact I1.fpOk (Nat.le_refl _) (I1.hok.fresh (Nat.le_refl _))
noncomputable def iRng1 (ta:TA):TI:=fun σ H R=>ta σ H fun vs H1=>∃j:Int,vs=[.int j]/\-(2 ^ 62)<=j/\j < 2 ^ 62/\R (Itr 0 j.toNat) H1
theorem pi_range1 {a:Expr} {ta:TA} {p pos:Pos} (hg:Gl X "range") (hm:X.mg "range"=none) (ha:PA X [a] ta) (hs:starEach [a] X.env=[(false,eval a X.env)]:=by rfl):PI X tg (.Call (.Name "range" p) [a] [] pos) (iRng1 ta):=by
 intro pins s σ H R I h
 refine Call_ (ld_blt I hg hm boot_range (PyProof.Rows.callWith_type1 (thn (ha pos pins s σ H _ I h) fun us s1 ⟨vs,H1,I1,r1,q1⟩=>?_) hs rfl))
 obtain ⟨j,e,q1,q2,q⟩:=q1
 subst e
 cases r1 with
 | cons r rr =>
   cases rr
   obtain ⟨t,rfl⟩:=r
   exact call_range_1 (range_it I1 (by omega) (by omega) q1 q2 (by simpa using q))
noncomputable def tFor (wi:TI) (g:TG) (tb:TS):TS:=fun D σ H=>wi σ H fun J H1=>∃W:Nat->Nat->St->Hp->Prop,(∃m,W 0 m σ H1)/\∀i m σ H,W i m σ H ->
 (J.stop i H/\D.nx σ H)\/(J.go i H/\∃N:St->Hp->Prop,(∀σ' H',N σ' H'->∃m',m' < m/\W (i+1) m' σ' H')/\∀x H',J.yld i H x H'->g x σ H' fun σ2 H2=>tb { D with nx:=N,ct:=N,bk:=D.nx } σ2 H2)
noncomputable def pinsAt (fp:List Addr) (h:Heap):List (Addr × Obj):=fp.filterMap fun b=>(h.get? b).map fun o=>(b,o)
theorem mem_pinsAt {fp:List Addr} {h:Heap} {b:Addr} {o:Obj} (hb:b∈fp) (e:h.get? b=some o):(b,o)∈pinsAt fp h:=List.mem_filterMap.mpr ⟨b,hb,by rw [e];rfl⟩
theorem of_pinsAt {fp:List Addr} {h:Heap} {p:Addr × Obj} (hp:p∈pinsAt fp h):p.1∈fp/\h.get? p.1=some p.2:=by
 obtain ⟨b,hb,e⟩:=List.mem_filterMap.mp hp
 cases q:h.get? b with
 | none=>rw [q] at e;cases e
 | some o =>
   rw [q] at e
   have e':(b,o)=p:=Option.some.inj e
   subst e'
   exact ⟨hb,q⟩
theorem Inv.pinned {pins:List (Addr × Obj)} {σ:St} {H:Hp} {s:Shared} {fp:List Addr} (I:Inv X pins σ H s) (hf:∀b∈fp,FpOk X pins H b) (ho:∀b∈fp,∃o,s.heap.get? b=some o/\∀v,o.data≠.cell v):Inv X (pins++pinsAt fp s.heap) σ H s :=
 I.pins_of fun p hp=>(List.mem_append.mp hp).elim (fun z=>I.pin p (List.mem_append_right _ z)) fun z=>by
  obtain ⟨hb,e⟩:=of_pinsAt z
  obtain ⟨f0,f1,f2,_⟩:=hf p.1 hb
  obtain ⟨o,e',d⟩:=ho p.1 hb
  rw [e] at e';cases e'
  exact ⟨e,f0,f1,f2,d⟩
theorem Inv.unpinned {pins pl:List (Addr × Obj)} {σ:St} {H:Hp} {s:Shared} (I:Inv X (pins++pl) σ H s):Inv X pins σ H s:=I.pins_of fun p hp=>I.pin p (List.mem_append_right _ (List.mem_append_left _ hp))
theorem ps_for {iter:Expr} {body:List Stmt} {wi:TI} {g:TG} {tb:TS} {pos:Pos} (hp:PassesOwn (model X.prog X.w) X.A X.env X.xe) (hc:X.calm=true) (hi:PI X tg iter wi) (hg:PG X tg g) (hb:PSs X body tb)
 (hs:∀x,foldedSetIterable iter X.env x=pure x:=by intro _;rfl):PS X (.For tg iter body [] pos) (tFor wi g tb):=by
 intro pins s σ H D I h
 refine wpAny_For (thn (hi pins s σ H _ I h) fun v s1 h1=>thn h1 fun itv s2 h2=>?_) hs
 obtain ⟨it,fp,tn,J,H2,e,I2,T,st2,f2,W,⟨m0,w0⟩,turn⟩:=h2
 subst e
 have stat:∀{H':Hp},(∀b∈fp,H' b=none)->∀b∈fp,FpOk X pins H' b:=fun hn b hb=>⟨hn b hb,(f2 b hb).2⟩
 refine codeAny_forLoop_any (fun n s'=>∃i σ' H',Inv X pins σ' H' s'/\tn i s'.heap/\(∀b∈fp,H' b=none)/\W i n σ' H') ?_ m0 ⟨0,σ,H2,I2,st2,fun b hb=>(f2 b hb).1,w0⟩
 rintro n s3 ⟨i,σ3,H3,I3,st3,fr3,w3⟩
 rcases turn i n σ3 H3 w3 with ⟨stop,qn⟩ | ⟨go,N,hN,step⟩
 ·refine wpAny_passesOwn hp (thn (T.done X rfl rfl rfl hc i pins s3 σ3 H3 X.xe I3 (stat fr3) st3 stop) fun r s4 ⟨hr,I4⟩=>?_)
  subst hr
  exact wpAny_execs_nil ⟨σ3,H3,I4,qn⟩
 ·refine wpAny_passesOwn hp (thn (T.item X rfl rfl rfl hc i pins s3 σ3 H3 X.xe I3 (stat fr3) st3 go) fun r s4 ⟨u,hr,h4⟩=>?_)
  subst hr
  refine wpAny_passesOwn hp (thn h4 fun _ s5 ⟨x,H5,I5,r5,y5,st5,fr5⟩=>?_)
  have I5':=I5.pinned (stat fr5) (T.obj _ _ st5)
  refine wpAny_passesOwn hp (thn (hg _ s5 σ3 H5 x u _ I5' r5 (step x H5 y5)) fun _ s6 ⟨σ6,H6,I6,q6⟩=>?_)
  refine wpAny_passesOwn hp (thn (hb _ s6 σ6 H6 _ I6 q6) fun f s7 q7=>?_)
  have again:∀{σ7:St} {H7:Hp},Inv X (pins++pinsAt fp s5.heap) σ7 H7 s7->N σ7 H7->∃m,m < n/\∃i σ' H',Inv X pins σ' H' s7/\tn i s7.heap/\(∀b∈fp,H' b=none)/\W i m σ' H':=fun {σ7 H7} I7 n7=>by
   obtain ⟨m',hm,w7⟩:=hN σ7 H7 n7
   refine ⟨m',hm,i+1,σ7,H7,I7.unpinned,T.keep _ _ _ st5 fun b hb o e=>(I7.pin (b,o) (List.mem_append_right _ (List.mem_append_right _ (mem_pinsAt hb e)))).1,fun b hb=>?_,w7⟩
   obtain ⟨o,e,d⟩:=T.obj _ _ st5 b hb
   exact (I7.pin (b,o) (List.mem_append_right _ (List.mem_append_right _ (mem_pinsAt hb e)))).2.1
  cases f with
  | next=>obtain ⟨σ7,H7,I7,n7⟩:=q7;exact again I7 n7
  | cont=>obtain ⟨σ7,H7,I7,n7⟩:=q7;exact again I7 n7
  | brk=>obtain ⟨σ7,H7,I7,q7⟩:=q7;exact ⟨σ7,H7,I7.unpinned,q7⟩
  | ret v=>obtain ⟨x7,σ7,H7,I7,r7,q7⟩:=q7;exact ⟨x7,σ7,H7,I7.unpinned,r7,q7⟩
end
theorem for_list {K:PySem.W.Frag} {a:Addr} {xs:List V} {g:TG} {tb:TS} {D:Ends} {σ:St} {H:Hp} (Pv:Nat->St->Hp->Prop) (h0:Pv 0 σ H) (hl:∀i σ H,i<=xs.length->Pv i σ H->SqL K H a xs)
 (hs:∀i x σ H,xs[i]?=some x->Pv i σ H->g x σ H fun σ2 H2=>tb { D with nx:=Pv (i+1),ct:=Pv (i+1),bk:=D.nx } σ2 H2) (hd:∀σ H,Pv xs.length σ H->D.nx σ H) :
 ∃W:Nat->Nat->St->Hp->Prop,(∃m,W 0 m σ H)/\∀i m σ H,W i m σ H ->
  ((Itl K a).stop i H/\D.nx σ H)\/((Itl K a).go i H/\∃N:St->Hp->Prop,(∀σ' H',N σ' H'->∃m',m' < m/\W (i+1) m' σ' H')/\∀x H',(Itl K a).yld i H x H'->g x σ H' fun σ2 H2=>tb { D with nx:=N,ct:=N,bk:=D.nx } σ2 H2):=by
 refine ⟨fun i m σ H=>m=xs.length - i/\i<=xs.length/\Pv i σ H,⟨xs.length,by simp,Nat.zero_le _,h0⟩,?_⟩
 rintro i m σ H ⟨rfl,hi,p⟩
 have q:=hl i σ H hi p
 by_cases hlt:i < xs.length
 ·refine .inr ⟨⟨xs,xs[i],q,by simp [hlt]⟩,Pv (i+1),fun σ' H' p'=>⟨xs.length - (i+1),by omega,rfl,hlt,p'⟩,fun x H' y=>?_⟩
  obtain ⟨e,y⟩:=y
  subst e
  exact hs i x σ _ (y xs q) p
 ·have e:i=xs.length:=by omega
  subst e
  exact .inl ⟨⟨xs,q,Nat.le_refl _⟩,hd σ H p⟩
theorem for_tup {K:PySem.W.Frag} {a:Addr} {xs:List V} {g:TG} {tb:TS} {D:Ends} {σ:St} {H:Hp} (Pv:Nat->St->Hp->Prop) (h0:Pv 0 σ H) (hl:∀i σ H,i<=xs.length->Pv i σ H->SqT K H a xs)
 (hs:∀i x σ H,xs[i]?=some x->Pv i σ H->g x σ H fun σ2 H2=>tb { D with nx:=Pv (i+1),ct:=Pv (i+1),bk:=D.nx } σ2 H2) (hd:∀σ H,Pv xs.length σ H->D.nx σ H) :
 ∃W:Nat->Nat->St->Hp->Prop,(∃m,W 0 m σ H)/\∀i m σ H,W i m σ H ->
  ((Itt K a).stop i H/\D.nx σ H)\/((Itt K a).go i H/\∃N:St->Hp->Prop,(∀σ' H',N σ' H'->∃m',m' < m/\W (i+1) m' σ' H')/\∀x H',(Itt K a).yld i H x H'->g x σ H' fun σ2 H2=>tb { D with nx:=N,ct:=N,bk:=D.nx } σ2 H2):=by
 refine ⟨fun i m σ H=>m=xs.length - i/\i<=xs.length/\Pv i σ H,⟨xs.length,by simp,Nat.zero_le _,h0⟩,?_⟩
 rintro i m σ H ⟨rfl,hi,p⟩
 have q:=hl i σ H hi p
 by_cases hlt:i < xs.length
 ·refine .inr ⟨⟨xs,xs[i],q,by simp [hlt]⟩,Pv (i+1),fun σ' H' p'=>⟨xs.length - (i+1),by omega,rfl,hlt,p'⟩,fun x H' y=>?_⟩
  obtain ⟨e,y⟩:=y
  subst e
  exact hs i x σ _ (y xs q) p
 ·have e:i=xs.length:=by omega
  subst e
  exact .inl ⟨⟨xs,q,Nat.le_refl _⟩,hd σ H p⟩
theorem for_range {lo:Int} {n:Nat} {g:TG} {tb:TS} {D:Ends} {σ:St} {H:Hp} (Pv:Nat->St->Hp->Prop) (h0:Pv 0 σ H)
 (hs:∀i σ H,i < n->Pv i σ H->g (.int (lo+i)) σ H fun σ2 H2=>tb { D with nx:=Pv (i+1),ct:=Pv (i+1),bk:=D.nx } σ2 H2) (hd:∀σ H,Pv n σ H->D.nx σ H) :
 ∃W:Nat->Nat->St->Hp->Prop,(∃m,W 0 m σ H)/\∀i m σ H,W i m σ H ->
  ((Itr lo n).stop i H/\D.nx σ H)\/((Itr lo n).go i H/\∃N:St->Hp->Prop,(∀σ' H',N σ' H'->∃m',m' < m/\W (i+1) m' σ' H')/\∀x H',(Itr lo n).yld i H x H'->g x σ H' fun σ2 H2=>tb { D with nx:=N,ct:=N,bk:=D.nx } σ2 H2):=by
 refine ⟨fun i m σ H=>m=n - i/\i<=n/\Pv i σ H,⟨n,by simp,Nat.zero_le _,h0⟩,?_⟩
 rintro i m σ H ⟨rfl,hi,p⟩
 by_cases hlt:i < n
 ·refine .inr ⟨hlt,Pv (i+1),fun σ' H' p'=>⟨n - (i+1),by omega,rfl,hlt,p'⟩,fun x H' y=>?_⟩
  obtain ⟨e,y⟩:=y
  subst e y
  exact hs i σ _ hlt p
 ·have e:i=n:=by omega
  subst e
  exact .inl ⟨Nat.le_refl _,hd σ H p⟩
theorem while_by {c:TT} {tb:TS} {D:Ends} {σ:St} {H:Hp} (Pv:St->Hp->Prop) (μ:St->Hp->Nat) (h0:Pv σ H)
 (hs:∀σ H,Pv σ H->c σ H fun b H1=>if b=true then tb { D with nx:=fun σ' H'=>Pv σ' H'/\μ σ' H' < μ σ H,ct:=fun σ' H'=>Pv σ' H'/\μ σ' H' < μ σ H,bk:=D.nx } σ H1 else D.nx σ H1)
 (mono:∀σ H Q Q',(∀b H1,Q b H1->Q' b H1)->c σ H Q->c σ H Q'):tWhile c tb D σ H:=by
 refine ⟨fun m σ H=>m=μ σ H/\Pv σ H,⟨_,rfl,h0⟩,?_⟩
 rintro m σ H ⟨rfl,p⟩
 refine mono σ H _ _ (fun b H1 q=>?_) (hs σ H p)
 cases b with
 | true=>exact ⟨_,fun σ' H' ⟨p',l⟩=>⟨_,l,rfl,p'⟩,q⟩
 | false=>exact q
end L2
namespace L2
open PySem PySem.Spec PyProof.Rows
abbrev R2:=V->V->Hp->VK->Prop
noncomputable def OpR (X:Cx) (f:Value->Value->Sem Value) (r:R2):Prop :=
 ∀(pins:List (Addr × Obj)) (s:Shared) (σ:St) (H:Hp) (x y:V) (v u:Value) (Q:VK),Inv X pins σ H s->RelV x v->RelV y u->r x y H Q ->
  wpAny (model X.prog X.w) X.A (f v u) (EP X pins σ Q) X.xe s
noncomputable def UnR (X:Cx) (f:Value->Sem Value) (r:V->Hp->VK->Prop):Prop :=
 ∀(pins:List (Addr × Obj)) (s:Shared) (σ:St) (H:Hp) (x:V) (v:Value) (Q:VK),Inv X pins σ H s->RelV x v->r x H Q ->
  wpAny (model X.prog X.w) X.A (f v) (EP X pins σ Q) X.xe s
noncomputable def CallR (X:Cx) (f:Value) (r:List V->Hp->VK->Prop):Prop :=
 ∀(pins:List (Addr × Obj)) (s:Shared) (σ:St) (H:Hp) (xs:List V) (us:List Value) (Q:VK),Inv X pins σ H s->Vals xs us->r xs H Q ->
  wpAny (model X.prog X.w) X.A (call f us) (EP X pins σ Q) X.xe s
noncomputable def tOp (r:R2) (ta tb:TE):TE:=fun σ H Q=>ta σ H fun x H1=>tb σ H1 fun y H2=>r x y H2 Q
noncomputable def tUn (r:V->Hp->VK->Prop) (ta:TE):TE:=fun σ H Q=>ta σ H fun x H1=>r x H1 Q
noncomputable def rI (C:Int->Int->Prop) (g:Int->Int->V):R2:=fun x y H Q=>∃i j,x=.int i/\y=.int j/\C i j/\Q (g i j) H
noncomputable def rI0 (g:Int->Int->V):R2:=fun x y H Q=>∃i j,x=.int i/\y=.int j/\Q (g i j) H
noncomputable def rU (g:Int->V):V->Hp->VK->Prop:=fun x H Q=>∃i,x=.int i/\Q (g i) H
section
variable {X:Cx} {a b c:Expr} {ta tb tc:TE} {pos:Pos}
theorem binT (ha:PE X a ta) (hb:PE X b tb) {pins:List (Addr × Obj)} {s:Shared} {σ:St} {H:Hp} {R:V->V->Hp->Prop} (I:Inv X pins σ H s)
 (h:ta σ H fun x H1=>tb σ H1 fun y H2=>R x y H2) {Q:Value->Shared->Prop} {f:Value->Value->Sem Value}
 (hf:∀v u s2 x y H2,Inv X pins σ H2 s2->RelV x v->RelV y u->R x y H2->wpAny (model X.prog X.w) X.A (f v u) Q X.xe s2) :
 wpAny (model X.prog X.w) X.A (eval a X.env) (fun v s₁=>wpAny (model X.prog X.w) X.A (eval b X.env) (fun u s₂=>wpAny (model X.prog X.w) X.A (f v u) Q X.xe s₂) X.xe s₁) X.xe s:=by
 refine thn (ha pins s σ H _ I h) fun v s1 ⟨x,H1,I1,r1,q1⟩=>?_
 refine thn (hb pins s1 σ H1 _ I1 q1) fun u s2 ⟨y,H2,I2,r2,q2⟩=>?_
 exact hf v u s2 x y H2 I2 r1 r2 q2
theorem pe_op {op:Operator} {r:R2} (ho:OpR X (binaryOp op) r) (ha:PE X a ta) (hb:PE X b tb):PE X (.BinOp a op b pos) (tOp r ta tb):=by
 intro pins s σ H Q I h
 exact wpAny_BinOp (binT ha hb I h fun v u s2 x y H2 I2 rx ry q=>ho pins s2 σ H2 x y v u Q I2 rx ry q)
theorem pe_un {op:UnaryOp} {r:V->Hp->VK->Prop} (ho:UnR X (unaryOp op) r) (ha:PE X a ta):PE X (.UnaryOp op a pos) (tUn r ta):=by
 intro pins s σ H Q I h
 exact UnaryOp_ (thn (ha pins s σ H _ I h) fun v s1 ⟨x,H1,I1,r1,q1⟩=>ho pins s1 σ H1 x v Q I1 r1 q1)
theorem opI {f:Value->Value->Sem Value} {C:Int->Int->Prop} {g:Int->Int->Int}
 (rule:∀(i j:Int) (t u:Tok) (s:Shared) (Q:Value->Shared->Prop) (E:Value->Shared->Prop),C i j->Q (.int (g i j) s.toks) { s with toks:=s.toks+1 }->wpAny (model X.prog X.w) X.A (f (.int i t) (.int j u)) Q E s) :
 OpR X f (rI C fun i j=>.int (g i j)):=by
 intro pins s σ H x y v u Q I rx ry h
 obtain ⟨i,j,rfl,rfl,hc,q⟩:=h
 obtain ⟨t,rfl⟩:=rx
 obtain ⟨t',rfl⟩:=ry
 exact rule i j t t' s _ _ hc ⟨.int (g i j),H,I.tok _,⟨_,rfl⟩,q⟩
theorem opI0 {f:Value->Value->Sem Value} {g:Int->Int->Int}
 (rule:∀(i j:Int) (t u:Tok) (s:Shared) (Q:Value->Shared->Prop) (E:Value->Shared->Prop),Q (.int (g i j) s.toks) { s with toks:=s.toks+1 }->wpAny (model X.prog X.w) X.A (f (.int i t) (.int j u)) Q E s) :
 OpR X f (rI0 fun i j=>.int (g i j)):=by
 intro pins s σ H x y v u Q I rx ry h
 obtain ⟨i,j,rfl,rfl,q⟩:=h
 obtain ⟨t,rfl⟩:=rx
 obtain ⟨t',rfl⟩:=ry
 exact rule i j t t' s _ _ ⟨.int (g i j),H,I.tok _,⟨_,rfl⟩,q⟩
theorem opB0 {f:Value->Value->Sem Value} {g:Int->Int->Bool}
 (rule:∀(i j:Int) (t u:Tok) (s:Shared) (Q:Value->Shared->Prop) (E:Value->Shared->Prop),Q (.bool (g i j)) s->wpAny (model X.prog X.w) X.A (f (.int i t) (.int j u)) Q E s) :
 OpR X f (rI0 fun i j=>.bl (g i j)):=by
 intro pins s σ H x y v u Q I rx ry h
 obtain ⟨i,j,rfl,rfl,q⟩:=h
 obtain ⟨t,rfl⟩:=rx
 obtain ⟨t',rfl⟩:=ry
 exact rule i j t t' s _ _ ⟨.bl (g i j),H,I,rfl,q⟩
noncomputable def CPow (i j:Int):Prop:=0<=j/\j<=1000000/\i.natAbs < 2 ^ 64
theorem two_pow_nn (k:Nat):(0:Int)<=2 ^ k:=by
 rw [two_pow_cast]
 exact Int.natCast_nonneg _
theorem op_add:OpR X (binaryOp .Add) (rI0 fun i j=>.int (i+j)):=opI0 fun _ _ _ _ _ _ _ q=>add_int q
theorem op_sub:OpR X (binaryOp .Sub) (rI0 fun i j=>.int (i - j)):=opI0 fun _ _ _ _ _ _ _ q=>sub_int q
theorem op_modN:OpR X (binaryOp .Mod) (rI (fun _ j=>j≠0) fun i j=>.int (i.fmod j)):=opI fun _ _ _ _ _ _ _ hc q=>mod_int' hc q
theorem op_pow:OpR X (binaryOp .Pow) (rI CPow fun i j=>.int (i ^ j.toNat)):=opI fun _ _ _ _ _ _ _ hc q=>pow_int_small hc.1 hc.2.1 hc.2.2 q
theorem op_shl:OpR X (binaryOp .LShift) (rI CPow fun i j=>.int (i*2 ^ j.toNat)):=opI fun _ _ _ _ _ _ _ hc q=>lshift_int_small hc.1 hc.2.1 hc.2.2 q
theorem op_shr:OpR X (binaryOp .RShift) (rI (fun _ j=>0<=j) fun i j=>.int (i / 2 ^ j.toNat)):=opI fun i j _ _ _ _ _ hc q =>
 rshift_int hc (by rw [Int.fdiv_eq_ediv_of_nonneg i (two_pow_nn _)];exact q)
theorem op_and:OpR X (binaryOp .BitAnd) (rI0 fun i j=>.int (Builtin.bitAnd i j)):=opI0 fun _ _ _ _ _ _ _ q=>and_int q
theorem unI {f:Value->Sem Value} {g:Int->Int}
 (rule:∀(i:Int) (t:Tok) (s:Shared) (Q:Value->Shared->Prop) (E:Value->Shared->Prop),Q (.int (g i) s.toks) { s with toks:=s.toks+1 }->wpAny (model X.prog X.w) X.A (f (.int i t)) Q E s) :
 UnR X f (rU fun i=>.int (g i)):=by
 intro pins s σ H x v Q I rx h
 obtain ⟨i,rfl,q⟩:=h
 obtain ⟨t,rfl⟩:=rx
 exact rule i t s _ _ ⟨.int (g i),H,I.tok _,⟨_,rfl⟩,q⟩
theorem un_neg:UnR X (unaryOp .USub) (rU fun i=>.int (-i)):=unI fun _ _ _ _ _ q=>neg_int q
theorem un_inv:UnR X (unaryOp .Invert) (rU fun i=>.int (Builtin.bitNot i)):=unI fun _ _ _ _ _ q=>invert_int q
end
noncomputable def scal:V->V->Bool
 | .non,.non=>true | .non,.int _=>true | .int _,.non=>true | .non,.bl _=>true | .bl _,.non=>true | .non,.str _=>true | .str _,.non=>true
 | .int _,.int _=>true | .bl _,.bl _=>true | .str _,.str _=>true | .byt _,.byt _=>true
 | .int _,.str _=>true | .str _,.int _=>true | .bl _,.str _=>true | .str _,.bl _=>true
 | _,_=>false
noncomputable def rEq:R2:=fun x y H Q=>scal x y=true/\Q (.bl (decide (x=y))) H
noncomputable def rNe:R2:=fun x y H Q=>scal x y=true/\Q (.bl (!decide (x=y))) H
theorem dec_int {i j:Int}:decide (V.int i=V.int j)=(i == j):=by
 rw [Bool.eq_iff_iff]
 simp
theorem dec_bl {i j:Bool}:decide (V.bl i=V.bl j)=(i == j):=by
 rw [Bool.eq_iff_iff]
 simp
theorem dec_str {i j:Str}:decide (V.str i=V.str j)=(i == j):=by
 rw [Bool.eq_iff_iff]
 simp
theorem dec_byt {i j:Array UInt8}:decide (V.byt i=V.byt j)=(i.toList == j.toList):=by
 rw [Bool.eq_iff_iff]
 cases i
 cases j
 simp
section
variable {X:Cx} {a b c:Expr} {ta tb tc:TE} {pos:Pos}
theorem fin_bl {pins:List (Addr × Obj)} {σ:St} {H:Hp} {s:Shared} {Q:VK} {k k':Bool} (I:Inv X pins σ H s) (q:Q (.bl k) H) (e:k=k'):EP X pins σ Q (.bool k') s:=by
 subst e
 exact ⟨.bl k,H,I,rfl,q⟩
theorem op_eq:OpR X (compareOp .Eq) rEq:=by
 intro pins s σ H x y v u Q I rx ry h
 obtain ⟨hs,q⟩:=h
 cases x with
 | non =>
   cases rx
   cases y with
   | non=>cases ry;exact PySem.EqNone.eq_none_none (fin_bl I q (by simp))
   | bl j=>cases ry;exact PySem.EqNone.eq_none_bool (fin_bl I q (by simp))
   | int j=>obtain ⟨t',rfl⟩:=ry;exact PySem.EqNone.eq_none_int (fin_bl I q (by simp))
   | str j=>obtain ⟨t',rfl⟩:=ry;exact PySem.EqNone.eq_none_str (fin_bl I q (by simp))
   | _=>exact absurd (show false=true from hs) Bool.false_ne_true
 | bl i =>
   cases rx
   cases y with
   | non=>cases ry;exact PySem.EqNone.eq_bool_none (fin_bl I q (by simp))
   | bl j=>cases ry;exact eq_bool (fin_bl I q dec_bl)
   | str j=>obtain ⟨t',rfl⟩:=ry;exact PySem.EqMixed.eq_bool_str (fin_bl I q (by simp))
   | _=>exact absurd (show false=true from hs) Bool.false_ne_true
 | int i =>
   obtain ⟨t,rfl⟩:=rx
   cases y with
   | non=>cases ry;exact PySem.EqNone.eq_int_none (fin_bl I q (by simp))
   | int j=>obtain ⟨t',rfl⟩:=ry;exact eq_int (fin_bl I q dec_int)
   | str j=>obtain ⟨t',rfl⟩:=ry;exact PySem.EqMixed.eq_int_str (fin_bl I q (by simp))
   | _=>exact absurd (show false=true from hs) Bool.false_ne_true
 | str i =>
   obtain ⟨t,rfl⟩:=rx
   cases y with
   | non=>cases ry;exact PySem.EqNone.eq_str_none (fin_bl I q (by simp))
   | bl j=>cases ry;exact PySem.EqMixed.eq_str_bool (fin_bl I q (by simp))
   | int j=>obtain ⟨t',rfl⟩:=ry;exact PySem.EqMixed.eq_str_int (fin_bl I q (by simp))
   | str j=>obtain ⟨t',rfl⟩:=ry;exact eq_str (fin_bl I q dec_str)
   | _=>exact absurd (show false=true from hs) Bool.false_ne_true
 | byt i =>
   obtain ⟨t,rfl⟩:=rx
   cases y with
   | byt j=>obtain ⟨t',rfl⟩:=ry;exact PySem.W.eq_bytes (fin_bl I q dec_byt)
   | _=>exact absurd (show false=true from hs) Bool.false_ne_true
 | _=>cases y <;> exact absurd (show false=true from hs) Bool.false_ne_true
theorem op_ne:OpR X (compareOp .NotEq) rNe:=by
 intro pins s σ H x y v u Q I rx ry h
 obtain ⟨hs,q⟩:=h
 cases x with
 | non =>
   cases rx
   cases y with
   | non=>cases ry;exact PySem.EqNone.ne_none_none (fin_bl I q (by simp))
   | bl j=>cases ry;exact PySem.EqNone.ne_none_bool (fin_bl I q (by simp))
   | int j=>obtain ⟨t',rfl⟩:=ry;exact PySem.EqNone.ne_none_int (fin_bl I q (by simp))
   | str j=>obtain ⟨t',rfl⟩:=ry;exact PySem.EqNone.ne_none_str (fin_bl I q (by simp))
   | _=>exact absurd (show false=true from hs) Bool.false_ne_true
 | bl i =>
   cases rx
   cases y with
   | non=>cases ry;exact PySem.EqNone.ne_bool_none (fin_bl I q (by simp))
   | bl j=>cases ry;exact ne_bool (fin_bl I q (congrArg not dec_bl))
   | str j=>obtain ⟨t',rfl⟩:=ry;exact PySem.EqMixed.ne_bool_str (fin_bl I q (by simp))
   | _=>exact absurd (show false=true from hs) Bool.false_ne_true
 | int i =>
   obtain ⟨t,rfl⟩:=rx
   cases y with
   | non=>cases ry;exact PySem.EqNone.ne_int_none (fin_bl I q (by simp))
   | int j=>obtain ⟨t',rfl⟩:=ry;exact ne_int (fin_bl I q (congrArg not dec_int))
   | str j=>obtain ⟨t',rfl⟩:=ry;exact PySem.EqMixed.ne_int_str (fin_bl I q (by simp))
   | _=>exact absurd (show false=true from hs) Bool.false_ne_true
 | str i =>
   obtain ⟨t,rfl⟩:=rx
   cases y with
   | non=>cases ry;exact PySem.EqNone.ne_str_none (fin_bl I q (by simp))
   | bl j=>cases ry;exact PySem.EqMixed.ne_str_bool (fin_bl I q (by simp))
   | int j=>obtain ⟨t',rfl⟩:=ry;exact PySem.EqMixed.ne_str_int (fin_bl I q (by simp))
   | str j=>obtain ⟨t',rfl⟩:=ry;exact ne_str (fin_bl I q (congrArg not dec_str))
   | _=>exact absurd (show false=true from hs) Bool.false_ne_true
 | byt i =>
   obtain ⟨t,rfl⟩:=rx
   cases y with
   | byt j=>obtain ⟨t',rfl⟩:=ry;exact PySem.W.ne_bytes (fin_bl I q (congrArg not dec_byt))
   | _=>exact absurd (show false=true from hs) Bool.false_ne_true
 | _=>cases y <;> exact absurd (show false=true from hs) Bool.false_ne_true
theorem op_lt:OpR X (compareOp .Lt) (rI0 fun i j=>.bl (decide (i < j))):=opB0 fun _ _ _ _ _ _ _ q=>lt_int q
theorem op_gt:OpR X (compareOp .Gt) (rI0 fun i j=>.bl (decide (j < i))):=opB0 fun _ _ _ _ _ _ _ q=>gt_int q
theorem nomark (b:Expr) {op:CmpOp} (h:op≠.In:=by decide) (h2:op≠.NotIn:=by decide):behindInMarks op b=false:=by
 have e1:(op == CmpOp.In)=false:=by cases op <;> first | rfl | exact absurd rfl h
 have e2:(op == CmpOp.NotIn)=false:=by cases op <;> first | rfl | exact absurd rfl h2
 cases b <;> simp [behindInMarks,e1,e2]
theorem pe_cmpR {op:CmpOp} {r:R2} (ho:OpR X (compareOp op) r) (ha:PE X a ta) (hb:PE X b tb) (hm:behindInMarks op b=false):PE X (.Compare a [op] [b] pos) (tOp r ta tb):=by
 intro pins s σ H Q I h
 exact wpAny_Compare1 (binT ha hb I h fun v u s2 x y H2 I2 rx ry q=>ho pins s2 σ H2 x y v u Q I2 rx ry q) hm
noncomputable def tTest (t:TE):TT:=fun σ H Q=>t σ H fun x H'=>∃k,x=.bl k/\Q k H'
theorem pt_cmpR {op:CmpOp} {r:R2} (ho:OpR X (compareOp op) r) (ha:PE X a ta) (hb:PE X b tb) (hm:behindInMarks op b=false):PT X (.Compare a [op] [b] pos) (tTest (tOp r ta tb)):=by
 intro pins s σ H Q I h
 refine wpAny_isTrue_Compare1 (thn (ha pins s σ H _ I h) fun v s1 ⟨x,H1,I1,r1,q1⟩=>thn (hb pins s1 σ H1 _ I1 q1) fun u s2 ⟨y,H2,I2,r2,q2⟩ =>
  thn (ho pins s2 σ H2 x y v u _ I2 r1 r2 q2) fun c s3 ⟨z,H3,I3,r3,k,e,q3⟩=>?_) hm
 subst e
 cases r3
 exact wpAny_truthy_bool ⟨H3,I3,q3⟩
theorem line63:(sizeLine:Nat) < 2 ^ 63:=by rw [sizeLine_eq];decide
theorem vals1 {x:V} {us:List Value} (r:Vals [x] us):∃u,us=[u]/\RelV x u:=by
 cases r with
 | cons r1 r2=>cases r2;exact ⟨_,rfl,r1⟩
theorem vals2 {x y:V} {us:List Value} (r:Vals [x,y] us):∃u w',us=[u,w']/\RelV x u/\RelV y w':=by
 cases r with
 | cons r1 r2 =>
   cases r2 with
   | cons r3 r4=>cases r4;exact ⟨_,_,rfl,r1,r3⟩
theorem call_abs:CallR X (.builtin "abs") (fun xs H Q=>∃i,xs=[.int i]/\Q (.int (if i < 0 then -i else i)) H):=by
 intro pins s σ H xs us Q I r h
 obtain ⟨i,rfl,q⟩:=h
 obtain ⟨u,rfl,t,rfl⟩:=vals1 r
 exact call_abs_int fun u tk=>⟨.int (if i < 0 then -i else i),H,I.tok _,⟨_,rfl⟩,q⟩
theorem call_max2 (hc:X.calm=true):CallR X (.builtin "max") (fun xs H Q=>∃i j,xs=[.int i,.int j]/\Q (.int (if j > i then j else i)) H):=by
 intro pins s σ H xs us Q I r h
 obtain ⟨i,j,rfl,q⟩:=h
 obtain ⟨u,w',rfl,⟨t,rfl⟩,⟨t',rfl⟩⟩:=vals2 r
 refine max_two_ints (I.ok.hd hc) fun h' tk k=>⟨_,H,I.kept k,?_,q⟩
 by_cases hj:j > i
 ·rw [if_pos hj,if_pos hj];exact ⟨_,rfl⟩
 ·rw [if_neg hj,if_neg hj];exact ⟨_,rfl⟩
theorem call_min2 (hc:X.calm=true):CallR X (.builtin "min") (fun xs H Q=>∃i j,xs=[.int i,.int j]/\Q (.int (if j < i then j else i)) H):=by
 intro pins s σ H xs us Q I r h
 obtain ⟨i,j,rfl,q⟩:=h
 obtain ⟨u,w',rfl,⟨t,rfl⟩,⟨t',rfl⟩⟩:=vals2 r
 refine min_two_ints (I.ok.hd hc) fun h' tk k=>⟨_,H,I.kept k,?_,q⟩
 by_cases hj:j < i
 ·rw [if_pos hj,if_pos hj];exact ⟨_,rfl⟩
 ·rw [if_neg hj,if_neg hj];exact ⟨_,rfl⟩
end
end L2
namespace L2
open PySem PySem.Spec PyProof.Rows
structure ObjM (h:Heap) (x dx C:Addr) (mA:Str->Option Value):Prop where
 obj:h.get? x=some (PySem.W.instObj C dx)
 ns:h.Ns1 dx mA
 ne:dx≠x
theorem lookIn_ns {h:Heap} {dx:Addr} {mA:Str->Option Value} (n:h.Ns1 dx mA):∃od,h.get? dx=some od/\∀name,PySem.W.lookIn name od=some (mA name):=by
 obtain ⟨o,es,ep,ho,hd,hk,_,hm⟩:=n
 refine ⟨o,ho,fun name=>?_⟩
 have e:=hm name
 unfold nsFind findBy at e
 rw [<- Array.find?_toList] at e
 unfold PySem.W.lookIn
 rw [hd]
 dsimp only
 split
 ·rename_i y q
  rw [q] at e
  exact congrArg some e
 ·rename_i q
  rw [q] at e
  have a:es.toList.any (·.refKey)=false:=by
   rw [List.any_eq_false]
   intro y hy
   obtain ⟨z,t,hkey⟩:=hk y (Array.mem_toList_iff.mp hy)
   simp [DictEntry.refKey,hkey]
  have a':¬ es.toList.any (·.refKey)=true:=by rw [a];exact Bool.false_ne_true
  rw [if_neg a']
  exact congrArg some e
theorem ObjM.look {h:Heap} {x dx C:Addr} {mA:Str->Option Value} (I:ObjM h x dx C mA):∃od,PySem.W.InstAt h x (PySem.W.instObj C dx) C (some od)/\∀name,PySem.W.lookIn name od=some (mA name) :=
 let ⟨od,ho,hl⟩:=lookIn_ns I.ns
 ⟨od,⟨I.obj,rfl,rfl,ho⟩,hl⟩
section
variable {prog:Program} {w:World} {A:Around} {E:Value->Shared->Prop} {s:Shared} {K:PySem.W.Frag} {x dx C f:Addr} {mA:Str->Option Value} {name:Str} {v:Value}
end
theorem RelO.some_of {v:V} {o:Option Value} (r:RelO (some v) o):∃u,o=some u/\RelV v u:=by
 cases o with
 | none=>exact (show False from r).elim
 | some u=>exact ⟨u,rfl,r⟩
section
variable {P:Program} {w:World} {H H':Hp} {h h':Heap} {a C dx:Addr} {fs fs':List (Str × V)}
theorem ins_get (hok:HOk P w H h) (e:H a=some (.ins C dx fs)):∃mA,ObjM h a dx C mA/\(∀f,RelO (fs.lookup f) (mA f))/\PySem.Within mA (fs.map (·.1))/\fs.length<=1000/\H dx=some (.own a):=by
 obtain ⟨d,z,ne,ob,mA,n,r,q⟩:=(show ObjOk P w H h a (.ins C dx fs) from hok a _ e)
 exact ⟨mA,⟨ob,n,ne⟩,r,q,z,d⟩
end
structure Cls (K:PySem.W.Frag) (C:Addr):Prop where
 pg:PySem.W.plainGet K C Str.empty=true
 hd:PySem.W.hasDictIn K C=true
 po:PySem.W.plainOver K C=true
 sa:PySem.W.findIn K (.ref C) "__setattr__"=some (some (.builtin "object.__setattr__"))
theorem Cls.get {K:PySem.W.Frag} {C:Addr} (c:Cls K C) (f:Str):PySem.W.plainGet K C f=true:=c.pg
section
variable {X:Cx} {pins:List (Addr × Obj)} {σ:St} {H:Hp} {s:Shared} {a C dx:Addr} {fs:List (Str × V)} {f:Str} {v:V} {A:Around} {E:Value->Shared->Prop}
end
section
variable {X:Cx} {o e value:Expr} {f:Str} {pos pos' tpos:Pos} {ta tv:TE}
end
section
variable {X:Cx} {pins:List (Addr × Obj)} {σ:St} {H:Hp} {s:Shared} {A:Around} {E:Value->Shared->Prop} {Q:Value->Shared->Prop} {c:Value} {b:Bool}
inductive TyOf (K:PySem.W.Frag) (H:Hp):V->Value->Prop where
 | non:TyOf K H .non (.type "NoneType")
 | bl (x:Bool):TyOf K H (.bl x) (.type "bool")
 | int (i:Int):TyOf K H (.int i) (.type "int")
 | str (x:Str):TyOf K H (.str x) (.type "str")
 | flt (x:UInt64):TyOf K H (.flt x) (.type "float")
 | lst {a:Addr} {xs:List V} (e:H a=some (.lst xs)):TyOf K H (.ref a) (.type "list")
 | frz {a:Addr} {o:Obj} {xs:List V} (e:H a=some (.frz o (.lst xs))):TyOf K H (.ref a) (.type "list")
 | tup {a:Addr} {xs:List V} (e:H a=some (.tup xs)):TyOf K H (.ref a) (.type "tuple")
 | dK {a:Addr} {kvs:List (Key × V)} (e:H a=some (.dK kvs)):TyOf K H (.ref a) (.type "dict")
 | dT {a:Addr} {kvs:List (List Key × V)} (e:H a=some (.dT kvs)):TyOf K H (.ref a) (.type "dict")
 | ins {a C dx:Addr} {fs:List (Str × V)} (e:H a=some (.ins C dx fs)) (cl:Cls K C) (ha:PySem.W.findIn K (.ref C) "__class__"=some (some (.builtin "object.__class__")))
  (hn:PySem.W.specialIn K (.builtin "object.__class__") "__get__"=some (some (.builtin "getset_descriptor.__get__"))) (htk:PySem.W.takesIn K (.builtin "object.__class__")=some true)
  (hm:PySem.W.mroIn K C (.type "object")=some true):TyOf K H (.ref a) (.ref C)
theorem isinst_ok {x:V} {u t:Value} (I:Inv X pins σ H s) (rx:RelV x u) (ty:TyOf X.K H x t) (e:PySem.W.kitOne X.K t c=some b) (h:∀tk,Q (.bool b) { s with toks:=tk }) :
 wpAny (model X.prog X.w) A (call (.builtin "isinstance") [u,c]) Q E s:=by
 cases ty with
 | non=>cases (show u=Value.none from rx);exact PySem.W.kia_one PySem.W.kitx_none I.kIn True.intro e (fun z=>by cases z) h
 | bl y=>cases (show u=Value.bool y from rx);exact PySem.W.kia_one PySem.W.kitx_bool I.kIn True.intro e (fun z=>by cases z) h
 | int i=>obtain ⟨t,q⟩:=(show ∃t,u=Value.int i t from rx);cases q;exact PySem.W.kia_one PySem.W.kitx_int I.kIn True.intro e (fun z=>by cases z) h
 | str y=>obtain ⟨t,q⟩:=(show ∃t,u=Value.str y t from rx);cases q;exact PySem.W.kia_one PySem.W.kitx_str I.kIn True.intro e (fun z=>by cases z) h
 | flt y=>obtain ⟨t,q⟩:=(show ∃t,u=Value.float y t from rx);cases q;exact PySem.W.kia_one PySem.W.kitx_float I.kIn True.intro e (fun z=>by cases z) h
 | @lst a xs ea =>
   cases (show u=Value.ref a from rx)
   obtain ⟨_,_,n,_,h1⟩:=(show ObjOk X.prog X.w H s.heap a (.lst xs) from I.hok a _ ea)
   exact PySem.W.kia_one PySem.W.kitx_list I.kIn ⟨_,h1,rfl⟩ e (fun z=>by cases z) h
 | @frz a ob xs ea =>
   cases (show u=Value.ref a from rx)
   obtain ⟨_,_,_,n,_,h1⟩:=(show ObjOk X.prog X.w H s.heap a (.frz ob (.lst xs)) from I.hok a _ ea)
   exact PySem.W.kia_one PySem.W.kitx_list I.kIn ⟨_,h1,rfl⟩ e (fun z=>by cases z) h
 | @tup a xs ea =>
   cases (show u=Value.ref a from rx)
   obtain ⟨_,_,_,p⟩:=(show ObjOk X.prog X.w H s.heap a (.tup xs) from I.hok a _ ea)
   obtain ⟨o,h1,h2,_⟩:=p
   exact PySem.W.kia_one PySem.W.kitx_tuple I.kIn ⟨o,h1,h2⟩ e (fun z=>by cases z) h
 | @dK a kvs ea =>
   cases (show u=Value.ref a from rx)
   obtain ⟨_,_,vs,_,p⟩:=(show ObjOk X.prog X.w H s.heap a (.dK kvs) from I.hok a _ ea)
   obtain ⟨o,es,ep,h1,h2,_⟩:=p
   exact PySem.W.kia_one PySem.W.kitx_dict I.kIn ⟨o,h1,h2.1⟩ e (fun z=>by cases z) h
 | @dT a kvs ea =>
   cases (show u=Value.ref a from rx)
   obtain ⟨_,_,xs,_,o,es,ep,h1,h2,_⟩:=(show ObjOk X.prog X.w H s.heap a (.dT kvs) from I.hok a _ ea)
   exact PySem.W.kia_one PySem.W.kitx_dict I.kIn ⟨o,h1,h2.1⟩ e (fun z=>by cases z) h
 | @ins a C dx fs ea cl ha hn htk hm =>
   cases (show u=Value.ref a from rx)
   obtain ⟨mA,O,_⟩:=ins_get I.hok ea
   obtain ⟨od,J,_⟩:=O.look
   exact PySem.W.kia_one (PySem.W.kitx_own (cl.get _) cl.hd ha hn htk hm) I.kIn J e (fun z=>by cases z) h
end
end L2
namespace L2
open PySem PySem.Spec PyProof.Rows
structure Room (k:Nat) (A:Around):Prop where
 hd:A.handled=none
 dp:A.depth+3*k+5 < recursionLimit
 un:A.units+16*k+200 < cLine
theorem Room.mono {j k:Nat} {A:Around} (r:Room k A) (h:j<=k):Room j A:=⟨r.hd,by have:=r.dp;omega,by have:=r.un;omega⟩
theorem Room.deeper {k:Nat} {A:Around} (r:Room (k+1) A) (env:Env):Room k (A.deeper env) :=
 ⟨r.hd,by have:=r.dp;show A.depth+1+3*k+5 < _;omega,by have:=r.un;show A.units+3+16*k+200 < _;omega⟩
theorem Room.depth {k:Nat} {A:Around} (r:Room k A):A.depth < recursionLimit:=by have:=r.dp;omega
theorem Room.units {k:Nat} {A:Around} (r:Room k A):A.units+64 < cLine:=by have:=r.un;omega
noncomputable def tNil:TA:=fun _ H Q=>Q [] H
noncomputable def tCons (ta:TE) (tr:TA):TA:=fun σ H Q=>ta σ H fun x H1=>tr σ H1 fun xs H2=>Q (x :: xs) H2
section
variable {X:Cx} {e:Expr} {es:List Expr} {te:TE} {t:TA} {pos:Pos}
theorem pa_nil:PA X [] tNil:=fun _ _ _ _ H Q I h=>Calls.spliced_nil ⟨[],H,I,.nil,h⟩
theorem pa_cons (ha:PE X e te) (hr:PA X es t) (hs:starEach (e :: es) X.env=(false,eval e X.env) :: starEach es X.env:=by rfl):PA X (e :: es) (tCons te t):=by
 intro pos pins s σ H Q I h
 rw [hs]
 show wpAny _ _ (spliced ((false,eval e X.env) :: backTo pos (starEach es X.env))) _ _ s
 refine Calls.spliced_cons (thn (ha pins s σ H _ I h) fun u s1 ⟨x,H1,I1,r1,q1⟩=>?_)
 exact thn (hr pos pins s1 σ H1 _ I1 q1) fun us s2 ⟨xs,H2,I2,r2,q2⟩=>⟨x :: xs,H2,I2,.cons r1 r2,q2⟩
noncomputable def tTup (t:TA):TE:=fun σ H Q=>t σ H fun xs H1=>xs.length<=sizeLine/\∀p,H1 p=none->Q (.ref p) (upd H1 p (.tup xs))
noncomputable def tLst (t:TA):TE:=fun σ H Q=>t σ H fun xs H1=>xs.length<=sizeLine/\∀p,H1 p=none->Q (.ref p) (upd H1 p (.lst xs))
theorem pe_tup {x1} (h:PA X es t):PE X (.Tuple es x1 pos) (tTup t):=by
 intro pins s σ H Q I hq
 refine wpAny_Tuple_spliced (thn (h pos pins s σ H _ I hq) fun us s1 ⟨xs,H1,I1,r,z,q⟩=>⟨by rw [<- r.length];exact z,?_⟩)
 have hf:H1 s1.heap.objs.size=none:=I1.hok.fresh (Nat.le_refl _)
 refine ⟨.ref s1.heap.objs.size,upd H1 s1.heap.objs.size (.tup xs),I1.laid (t':=s1.toks) (fun b u e=>Heap.get?_push_of_some _ e) (Nat.le_refl _) ?_,rfl,q _ hf⟩
 exact ⟨z,us,r,⟨_,Heap.get?_push_size _ rfl,rfl,_,rfl⟩⟩
theorem pe_lst (h:PA X es t):PE X (.List es pos) (tLst t):=by
 intro pins s σ H Q I hq
 refine wpAny_List_spliced (thn (h pos pins s σ H _ I hq) fun us s1 ⟨xs,H1,I1,r,z,q⟩=>⟨by rw [<- r.length];exact z,?_⟩)
 have hf:H1 s1.heap.objs.size=none:=I1.hok.fresh (Nat.le_refl _)
 refine ⟨.ref s1.heap.objs.size,upd H1 s1.heap.objs.size (.lst xs),I1.laid (t':=s1.toks) (fun b u e=>Heap.get?_push_of_some _ e) (Nat.le_refl _) ?_,rfl,q _ hf⟩
 exact ⟨z,us,0,r,Heap.get?_push_size _ rfl⟩
end
abbrev Sp:=List V->Hp->VK->XK->Prop
abbrev CXT:=List Env->Hp->Shared->XK->Value->Shared->Prop
structure Env0 (P:Program) (w:World) (K:PySem.W.Frag) (mg:Str->Option Value) (base:Heap) (A:Around) (outer:List Env) (s:Shared) (H:Hp):Prop where
 frames:A.frames=some outer
 mod:Mod K mg base
 bs:∀b o,base.get? b=some o->s.heap.get? b=some o/\H b=none
 bsz:base.objs.size<=s.heap.objs.size
 funs:s.heap.FunFrames base outer
 frf:∀b∈frs outer,H b=none
 hok:HOk P w H s.heap
 bare:AllBare s.gens
noncomputable def CE (outer:List Env) (P:Program) (w:World) (H:Hp) (s:Shared) (Q:VK) (u:Value) (s':Shared):Prop :=
 ∃v H',s'.os=s.os/\AllBare s'.gens/\Un (frs outer) [] H H' s.heap s'.heap/\HOk P w H' s'.heap/\RelV v u/\Q v H'
noncomputable def CR (CX:CXT) (outer:List Env) (P:Program) (w:World) (H:Hp) (s:Shared) (Q:VK) (E:XK) (r:Result) (s':Shared):Prop :=
 match r with
 | .ok (.ret u)=>CE outer P w H s Q u s'
 | .ok _=>False
 | .error e=>CX outer H s E e s'
structure FnOk (P:Program) (w:World) (K:PySem.W.Frag) (mg:Str->Option Value) (base:Heap) (CX:CXT) (k:Nat) (f:Addr) (fd:FuncData) (ps:List Str) (sp:Sp):Prop where
 len:∀vs H Q E,sp vs H Q E->vs.length=ps.length
 run:∀(A:Around) (outer:List Env) (s:Shared) (H:Hp) (args:Args) (us:List Value) (vs:List V) (Q:VK) (E:XK),Room k A->Env0 P w K mg base A outer s H->BindsTo s fd args (ps.zip us)->Vals vs us->sp vs H Q E ->
  codeAny (model P w) A (.call (.ref f) args) (CR CX outer P w H s Q E) s
section
variable {X:Cx} {pins:List (Addr × Obj)} {σ:St} {H:Hp} {s s':Shared}
theorem Inv.env0 (I:Inv X pins σ H s):Env0 X.prog X.w X.K X.mg X.base X.A X.stack s H :=
 ⟨I.ok.frames,I.ok.mod,I.bs,Nat.le_trans I.ok.bsz I.sz,I.stack,I.stkFree,I.hok,I.bare⟩
theorem Inv.after {Q:VK} {u:Value} (I:Inv X pins σ H s) (h:CE X.stack X.prog X.w H s Q u s'):EP X pins σ Q u s':=by
 obtain ⟨v,H',os,bare,un,hok,r,q⟩:=h
 obtain ⟨hh,g,d,t,os'⟩:=s'
 obtain rfl:os'=s.os:=os
 exact ⟨v,H',I.call (h':=hh) (g':=g) (d':=d) (t':=t) (ch:=[]) un hok bare (fun b z=>absurd z (by simp)),r,q⟩
end
noncomputable def tCall (sp:Sp) (dvs:List V) (E:XK) (t:TA):TE:=fun σ H Q=>t σ H fun vs H1=>sp (vs++dvs) H1 Q E
noncomputable def Binds (K:PySem.W.Frag) (fd:FuncData) (ps:List Str) (ds:List Value):Prop :=
 ∀(s:Shared) (us:List Value),K.In s.heap->(us++ds).length=ps.length->BindsTo s fd ⟨us,[]⟩ (ps.zip (us++ds))
theorem Binds.all {K:PySem.W.Frag} {fd:FuncData} {ps:List Str} (h:∀us:List Value,us.length=ps.length->bindArgs fd ⟨us,[]⟩=pure (ps.zip us)):Binds K fd ps []:=fun s us _ hl=>by
 rw [List.append_nil] at hl ⊢
 exact .of_eq (h us hl)
noncomputable def Passes (CX:CXT) (X:Cx) (E:XK):Prop:=∀(pins:List (Addr × Obj)) (σ:St) (H:Hp) (s:Shared) (e:Value) (s':Shared),Inv X pins σ H s->CX X.stack H s E e s'->X.xe e s'
section
variable {X:Cx} {CX:CXT} {k:Nat} {f C:Addr} {fd:FuncData} {ps:List Str} {sp:Sp} {dvs:List V} {ds:List Value} {E:XK} {x m:Str} {p pos apos:Pos} {e o:Expr} {es:List Expr} {ta:TE} {t:TA}
theorem run_fn {pins:List (Addr × Obj)} {σ:St} {H:Hp} {s:Shared} {Q:VK} {us:List Value} {vs:List V} (F:FnOk X.prog X.w X.K X.mg X.base CX k f fd ps sp) (hr:Room k X.A) (hb:Binds X.K fd ps ds) (hd:Vals dvs ds) (hx:Passes CX X E)
 (I:Inv X pins σ H s) (r:Vals vs us) (h:sp (vs++dvs) H Q E):wpAny (model X.prog X.w) X.A (call (.ref f) us) (EP X pins σ Q) X.xe s:=by
 have r2:Vals (vs++dvs) (us++ds):=r.append hd
 have hl:(us++ds).length=ps.length:=by rw [<- r2.length];exact F.len _ _ _ _ h
 refine wpAny_call (codeAny_mono (F.run X.A X.stack s H ⟨us,[]⟩ (us++ds) (vs++dvs) Q E hr I.env0 (hb s us I.kIn hl) r2 h) fun r s' hq=>?_)
 cases r with
 | error e=>exact hx pins σ H s e s' I hq
 | ok fl =>
   cases fl with
   | ret u=>exact I.after hq
   | next=>exact False.elim hq
   | brk=>exact False.elim hq
   | cont=>exact False.elim hq
theorem pe_call (F:FnOk X.prog X.w X.K X.mg X.base CX k f fd ps sp) (hr:Room k X.A) (hg:Gl X x) (hm:X.mg x=some (.ref f)) (hk:PySem.W.keepIn X.K (.ref f)=true) (hb:Binds X.K fd ps ds) (hd:Vals dvs ds) (hx:Passes CX X E)
 (ha:PA X (e :: es) t) (hdb:(x == ("__debug__":Str))=false:=by decide) (he:starEach (e :: es) X.env=(false,eval e X.env) :: starEach es X.env:=by rfl) (hpl:(backTo pos (starEach es X.env)).any (·.1)=false:=by rfl) :
 PE X (.Call (.Name x p) (e :: es) [] pos) (tCall sp dvs E t):=by
 intro pins s σ H Q I h
 refine wpAny_Call_Name_kw (ld_glob I hg hm ?_ hdb)
 refine PySem.W.callWith_K (h₀:=X.base) I.ok.mod.kin hk (thn (ha pos pins s σ H _ I h) fun us s1 ⟨vs,H1,I1,r,q⟩=>⟨I1.kIn,?_⟩) he hpl
 exact run_fn F hr hb hd hx I1 r q
end
section
variable {X:Cx} {CX:CXT} {k:Nat} {f C:Addr} {fd:FuncData} {ps ks:List Str} {sp:Sp} {E:XK} {x m:Str} {p pos apos kpos:Pos} {e o:Expr} {es:List Expr} {kws:List Keyword} {te ta:TE} {t tk:TA} {nm:Option Str}
variable {g:List Value->List Value->List Value} {gV:List V->List V->List V}
end
structure FnScope (N P:List Str) (sc:Scope):Prop where
 kind:sc.kind=.function
 co:sc.isCoroutine=false
 gen:sc.isGenerator=false
 nd:N.Nodup
 pre:N.take P.length=P
 par:∀x∈P,sc.names.lookup x=some .local\/sc.names.lookup x=some .cell
 nofree:∀y∈sc.names,y.2≠.free
theorem bindL_out {kindOf:Str->Option NameKind} {x:Str}:∀{binds:List (Str × Value)} {m:Str->Option Value},(∀v,(x,v) ∉ binds)->bindL kindOf binds m x=m x
 | [],_,_=>rfl
 | (n,v) :: r,m,h=>by
   unfold bindL
   rw [bindL_out fun w hw=>h w (List.mem_cons_of_mem _ hw)]
   split
   ·have:x≠n:=by rintro rfl;exact h v List.mem_cons_self
    simp [this]
   ·rfl
theorem bindC_out {kindOf:Str->Option NameKind} {x:Str}:∀{binds:List (Str × Value)} {m:Str->Option Value},(∀v,(x,v) ∉ binds)->bindC kindOf binds m x=m x
 | [],_,_=>rfl
 | (n,v) :: r,m,h=>by
   unfold bindC
   rw [bindC_out fun w hw=>h w (List.mem_cons_of_mem _ hw)]
   split
   ·rfl
   ·have:x≠n:=by rintro rfl;exact h v List.mem_cons_self
    simp [this]
theorem bindL_get {kindOf:Str->Option NameKind} {x:Str} {v:Value}:∀{P:List Str} {vs:List Value} {i:Nat} {m:Str->Option Value},P.Nodup->P[i]?=some x->vs[i]?=some v->kindOf x=some .local ->
 bindL kindOf (P.zip vs) m x=some v
 | [],_,_,_,_,h,_,_=>by simp at h
 | _ :: _,[],_,_,_,_,h,_=>by simp at h
 | p :: P,w :: vs,0,m,nd,h1,h2,hk=>by
   simp at h1 h2;subst h1;subst h2
   show bindL kindOf ((p,w) :: P.zip vs) m p=_
   unfold bindL
   rw [bindL_out fun v hv=>(List.nodup_cons.mp nd).1 (List.of_mem_zip hv).1,if_pos hk]
   simp
 | p :: P,w :: vs,i+1,m,nd,h1,h2,hk=>by
   show bindL kindOf ((p,w) :: P.zip vs) m x=_
   unfold bindL
   exact bindL_get (i:=i) (List.nodup_cons.mp nd).2 (by simpa using h1) (by simpa using h2) hk
theorem bindC_get {kindOf:Str->Option NameKind} {x:Str} {v:Value}:∀{P:List Str} {vs:List Value} {i:Nat} {m:Str->Option Value},P.Nodup->P[i]?=some x->vs[i]?=some v->kindOf x≠some .local ->
 bindC kindOf (P.zip vs) m x=some v
 | [],_,_,_,_,h,_,_=>by simp at h
 | _ :: _,[],_,_,_,_,h,_=>by simp at h
 | p :: P,w :: vs,0,m,nd,h1,h2,hk=>by
   simp at h1 h2;subst h1;subst h2
   show bindC kindOf ((p,w) :: P.zip vs) m p=_
   unfold bindC
   rw [bindC_out fun v hv=>(List.nodup_cons.mp nd).1 (List.of_mem_zip hv).1,if_neg hk]
   simp
 | p :: P,w :: vs,i+1,m,nd,h1,h2,hk=>by
   show bindC kindOf ((p,w) :: P.zip vs) m x=_
   unfold bindC
   exact bindC_get (i:=i) (List.nodup_cons.mp nd).2 (by simpa using h1) (by simpa using h2) hk
noncomputable def start (N:List Str) (vs:List V):St:=vs.map some++List.replicate (N.length - vs.length) none
noncomputable def cxOf (CX:CXT) (P:Program) (w:World) (K:PySem.W.Frag) (mg:Str->Option Value) (base:Heap) (N:List Str) (qual:Str) (scope:Scope) (f:Addr) (cd:Value) (A:Around) (outer:List Env) (s:Shared) (H:Hp) (E:XK):Cx where
 prog:=P
 w:=w
 K:=K
 mg:=mg
 base:=base
 A:=A.deeper (envOfC qual scope s.heap.objs.size f cd)
 N:=N
 s₀:=s
 H₀:=H
 env:=envOfC qual scope s.heap.objs.size f cd
 outer:=outer
 stack:=envOfC qual scope s.heap.objs.size f cd :: outer
 ex:=[]
 calm:=true
 fn:=fun _=>true
 pn:=[]
 xe:=fun e s'=>wpAny (model P w) (A.deeper (envOfC qual scope s.heap.objs.size f cd)) (leaving (envOfC qual scope s.heap.objs.size f cd) e) (fun _ s''=>CX outer H s E e s'') (fun e' s''=>CX outer H s E e' s'') s'
theorem cell_has {sc:Scope} {n:Nat} {x:Str} (h:sc.names.lookup x=some .cell):∃c,(cellsFrom n sc.names []).lookup x=some c:=by
 have q:=PySem.W.cellsFrom_some sc.names n [] (.inl h)
 exact Option.isSome_iff_exists.mp q
theorem inv_start {CX:CXT} {P:Program} {w:World} {K:PySem.W.Frag} {mg:Str->Option Value} {base:Heap} {N ps:List Str} {qual:Str} {scope:Scope} {f:Addr} {cd:Value} {A:Around} {outer:List Env} {s s1:Shared} {H:Hp} {E:XK} {us:List Value} {vs:List V}
 (S:FnScope N ps scope) (hd:A.handled=none) (e0:Env0 P w K mg base A outer s H) (hl:vs.length=ps.length) (r:Vals vs us)
 (x:InCallC s s.heap.objs.size (bindL (envOfC qual scope s.heap.objs.size f cd).kindOf (ps.zip us) fun _=>none) (cellsFrom (s.heap.objs.size+1) scope.names []) (bindC (envOfC qual scope s.heap.objs.size f cd).kindOf (ps.zip us) fun _=>none) s1) :
 Inv (cxOf CX P w K mg base N qual scope f cd A outer s H E) [] (start N vs) H s1:=by
 have hpl:ps.length<=N.length:=by have:=congrArg List.length S.pre;rw [List.length_take] at this;omega
 obtain ⟨h1,tk,rfl,hk⟩:=x.done
 have noA:∀b:Addr,b ∉ (cxOf CX P w K mg base N qual scope f cd A outer s H E).ex:=fun b z=>absurd (show b∈([]:List Addr) from z) (by simp)
 refine ⟨⟨e0.mod,S.kind,rfl,rfl,Nat.le_refl _,fun y z c h1 h2=>?_,fun y hy=>?_,fun y c _ h=>?_,fun _=>hd,Around.frames_deeper e0.frames,.inr ⟨rfl,rfl⟩,fun b z=>absurd z (noA b),e0.bs,e0.bsz,fun b _ _=>noA b,fun b z=>absurd z (noA b),e0.funs,e0.frf⟩,
  rfl,e0.bare,Un.kept hk,⟨_,x.toInCall.ns,fun i y v h1 h2 h3=>?_⟩,fun y c h=>⟨_,x.cell y c h⟩,e0.hok.fresh (Nat.le_refl _),fun y c h=>?_,fun p hp=>absurd (show p∈([]:List (Addr × Obj)) from hp) (by simp),e0.hok.kept hk,?_⟩
 ·exact name_of_addr x.apart (PySem.mem_of_lookup h1) (PySem.mem_of_lookup h2)
 ·have hy:scope.names.lookup y=some .cell\/scope.names.lookup y=some .free:=hy
  rcases hy with hy | hy
  ·exact cell_has hy
  ·exact absurd rfl (S.nofree _ (PySem.mem_of_lookup hy))
 ·exact Nat.le_of_lt (x.above y c (PySem.mem_of_lookup h))
 ·have hi:i < vs.length:=by
   unfold start at h2
   by_cases hi:i < vs.length
   ·exact hi
   ·rw [List.getElem?_append_right (by simpa using hi)] at h2
    rw [List.getElem?_replicate] at h2
    split at h2 <;> cases h2
  have ha:vs[i]?=some v:=by
   unfold start at h2
   rw [List.getElem?_append_left (by simpa using hi),List.getElem?_map] at h2
   cases e:vs[i]? with
   | none=>rw [e] at h2;cases h2
   | some a=>rw [e] at h2;cases h2;rfl
  obtain ⟨u,hu,rv⟩:=r.get ha
  have hp:ps[i]?=some y:=by
   rw [<- S.pre,List.getElem?_take_of_lt (by omega)];exact h1
  have ndP:ps.Nodup:=by rw [<- S.pre];exact S.nd.sublist (List.take_sublist _ _)
  refine ⟨u,rv,?_⟩
  rcases S.par y (List.mem_of_getElem? hp) with k | k
  ·exact .inl ⟨k,bindL_get ndP hp hu k⟩
  ·obtain ⟨c,e⟩:=cell_has (n:=s.heap.objs.size+1) k
   refine .inr ⟨.inl k,c,e,?_⟩
   have q:=x.cell y c e
   rw [bindC_get ndP hp hu (by show scope.names.lookup y≠_;rw [k];decide)] at q
   exact q
 ·exact e0.hok.fresh (Nat.le_of_lt (x.above y c (PySem.mem_of_lookup h)))
 ·unfold start
  show _=N.length
  rw [List.length_append,List.length_map,List.length_replicate]
  omega
theorem fn_of {CX:CXT} {P:Program} {w:World} {K:PySem.W.Frag} {mg:Str->Option Value} {base:Heap} {k:Nat} {f:Addr} {name qual:Str} {params:Arguments} {body:List Stmt} {scope:Scope} {dV kV doc pm cdv ct oc:Value} {an od:Option Addr}
 {osl:Array (Option Value)} {N ps:List Str} {sp:Sp} (lk:K.lookup f=some ⟨oc,od,.func (PySem.W.fnOf name qual params body scope dV kV doc pm an cdv ct),osl⟩) (hcd:PySem.W.codeIn K cdv qual=true) (S:FnScope N ps scope)
 (len:∀vs H Q E,sp vs H Q E->vs.length=ps.length)
 (hbody:∀(A:Around) (outer:List Env) (s:Shared) (H:Hp) (vs:List V) (Q:VK) (E:XK),Room k (A.deeper (envOfC qual scope s.heap.objs.size f cdv))->sp vs H Q E ->
  ∃t,PSs (cxOf CX P w K mg base N qual scope f cdv A outer s H E) body t/\t { nx:=fun _ H'=>Q .non H',rt:=Q } (start N vs) H) :
 FnOk P w K mg base CX (k+1) f (PySem.W.fnOf name qual params body scope dV kV doc pm an cdv ct) ps sp:=by
 refine ⟨len,fun A outer s H args us vs Q E hr e0 hb r hsp=>?_⟩
 have hl:=len _ _ _ _ hsp
 have KX:K.In s.heap:=e0.mod.kin.keeps fun b o e=>(e0.bs b o e).1
 have lim:s.heap.NoLimit:=e0.mod.nolimit.keeps fun b o e=>(e0.bs b o e).1
 have hkind:∀y∈ps.zip us,scope.names.lookup y.1=some .local\/(scope.names.lookup y.1=some .cell/\((cellsFrom (s.heap.objs.size+1) scope.names []).lookup y.1).isSome=true):=fun ⟨n,v⟩ hy=>by
  rcases S.par n (List.of_mem_zip hy).1 with q | q
  ·exact .inl q
  ·exact .inr ⟨q,PySem.W.cellsFrom_some _ _ _ (.inl q)⟩
 refine codeAny_call_function hr.depth (KX _ _ lk) rfl S.co S.gen rfl (PySem.W.codeRec_of KX hcd) (hb _ _ _ _ ?_)
 refine wpAny_newFunctionEnv_cells S.kind hkind fun env he s1 x=>?_
 subst he
 refine ⟨lim.keeps x.toInCall.keep,codeAny_func ?_⟩
 obtain ⟨t,ht,hq⟩:=hbody A outer s H vs Q E (hr.deeper _) hsp
 have I:Inv (cxOf CX P w K mg base N qual scope f cdv A outer s H E) [] (start N vs) H s1:=inv_start S hr.hd e0 hl r x
 refine wpAny_mono (ht [] s1 (start N vs) H _ I hq) (fun fl s' hs=>?_) fun e s' hs=>hs
 have fin:∀{σ':St} {H':Hp} {v:V} {u:Value},Inv (cxOf CX P w K mg base N qual scope f cdv A outer s H E) [] σ' H' s'->RelV v u->Q v H'->CE outer P w H s Q u s' :=
  fun {σ' H' v u} J rv q=>⟨v,H',J.os,J.bare,J.base,J.hok,rv,q⟩
 cases fl with
 | ret u =>
   obtain ⟨v,σ',H',J,rv,q⟩:=hs
   exact fin J rv q
 | next =>
   obtain ⟨σ',H',J,q⟩:=hs
   exact fin (v:=V.non) (u:=Value.none) J rfl q
 | brk =>
   obtain ⟨_,_,_,q⟩:=hs
   exact False.elim q
 | cont =>
   obtain ⟨_,_,_,q⟩:=hs
   exact False.elim q
end L2
namespace L2
open PySem PySem.Spec PyProof.Rows
section
variable {X:Cx} {x:Str} {p pos:Pos} {e:Expr} {es:List Expr} {t:TA} {id T:String} {r:List V->Hp->VK->Prop}
noncomputable def tCB (r:List V->Hp->VK->Prop) (t:TA):TE:=fun σ H Q=>t σ H fun vs H1=>r vs H1 Q
theorem pe_callB (hc:CallR X (.builtin id) r) (hg:Gl X x) (hm:X.mg x=none) (hv:bootBuiltins x=some (.builtin id)) (ha:PA X (e :: es) t) (hn:x≠"__name__":=by decide) (hdb:(x == ("__debug__":Str))=false:=by decide)
 (he:starEach (e :: es) X.env=(false,eval e X.env) :: starEach es X.env:=by rfl) (hpl:(backTo pos (starEach es X.env)).any (·.1)=false:=by rfl):PE X (.Call (.Name x p) (e :: es) [] pos) (tCB r t):=by
 intro pins s σ H Q I h
 refine wpAny_Call_Name_kw (ld_blt I hg hm hv ?_ hn hdb)
 exact PyProof.Rows.callWith_builtin1 (thn (ha pos pins s σ H _ I h) fun us s1 ⟨vs,H1,I1,r1,q1⟩=>hc pins s1 σ H1 vs us Q I1 r1 q1) he hpl
theorem pe_callTy (hc:CallR X (.type T) r) (hg:Gl X x) (hm:X.mg x=none) (hv:bootBuiltins x=some (.type T)) (ha:PA X (e :: es) t) (hn:x≠"__name__":=by decide) (hdb:(x == ("__debug__":Str))=false:=by decide)
 (he:starEach (e :: es) X.env=(false,eval e X.env) :: starEach es X.env:=by rfl) (hpl:(backTo pos (starEach es X.env)).any (·.1)=false:=by rfl):PE X (.Call (.Name x p) (e :: es) [] pos) (tCB r t):=by
 intro pins s σ H Q I h
 refine wpAny_Call_Name_kw (ld_blt I hg hm hv ?_ hn hdb)
 exact PyProof.Rows.callWith_type1 (thn (ha pos pins s σ H _ I h) fun us s1 ⟨vs,H1,I1,r1,q1⟩=>hc pins s1 σ H1 vs us Q I1 r1 q1) he hpl
end
end L2
namespace HT
open PySem PyProof.Rows
noncomputable def lexLt:List Int->List Int->Bool
 | [],[]=>false
 | [],_ :: _=>true
 | _ :: _,[]=>false
 | x :: xs,y :: ys=>if x=y then lexLt xs ys else decide (x < y)
theorem lexLt_cons (x y:Int) (xs ys:List Int):lexLt (x :: xs) (y :: ys)=if x=y then lexLt xs ys else decide (x < y):=rfl
theorem lexLt_nil_nil:lexLt [] []=false:=rfl
theorem lexLt_nil_cons (y:Int) (ys:List Int):lexLt [] (y :: ys)=true:=rfl
theorem lexLt_cons_nil (x:Int) (xs:List Int):lexLt (x :: xs) []=false:=rfl
theorem eqAt_int (A:Around) (s:Shared) (a:Int) (t:Tok) (c:Int) (u:Tok):∃e,SeqAt.EqAt A s (.int a t) (.int c u) e/\(e=true↔a=c) :=
 ⟨(a == c),SeqAt.EqAt.int_int a t c u,by simp⟩
theorem rcLt_int (A:Around) (s:Shared) (a:Int) (t:Tok) (c:Int) (u:Tok) (prog:Program) (w:World) (E:Value->Shared->Prop) (Q:Value->Shared->Prop) (h:Q (.bool (decide (a < c))) s) :
 wpAny (model prog w) A (richCompare .Lt (.int a t) (.int c u)) Q E s :=
 (PyProof.Rows.lt_int h:wpAny (model prog w) A (compareOp .Lt (.int a t) (.int c u)) Q E s)
section
open PySem.SeqAt
open PySem.AutoSeq1 (wpAny_loadPart')
open PySem.MeetsSeq PySem.MeetsSeq2 PySem.MeetsSeq3
theorem tuple_lt_ints (l b:Addr) (items items2:Array Value) (n n2:Nat) (dd dd2:Option Addr) (sl sl2:Array (Option Value)) (ns ms:List Int) (hi:IntsAre items.toList ns) (hj:IntsAre items2.toList ms) :
 Meets (Builtin.«tuple.__lt__» ⟨[.ref l,.ref b],[]⟩)
  (fun _ R s=>s.heap.get? l=some { cls:=.type "tuple",dict:=dd,data:=.seq items n,slots:=sl }/\s.heap.get? b=some { cls:=.type "tuple",dict:=dd2,data:=.seq items2 n2,slots:=sl2 } /\
   R (.ok (.ret (.bool (lexLt ns ms)))) s) :=
 .of_wp fun prog w A R s h=>by
  obtain ⟨hp,g,d,tk,os⟩:=s;obtain ⟨hl,hb,h⟩:=h
  have f2:=AutoSeq1.sub_tuple_tuple
  have z1:items.size=ns.length:=by rw [<- hi.length];simp
  have z2:items2.size=ms.length:=by rw [<- hj.length];simp
  wp_walk using wpAny_loadPart' hl,wpAny_loadPart' hb,wpAny_forIn_list _ (fun rest b s'=>b.1=none/\s'=⟨hp,g,d,tk,os⟩/\∃(vs ws:List Value) (ns' ms':List Int),rest=vs.zip ws /\
   IntsAre vs ns'/\IntsAre ws ms'/\ns'.length+items2.size=ms'.length+items.size/\R (.ok (.ret (.bool (lexLt ns' ms')))) ⟨hp,g,d,tk,os⟩) _
  case turn =>
   rintro ⟨y,x⟩ rest b s' ⟨hb',rfl,vs,ws,ns',ms',hz,hvi,hwi,hlen,hR⟩
   cases hvi with
   | nil=>rw [List.zip_nil_left] at hz;cases hz
   | cons a t hvi' =>
     cases hwi with
     | nil=>rw [List.zip_nil_right] at hz;cases hz
     | cons c u hwi' =>
       rw [List.zip_cons_cons] at hz
       injection hz with hyx hrest
       injection hyx with hy hx
       subst hy hx
       rw [lexLt_cons] at hR
       simp only [List.length_cons] at hlen
       obtain ⟨e,he,hiff⟩:=eqAt_int A.in1 ⟨hp,g,d,tk,os⟩ a t c u
       refine wpAny_bind (he prog w _ _ ?_)
       cases e with
       | true =>
         rw [if_pos (hiff.mp rfl)] at hR
         wp_walk
         exact ⟨rfl,rfl,_,_,_,_,hrest,hvi',hwi',by omega,hR⟩
       | false =>
         rw [if_neg (fun q=>absurd (hiff.mpr q) Bool.false_ne_true)] at hR
         have hri:=rcLt_int A.in1 ⟨hp,g,d,tk,os⟩ a t c u prog w
         wp_walk using hri
         exact ⟨_,rfl,by simpa using hR⟩
  case fin =>
   rintro ⟨b1,b2⟩ s' ⟨hb',rfl,vs,ws,ns',ms',hz,hvi,hwi,hlen,hR⟩
   simp only at hb'
   subst hb'
   have hv:lexLt ns' ms'=decide (items.size < items2.size):=by
    cases hvi with
    | nil =>
      cases hwi with
      | nil =>
        simp only [List.length_nil] at hlen
        rw [lexLt_nil_nil]
        exact (decide_eq_false (by omega)).symm
      | cons c u hw =>
        simp only [List.length_nil,List.length_cons] at hlen
        rw [lexLt_nil_cons]
        exact (decide_eq_true (by omega)).symm
    | cons a t hv =>
      cases hwi with
      | nil =>
        simp only [List.length_nil,List.length_cons] at hlen
        rw [lexLt_cons_nil]
        exact (decide_eq_false (by omega)).symm
      | cons c u hw =>
        rw [List.zip_cons_cons] at hz
        cases hz
   rw [hv] at hR
   wp_walk
   exact ⟨_,rfl,by simpa [Builtin.Tuple.tupleCompareSizes] using hR⟩
  case h =>
   exact ⟨rfl,rfl,items.toList,items2.toList,ns,ms,rfl,hi,hj,by omega,h⟩
end
section
variable {prog:Program} {w:World} {A:Around} {E:Value->Shared->Prop} {s:Shared}
theorem lt_tupInts {l b:Addr} {items items2:Array Value} {ns ms:List Int} {Q:Value->Shared->Prop} (hl:IsTup s.heap l items) (hb:IsTup s.heap b items2) (hi:IntsAre items.toList ns) (hj:IntsAre items2.toList ms)
 (hu:A.units < cLine) (h:Q (.bool (lexLt ns ms)) s):wpAny (model prog w) A (compareOp .Lt (.ref l) (.ref b)) Q E s:=by
 obtain ⟨⟨cls,dd,data,sl⟩,ho,hc,n,hd⟩:=id hl
 obtain ⟨⟨cls2,dd2,data2,sl2⟩,ho2,hc2,n2,hd2⟩:=id hb
 simp only at hc hd hc2 hd2
 subst hc hd hc2 hd2
 exact richCompare_meets_room (op:=.Lt) ⟨_,ho,rfl⟩ ⟨_,ho2,rfl⟩ PySem.F.slot_tuple_lt PySem.F.entry_tuple_lt (PySem.F.args_tuple_lt_2 _ _) (tuple_lt_ints l b items items2 n n2 dd dd2 sl sl2 ns ms hi hj)
  ⟨ho,ho2,show Value.bool (lexLt ns ms)≠Value.notImplemented/\Q (.bool (lexLt ns ms)) s from ⟨(fun x=>nomatch x),h⟩⟩ hu
noncomputable def sIx (n d:Nat):Option Int->Nat
 | none=>d
 | some v=>if v < 0 then (v+(n:Int)).toNat else min v.toNat n
theorem sIx_none (n d:Nat):sIx n d none=d:=rfl
theorem sIx_nat (n d k:Nat):sIx n d (some (k:Int))=min k n:=by
 show (if (k:Int) < 0 then ((k:Int)+(n:Int)).toNat else min (k:Int).toNat n)=min k n
 rw [if_neg (by omega),Int.toNat_natCast]
end
end HT
namespace L2
open PySem PySem.Spec PyProof.Rows
abbrev TO:=St->Hp->(Option Int->Hp->Prop)->Prop
noncomputable def PO (X:Cx) (e:Option Expr) (t:TO):Prop :=
 ∀(pins:List (Addr × Obj)) (s:Shared) (σ:St) (H:Hp) (Q:Option Int->Hp->Prop),Inv X pins σ H s->t σ H Q ->
  wpAny (model X.prog X.w) X.A (evalPart e X.env) (fun u s'=>∃o H',Inv X pins σ H' s'/\IsPart u o/\Q o H') X.xe s
noncomputable def tNoPart:TO:=fun _ H Q=>Q none H
noncomputable def tPart (t:TE):TO:=fun σ H Q=>t σ H fun x H1=>∃i,x=.int i/\Q (some i) H1
theorem intsAre_of {ns:List Int}:∀{us:List Value},Vals (ns.map V.int) us->IntsAre us ns:=by
 induction ns with
 | nil=>intro us r;rw [List.map_nil] at r;cases r;exact .nil
 | cons n ns ih =>
   intro us r
   rw [List.map_cons] at r
   cases r with
   | cons r1 r2 =>
     obtain ⟨t,e⟩:=r1
     subst e
     exact .cons n t (ih r2)
section
variable {X:Cx} {e:Expr} {te:TE} {lo hi:Option Expr} {tl th:TO} {pos p2:Pos}
theorem po_none:PO X none tNoPart:=by
 intro pins s σ H Q I h
 rw [evalPart_none]
 exact wpAny_pure ⟨none,H,I,.none,h⟩
theorem po_some (h:PE X e te):PO X (some e) (tPart te):=by
 intro pins s σ H Q I hw
 rw [evalPart_some]
 refine thn (h pins s σ H _ I hw) fun u s1 ⟨x,H1,I1,r1,q1⟩=>?_
 obtain ⟨i,rfl,q⟩:=q1
 obtain ⟨t,rfl⟩:=r1
 exact ⟨some i,H1,I1,.int i t,q⟩
noncomputable def SlR (X:Cx) (r:V->Option Int->Option Int->Hp->VK->Prop):Prop :=
 ∀(pins:List (Addr × Obj)) (s:Shared) (σ:St) (H:Hp) (x:V) (v vl vu:Value) (lo hi:Option Int) (sl:Addr) (Q:VK),Inv X pins σ H s->RelV x v->s.heap.IsSliceOf sl vl vu .none->IsPart vl lo->IsPart vu hi->r x lo hi H Q ->
  ∃T id,typeLookup (.type T) "__getitem__"=pure (some (.builtin id))/\s.TypeIs v T/\wpAny (model X.prog X.w) X.A (getItem v (.ref sl)) (EP X pins σ Q) X.xe s
noncomputable def tSl (r:V->Option Int->Option Int->Hp->VK->Prop) (te:TE) (tl th:TO):TE:=fun σ H Q=>te σ H fun x H1=>tl σ H1 fun l H2=>th σ H2 fun u H3=>r x l u H3 Q
theorem pe_slice {r:V->Option Int->Option Int->Hp->VK->Prop} (hr:SlR X r) (he:PE X e te) (hl:PO X lo tl) (hu:PO X hi th):PE X (.Subscript e (.Slice lo hi none p2) pos) (tSl r te tl th):=by
 intro pins s σ H Q I h
 refine Subscript_ (thn (he pins s σ H _ I h) fun v s1 ⟨x,H1,I1,r1,q1⟩=>?_)
 refine wpAny_Slice (thn (hl pins s1 σ H1 _ I1 q1) fun vl s2 ⟨l,H2,I2,pl,q2⟩=>thn (hu pins s2 σ H2 _ I2 q2) fun vu s3 ⟨u,H3,I3,pu,q3⟩=>?_)
 rw [evalPart_none]
 refine wpAny_pure ?_
 have I4:Inv X pins σ H3 { s3 with heap:=s3.heap.push { cls:=.type "slice",data:=.fields #[vl,vu,.none] } }:=I3.kept (t':=s3.toks) fun b ob q=>Heap.get?_push_of_some _ q
 obtain ⟨T,id,hT,ht,hg⟩:=hr pins { s3 with heap:=s3.heap.push { cls:=.type "slice",data:=.fields #[vl,vu,.none] } } σ H3 x v vl vu l u s3.heap.objs.size Q I4 r1 (Heap.IsSliceOf.new ..) pl pu q3
 show wpAny (model X.prog X.w) X.A (subscriptTail e (.Slice lo hi none p2) v (.ref s3.heap.objs.size)) (EP X pins σ Q) X.xe { s3 with heap:=s3.heap.push { cls:=.type "slice",data:=.fields #[vl,vu,.none] } }
 exact tail_any (ops:=[.ref s3.heap.objs.size,v]) ht hT hg (by with_unfolding_all rfl)
noncomputable def cutV (xs:List V) (lo hi:Option Int):List V:=(xs.drop (HT.sIx xs.length 0 lo)).take (HT.sIx xs.length xs.length hi - HT.sIx xs.length 0 lo)
theorem cutV_length (xs:List V) (lo hi:Option Int):(cutV xs lo hi).length<=xs.length:=by
 unfold cutV
 rw [List.length_take,List.length_drop]
 omega
end
end L2
namespace L2
open PySem PySem.Spec PyProof.Rows
noncomputable def ixN (n:Nat) (i:Int):Option Nat:=if 0<=i then (if i < n then some i.toNat else none) else if -(n:Int)<=i then some (i+n).toNat else none
noncomputable def atI {α:Type} (xs:List α) (i:Int):Option α:=(ixN xs.length i).bind fun j=>xs[j]?
theorem ixN_seq {n:Nat} {i:Int} {j:Nat} (h:ixN n i=some j):seqIndex? i n=some j/\j < n/\-(n:Int)<=i/\i < n:=by
 unfold ixN at h
 by_cases h0:0<=i
 ·rw [if_pos h0] at h
  by_cases h1:i < n
  ·rw [if_pos h1] at h
   have e:i.toNat=j:=Option.some.inj h
   exact ⟨by rw [seqIndex_of h0 h1,e],by omega,by omega,h1⟩
  ·rw [if_neg h1] at h;cases h
 ·rw [if_neg h0] at h
  by_cases h1:-(n:Int)<=i
  ·rw [if_pos h1] at h
   have e:(i+n).toNat=j:=Option.some.inj h
   exact ⟨by rw [seqIndex_neg (by omega) h1,e],by omega,h1,by omega⟩
  ·rw [if_neg h1] at h;cases h
theorem atI_get {α:Type} {xs:List α} {i:Int} {v:α} (h:atI xs i=some v):∃j,seqIndex? i xs.length=some j/\xs[j]?=some v/\j < xs.length/\-(xs.length:Int)<=i/\i < xs.length:=by
 unfold atI at h
 cases e:ixN xs.length i with
 | none=>rw [e] at h;cases h
 | some j =>
   rw [e] at h
   obtain ⟨h1,h2,h3,h4⟩:=ixN_seq e
   exact ⟨j,h1,h,h2,h3,h4⟩
theorem atI_nat {α:Type} {xs:List α} {j:Nat} {v:α} (h:xs[j]?=some v):atI xs (j:Int)=some v:=by
 have hj:j < xs.length:=(List.getElem?_eq_some_iff.mp h).1
 have e:ixN xs.length (j:Int)=some j:=by
  unfold ixN
  rw [if_pos (by omega),if_pos (by omega)];simp
 unfold atI;rw [e];exact h
noncomputable def PlainIx (b:Expr):Prop:=∀o i,subscripted b false o i=operate [o,i] (getItem o i)
noncomputable def IxR (X:Cx) (r:R2):Prop :=
 ∀(value slice:Expr) (pins:List (Addr × Obj)) (s:Shared) (σ:St) (H:Hp) (x y:V) (v u:Value) (Q:VK),Inv X pins σ H s->RelV x v->RelV y u->r x y H Q ->
  subscripted slice false v u=operate [v,u] (getItem v u)->wpAny (model X.prog X.w) X.A (subscriptTail value slice v u) (EP X pins σ Q) X.xe s
noncomputable def MtR (X:Cx) (id:String) (r:V->List V->Hp->VK->Prop):Prop :=
 ∀(pins:List (Addr × Obj)) (s:Shared) (σ:St) (H:Hp) (x:V) (xs:List V) (v:Value) (us:List Value) (Q:VK),Inv X pins σ H s->RelV x v->Vals xs us->r x xs H Q ->
  wpAny (model X.prog X.w) X.A (call (.builtin id) (v :: us)) (EP X pins σ Q) X.xe s
section
variable {X:Cx} {a b:Expr} {ta tb:TE} {pos:Pos}
theorem pe_ix {r:R2} (hr:IxR X r) (ha:PE X a ta) (hb:PE X b tb) (hs:PlainIx b):PE X (.Subscript a b pos) (tOp r ta tb):=by
 intro pins s σ H Q I h
 exact Subscript_ (binT ha hb I h fun v u s2 x y H2 I2 rx ry q=>hr a b pins s2 σ H2 x y v u Q I2 rx ry q (hs _ _))
noncomputable def rIxL (K:PySem.W.Frag):R2:=fun x y H Q=>∃p xs i v,x=.ref p/\y=.int i/\SqL K H p xs/\atI xs i=some v/\Q v H
noncomputable def rIxT (K:PySem.W.Frag):R2:=fun x y H Q=>∃p xs i v,x=.ref p/\y=.int i/\SqT K H p xs/\atI xs i=some v/\Q v H
theorem ix_list:IxR X (rIxL X.K):=by
 intro value slice pins s σ H x y v u Q I rx ry h hs
 obtain ⟨p,xs,i,z,rfl,rfl,hq,he,q⟩:=h
 cases rx
 obtain ⟨t,rfl⟩:=ry
 obtain ⟨its,r,pl,hz⟩:=I.list hq
 obtain ⟨j,h1,h2,h3,h4,h5⟩:=atI_get he
 obtain ⟨w,ew,rw'⟩:=r.get h2
 have hl:=r.length
 have hn:=line63
 have fin:EP X pins σ Q w s:=⟨z,H,I,rw',q⟩
 by_cases h0:0<=i
 ·have hj:i.toNat=j:=by
   rw [seqIndex_of h0 h5] at h1
   exact Option.some.inj h1
  exact item_listR pl.isList h0 (by omega) (by rw [hj];simpa using ew) fin hs
 ·have hj:(i+(its.toArray.size:Int)).toNat=j:=by
   rw [seqIndex_neg (by omega) h4] at h1
   rw [List.size_toArray,<- hl]
   exact Option.some.inj h1
  exact subscriptTail_builtinR (x:=w) pl.isList.typeIs slot_list_getitem.lookup
   (wpAny_getItem_list_neg (Q:=fun r s'=>r=w/\EP X pins σ Q r s') pl.isList (by omega) (by rw [List.size_toArray] <;> omega) (by omega) (by rw [hj];simpa using ew) ⟨rfl,fin⟩) hs
theorem ix_tup:IxR X (rIxT X.K):=by
 intro value slice pins s σ H x y v u Q I rx ry h hs
 obtain ⟨p,xs,i,z,rfl,rfl,hq,he,q⟩:=h
 cases rx
 obtain ⟨t,rfl⟩:=ry
 obtain ⟨its,r,pl,hz⟩:=I.tuple hq
 obtain ⟨j,h1,h2,h3,h4,h5⟩:=atI_get he
 obtain ⟨w,ew,rw'⟩:=r.get h2
 have hl:=r.length
 have hn:=line63
 have fin:EP X pins σ Q w s:=⟨z,H,I,rw',q⟩
 exact subscriptTail_builtinR (x:=w) pl.typeIs slot_tuple_getitem.lookup
  (getItem_tuple (j:=j) (Q:=fun r s'=>r=w/\EP X pins σ Q r s') pl (by omega) (by omega) (by rw [List.size_toArray,<- hl];exact h1) (by simpa using ew) ⟨rfl,fin⟩) hs
theorem mapSeq_set (its:List Value) (n j:Nat) (u:Value):Obj.mapSeq (·.setIfInBounds j u) { cls:=.type "list",data:=.seq its.toArray n }={ cls:=.type "list",data:=.seq (its.set j u).toArray n }:=by
 simp [Obj.mapSeq]
theorem Inv.lst {pins:List (Addr × Obj)} {σ:St} {H:Hp} {s:Shared} {p:Addr} {xs:List V} (I:Inv X pins σ H s) (h:H p=some (.lst xs)) :
 ∃(its:List Value) (n:Nat),Vals xs its/\s.heap.get? p=some { cls:=.type "list",data:=.seq its.toArray n }/\xs.length<=sizeLine:=by
 obtain ⟨z,its,n,r,e⟩:=I.hok p _ h
 exact ⟨its,n,r,e,z⟩
theorem Inv.lstUpd {pins:List (Addr × Obj)} {σ:St} {H:Hp} {s:Shared} {p:Addr} {xs ys:List V} {its its':List Value} {n n':Nat} {f:Obj->Obj} (I:Inv X pins σ H s) (h:H p=some (.lst xs))
 (ho:s.heap.get? p=some { cls:=.type "list",data:=.seq its.toArray n }) (hf:f { cls:=.type "list",data:=.seq its.toArray n }={ cls:=.type "list",data:=.seq its'.toArray n' }) (r:Vals ys its') (hz:ys.length<=sizeLine) (t:Nat) :
 Inv X pins σ (upd H p (.lst ys)) { s with heap:=s.heap.update p f,toks:=t }:=by
 have e:(s.heap.update p f).get? p=some { cls:=.type "list",data:=.seq its'.toArray n' }:=by
  rw [Heap.get?_update_self f ho (by rw [hf] <;> rfl),hf]
 refine I.write (x:=p) (e:=p) (by rw [h];trivial) (.inl rfl) (fun b u hb q=>(Heap.get?_update_other _ _ (Ne.symm hb)).trans q) ⟨_,e⟩ ?_
 exact ⟨hz,its',n',r,e⟩
noncomputable def rSetL:V->V->V->Hp->(Hp->Prop)->Prop:=fun o i v H Q=>∃p xs k j,o=.ref p/\i=.int k/\H p=some (.lst xs)/\ixN xs.length k=some j/\Q (upd H p (.lst (xs.set j v)))
theorem set_list:PSet X rSetL:=by
 intro pins s σ H o i v ov iv u Q I ro ri rv h
 obtain ⟨p,xs,k,j,rfl,rfl,hp,hj,q⟩:=h
 cases ro
 obtain ⟨t,rfl⟩:=ri
 obtain ⟨its,n,r,ho,hz⟩:=I.lst hp
 obtain ⟨h1,h2,h3,h4⟩:=ixN_seq hj
 have hl:=r.length
 have hn:=line63
 have I':Inv X pins σ (upd H p (.lst (xs.set j v))) { s with heap:=s.heap.update p (Obj.mapSeq (·.setIfInBounds j u)) } :=
  I.lstUpd hp ho (mapSeq_set its n j u) (r.set rv j) (by rw [List.length_set];exact hz) s.toks
 by_cases h0:0<=k
 ·have hk:k.toNat=j:=by
   rw [seqIndex_of h0 h4] at h1
   exact Option.some.inj h1
  exact PySem.W.ki_setAt ho h0 (by omega) (by rw [List.size_toArray,<- hl];exact h4) (by rw [hk];exact ⟨_,I',q⟩)
 ·have hk:(k+(its.toArray.size:Int)).toNat=j:=by
   rw [seqIndex_neg (by omega) h3] at h1
   rw [List.size_toArray,<- hl]
   exact Option.some.inj h1
  exact PySem.W.ki_setBack ho (by omega) (by rw [List.size_toArray,<- hl];exact h3) (by omega) (by rw [hk];exact ⟨_,I',q⟩)
theorem slice_bounds (lo hi:Option Int) (n:Nat):(sliceBounds lo hi none n).1=((HT.sIx n 0 lo:Nat):Int)/\(sliceBounds lo hi none n).2.1=((HT.sIx n n hi:Nat):Int)/\(sliceBounds lo hi none n).2.2=1:=by
 refine ⟨?_,?_,rfl⟩
 ·cases lo with
  | none=>simp [sliceBounds,HT.sIx]
  | some i =>
    simp only [sliceBounds,HT.sIx,Option.getD_none,show (1:Int) > 0 by decide,if_true]
    by_cases h:i < 0
    ·simp only [h,if_true] <;> omega
    ·simp only [h,if_false] <;> omega
 ·cases hi with
  | none=>simp [sliceBounds,HT.sIx]
  | some i =>
    simp only [sliceBounds,HT.sIx,Option.getD_none,show (1:Int) > 0 by decide,if_true]
    by_cases h:i < 0
    ·simp only [h,if_true] <;> omega
    ·simp only [h,if_false] <;> omega
theorem slicePick_cut (its:List Value) (lo hi:Option Int):slicePick its.toArray lo hi none=((its.drop (HT.sIx its.length 0 lo)).take (HT.sIx its.length its.length hi - HT.sIx its.length 0 lo)).toArray:=by
 obtain ⟨h1,h2,h3⟩:=slice_bounds lo hi its.toArray.size
 unfold slicePick
 rw [h1,h2,h3]
 simp only [sliceRange_one,pick_run,List.size_toArray] <;> rfl
noncomputable def rSlL (K:PySem.W.Frag):V->Option Int->Option Int->Hp->VK->Prop:=fun x lo hi H Q=>∃a xs,x=.ref a/\SqL K H a xs/\∀p,H p=none->Q (.ref p) (upd H p (.lst (cutV xs lo hi)))
theorem sl_list:SlR X (rSlL X.K):=by
 intro pins s σ H x v vl vu lo hi sl Q I rx hs pl pu h
 obtain ⟨a,xs,rfl,hx,q⟩:=h
 cases rx
 obtain ⟨its,r,ht,hz⟩:=I.list hx
 have hlen:=r.length
 refine ⟨"list",_,slot_list_getitem.lookup,ht.isList.typeIs,?_⟩
 refine wpAny_getItem_list_slice ht.isList hs pl pu .none (by simp) ?_ (by rw [List.size_toArray] <;> omega)
 rw [slicePick_cut,<- hlen]
 refine ⟨.ref s.heap.objs.size,_,I.laid (t':=s.toks) (o:=.lst (cutV xs lo hi)) (fun b ob q=>Heap.get?_push_of_some _ q) (Nat.le_refl _) ?_,rfl,q _ (I.hok.fresh (Nat.le_refl _))⟩
 exact ⟨Nat.le_trans (cutV_length xs lo hi) hz,_,0,(r.drop (HT.sIx xs.length 0 lo)).take (HT.sIx xs.length xs.length hi - HT.sIx xs.length 0 lo),Heap.get?_push_size _ rfl⟩
noncomputable def flatV:V->Bool
 | .non=>true
 | .bl _=>true
 | .int _=>true
 | .str _=>true
 | _=>false
noncomputable def eqV:V->V->Bool
 | .non,.non=>true
 | .bl a,.bl b=>a == b
 | .bl a,.int b=>(if a then 1 else 0) == b
 | .int a,.bl b=>a == (if b then 1 else 0)
 | .int a,.int b=>a == b
 | .str a,.str b=>a == b
 | _,_=>false
theorem eqAt_V {A:Around} {s:Shared} {y x:V} {u v:Value} (ry:RelV y u) (rx:RelV x v) (fy:flatV y=true) (fx:flatV x=true):SeqAt.EqAt A s u v (eqV y x):=by
 cases y with
 | non =>
   cases ry
   cases x with
   | non=>cases rx;exact SeqAt.EqAt.same _
   | bl b=>cases rx;exact SeqAt.EqAt.none_bool b
   | int b=>obtain ⟨t,rfl⟩:=rx;exact SeqAt.EqAt.none_int b t
   | str b=>obtain ⟨t,rfl⟩:=rx;exact SeqAt.EqAt.none_str b t
   | _=>exact absurd (show false=true from fx) Bool.false_ne_true
 | bl a =>
   cases ry
   cases x with
   | non=>cases rx;exact SeqAt.EqAt.bool_none a
   | bl b=>cases rx;exact SeqAt.EqAt.bool_bool a b
   | int b=>obtain ⟨t,rfl⟩:=rx;exact SeqAt.EqAt.bool_int a b t
   | str b=>obtain ⟨t,rfl⟩:=rx;exact SeqAt.EqAt.bool_str a b t
   | _=>exact absurd (show false=true from fx) Bool.false_ne_true
 | int a =>
   obtain ⟨t',rfl⟩:=ry
   cases x with
   | non=>cases rx;exact SeqAt.EqAt.int_none a t'
   | bl b=>cases rx;exact SeqAt.EqAt.int_bool a t' b
   | int b=>obtain ⟨t,rfl⟩:=rx;exact SeqAt.EqAt.int_int a t' b t
   | str b=>obtain ⟨t,rfl⟩:=rx;exact SeqAt.EqAt.int_str a t' b t
   | _=>exact absurd (show false=true from fx) Bool.false_ne_true
 | str a =>
   obtain ⟨t',rfl⟩:=ry
   cases x with
   | non=>cases rx;exact SeqAt.EqAt.str_none a t'
   | bl b=>cases rx;exact SeqAt.EqAt.str_bool a t' b
   | int b=>obtain ⟨t,rfl⟩:=rx;exact SeqAt.EqAt.str_int a t' b t
   | str b=>obtain ⟨t,rfl⟩:=rx;exact SeqAt.EqAt.str_str a t' b t
   | _=>exact absurd (show false=true from fx) Bool.false_ne_true
 | _=>exact absurd (show false=true from fy) Bool.false_ne_true
noncomputable def eqU (x:V) (u:Value):Bool:=match u with
 | .none=>eqV .non x
 | .bool b=>eqV (.bl b) x
 | .int i _=>eqV (.int i) x
 | .str z _=>eqV (.str z) x
 | _=>false
theorem eqU_of {x y:V} {u:Value} (r:RelV y u) (f:flatV y=true):eqU x u=eqV y x:=by
 cases y with
 | non=>cases r;rfl
 | bl b=>cases r;rfl
 | int i=>obtain ⟨t,rfl⟩:=r;rfl
 | str z=>obtain ⟨t,rfl⟩:=r;rfl
 | _=>exact absurd (show false=true from f) Bool.false_ne_true
theorem any_eqU {x:V}:∀{xs:List V} {us:List Value},Vals xs us->xs.all flatV=true->us.any (eqU x)=xs.any fun y=>eqV y x
 | _,_,.nil,_=>rfl
 | y :: xs,u :: us,.cons r t,f=>by
   rw [List.all_cons,Bool.and_eq_true] at f
   rw [List.any_cons,List.any_cons,eqU_of r f.1,any_eqU t f.2]
theorem mem_eqAt {A:Around} {s:Shared} {x:V} {v:Value} (rx:RelV x v) (fx:flatV x=true):∀{xs:List V} {us:List Value},Vals xs us->xs.all flatV=true->∀u∈us,SeqAt.EqAt A s u v (eqU x u)
 | _,_,.nil,_=>fun u hu=>by cases hu
 | y :: xs,u :: us,.cons r t,f=>fun u' hu=>by
   rw [List.all_cons,Bool.and_eq_true] at f
   rcases List.mem_cons.mp hu with rfl | hu
   ·rw [eqU_of r f.1];exact eqAt_V r rx f.1 fx
   ·exact mem_eqAt rx fx t f.2 u' hu
noncomputable def inV (x:V) (xs:List V):Bool:=xs.any fun y=>eqV y x
noncomputable def rIn (K:PySem.W.Frag) (neg:Bool):R2:=fun x y H Q=>∃p xs,y=.ref p/\(SqL K H p xs\/SqT K H p xs)/\flatV x=true/\xs.all flatV=true/\Q (.bl (if neg then !inV x xs else inV x xs)) H
theorem op_in_seq:OpR X (compareOp .In) (rIn X.K false):=by
 intro pins s σ H x y v u Q I rx ry h
 obtain ⟨p,xs,rfl,hq,fx,fs,q⟩:=h
 cases ry
 rcases hq with hq | hq
 ·obtain ⟨its,r,pl,hz⟩:=I.list hq
  refine SeqAt.in_listAt (eqU x) pl.isList (fun w hw=>mem_eqAt rx fx r fs w (by simpa using hw)) ⟨.bl _,H,I,rfl,?_⟩
  rw [show its.toArray.any (eqU x)=its.any (eqU x) by simp,any_eqU r fs]
  exact q
 ·obtain ⟨its,r,pl,hz⟩:=I.tuple hq
  refine SeqAt.in_tupleAt (eqU x) pl (fun w hw=>mem_eqAt rx fx r fs w (by simpa using hw)) ⟨.bl _,H,I,rfl,?_⟩
  rw [show its.toArray.any (eqU x)=its.any (eqU x) by simp,any_eqU r fs]
  exact q
theorem call_len_seq:CallR X (.builtin "len") (fun xs H Q=>∃p ys,xs=[.ref p]/\(SqL X.K H p ys\/SqT X.K H p ys)/\Q (.int ys.length) H):=by
 intro pins s σ H xs us Q I r h
 obtain ⟨p,ys,rfl,hq,q⟩:=h
 obtain ⟨u,rfl,rx⟩:=vals1 r
 cases rx
 have hn:=line63
 rcases hq with hq | hq
 ·obtain ⟨its,r',pl,hz⟩:=I.list hq
  have hlen:=r'.length
  exact Calls.call_len_list pl.isList (by simp only [List.size_toArray] <;> omega) ⟨.int ys.length,H,I.tok _,⟨s.toks+1,by rw [List.size_toArray,hlen]⟩,q⟩
 ·obtain ⟨its,r',pl,hz⟩:=I.tuple hq
  have hlen:=r'.length
  exact len_tuple pl (by simp only [List.size_toArray] <;> omega) ⟨.int ys.length,H,I.tok _,⟨s.toks+1,by rw [List.size_toArray,hlen]⟩,q⟩
theorem call_list_of:CallR X (.type "list") (fun xs H Q=>∃p ys,xs=[.ref p]/\(SqL X.K H p ys\/SqT X.K H p ys)/\∀l,H l=none->Q (.ref l) (upd H l (.lst ys))):=by
 intro pins s σ H xs us Q I r h
 obtain ⟨p,ys,rfl,hq,q⟩:=h
 obtain ⟨u,rfl,rx⟩:=vals1 r
 cases rx
 have fin:∀(its:List Value),Vals ys its->ys.length<=sizeLine->∀(h':Heap) (c':Nat),(∀b o',s.heap.get? b=some o'->h'.get? b=some o') ->
  h'.get? s.heap.objs.size=some { cls:=.type "list",dict:=none,data:=.seq its.toArray c',slots:=#[] }->EP X pins σ Q (.ref s.heap.objs.size) { s with heap:=h' }:=fun its r' hz h' c' kp e =>
  ⟨.ref s.heap.objs.size,_,I.laid (t':=s.toks) kp (Nat.le_refl _) (show ObjOk X.prog X.w _ h' _ (.lst ys) from ⟨hz,its,c',r',e⟩),rfl,q _ (I.hok.fresh (Nat.le_refl _))⟩
 rcases hq with hq | hq
 ·obtain ⟨its,r',pl,hz⟩:=I.list hq
  have hlen:=r'.length
  obtain ⟨o,ho,hc,n,hd⟩:=pl.isList
  exact call_list_seq p (.inl rfl) ho hc hd (fun h' c' kp e=>fin its r' hz h' c' kp e) (by simp only [List.size_toArray] <;> omega)
 ·obtain ⟨its,r',pl,hz⟩:=I.tuple hq
  have hlen:=r'.length
  obtain ⟨o,ho,hc,n,hd⟩:=pl
  exact call_list_seq p (.inr rfl) ho hc hd (fun h' c' kp e=>fin its r' hz h' c' kp e) (by simp only [List.size_toArray] <;> omega)
theorem call_tuple_of:CallR X (.type "tuple") (fun xs H Q=>∃p ys,xs=[.ref p]/\((SqL X.K H p ys/\∀l,H l=none->Q (.ref l) (upd H l (.tup ys)))\/(SqT X.K H p ys/\Q (.ref p) H))):=by
 intro pins s σ H xs us Q I r h
 obtain ⟨p,ys,rfl,h⟩:=h
 obtain ⟨u,rfl,rx⟩:=vals1 r
 cases rx
 rcases h with ⟨hq,q⟩ | ⟨hq,q⟩
 ·obtain ⟨its,r',pl,hz⟩:=I.list hq
  have hlen:=r'.length
  refine call_tuple_list pl.isList (fun h' kp=>?_) (by simp only [List.size_toArray] <;> omega)
  have I1:Inv X pins σ H { s with heap:=h' }:=I.kept (t':=s.toks) kp
  have I2:Inv X pins σ (upd H h'.objs.size (.tup ys)) { s with heap:=h'.push { cls:=.type "tuple",data:=.seq its.toArray } } :=
   I1.laid (t':=s.toks) (fun b o e=>Heap.get?_push_of_some _ e) (Nat.le_refl _) (show ObjOk X.prog X.w _ _ _ (.tup ys) from ⟨hz,its,r',IsTup.new _ _⟩)
  exact ⟨.ref h'.objs.size,_,I2,rfl,q _ (I1.hok.fresh (Nat.le_refl _))⟩
 ·obtain ⟨its,r',pl,hz⟩:=I.tuple hq
  exact call_tuple_same pl ⟨.ref p,H,I,rfl,q⟩
noncomputable def tyV (K:PySem.W.Frag) (T:String) (x:V) (H:Hp):Prop:=match x with
 | .str _=>T="str"
 | .int _=>T="int"
 | .ref p=>(T="list"/\∃xs,SqL K H p xs)\/(T="tuple"/\∃o,K.lookup p=some o/\o.cls=.type "tuple"/\o.dict=none) \/
  (T="dict"/\((∃kvs,H p=some (.dK kvs))\/∃kvs,H p=some (.dT kvs)))\/(T="set"/\∃S n,H p=some (.set S n))
 | _=>False
theorem tyV_is {pins:List (Addr × Obj)} {σ:St} {H:Hp} {s:Shared} {T:String} {x:V} {v:Value} (I:Inv X pins σ H s) (r:RelV x v) (ty:tyV X.K T x H) :
 s.TypeIs v T/\∀a,v=.ref a->∃ob,s.heap.get? a=some ob/\ob.dict=none:=by
 cases x with
 | str z =>
   obtain ⟨t,rfl⟩:=r
   cases (show T="str" from ty)
   exact ⟨typeIs_str s z t,fun _ e=>nomatch e⟩
 | int i =>
   obtain ⟨t,rfl⟩:=r
   cases (show T="int" from ty)
   exact ⟨typeIs_int s i t,fun _ e=>nomatch e⟩
 | ref p =>
   cases r
   rcases ty with ⟨rfl,xs,hq⟩ | ⟨rfl,o,hk,hc,hd⟩ | ⟨rfl,hk⟩ | ⟨rfl,S,n,hk⟩
   ·obtain ⟨its,_,pl,_⟩:=I.list hq
    refine ⟨pl.isList.typeIs,fun a e=>?_⟩
    cases e
    obtain ⟨o,n,e,c,hd,_⟩:=pl
    exact ⟨o,e,hd⟩
   ·refine ⟨⟨o,I.kIn p o hk,hc⟩,fun a e=>?_⟩
    cases e
    exact ⟨o,I.kIn _ o hk,hd⟩
   ·have z:∃o,s.heap.get? p=some o/\o.ExactDict:=by
     rcases hk with ⟨kvs,hk⟩ | ⟨kvs,hk⟩
     ·obtain ⟨_,_,_,_,o,_,_,e,ex,_⟩:=I.hok p _ hk
      exact ⟨o,e,ex⟩
     ·obtain ⟨_,_,_,_,o,_,_,e,ex,_⟩:=I.hok p _ hk
      exact ⟨o,e,ex⟩
    obtain ⟨o,e,ex⟩:=z
    refine ⟨⟨o,e,ex.1⟩,fun a e2=>?_⟩
    cases e2
    exact ⟨o,e,ex.2.1⟩
   ·obtain ⟨o,_,_,_,e,ex,_⟩:=I.hok p _ hk
    refine ⟨⟨o,e,ex.1⟩,fun a e2=>?_⟩
    cases e2
    exact ⟨o,e,ex.2.1⟩
 | _=>exact False.elim ty
noncomputable def tBM0 (K:PySem.W.Frag) (T:String) (r:V->List V->Hp->VK->Prop) (to:TE):TE:=fun σ H Q=>to σ H fun x H1=>tyV K T x H1/\r x [] H1 Q
noncomputable def tBM (K:PySem.W.Frag) (T:String) (r:V->List V->Hp->VK->Prop) (to:TE) (t:TA):TE:=fun σ H Q=>to σ H fun x H1=>tyV K T x H1/\t σ H1 fun xs H2=>r x xs H2 Q
variable {o e:Expr} {es:List Expr} {to:TE} {t:TA} {name:Str} {apos cpos:Pos} {T id:String} {r:V->List V->Hp->VK->Prop}
theorem pe_bm0 (pa:PlainAttrs T) (slot:Slot T name id) (hty:typeOf (.builtin id)=pure (.type "method_descriptor")) (hm:MtR X id r) (ho:PE X o to)
 (hbase:attributeBase o name X.env (eval o X.env)=eval o X.env:=by rfl) (hline:(apos.endLine == cpos.line)=true:=by rfl):PE X (.Call (.Attribute o name apos) [] [] cpos) (tBM0 X.K T r to):=by
 intro pins s σ H Q I h
 refine wpAny_Call_method0_late hbase hline (thn (ho pins s σ H _ I h) fun v s1 ⟨x,H1,I1,r1,ty,q1⟩=>?_)
 obtain ⟨h1,h2⟩:=tyV_is I1 r1 ty
 exact ⟨T,id,pa,slot,hty,h1,h2,Calls.callWith_builtin rfl (PySem.evalArgs_none (hm pins s1 σ H1 x [] v [] Q I1 r1 .nil q1))⟩
theorem pe_bm (pa:PlainAttrs T) (slot:Slot T name id) (hty:typeOf (.builtin id)=pure (.type "method_descriptor")) (hm:MtR X id r) (ho:PE X o to) (ha:PA X (e :: es) t)
 (hbase:attributeBase o name X.env (eval o X.env)=eval o X.env:=by rfl)
 (hfew:((backTo cpos (starEach (e :: es) X.env)).all (fun x=>!x.1) && (backToKw cpos (keywordEach [] X.env)).all (fun x=>x.1.isSome)
  && decide ((e :: es).length+([]:List Keyword).length+(if ([]:List Keyword).isEmpty then 0 else 1) < 30))=true:=by rfl)
 (hline:(apos.endLine == cpos.line)=true:=by rfl) (hs:starEach (e :: es) X.env=(false,eval e X.env) :: starEach es X.env:=by rfl) (hplain:(backTo cpos (starEach es X.env)).any (·.1)=false:=by rfl) :
 PE X (.Call (.Attribute o name apos) (e :: es) [] cpos) (tBM X.K T r to t):=by
 intro pins s σ H Q I h
 refine wpAny_Call_method_late hbase hfew hline rfl (thn (ho pins s σ H _ I h) fun v s1 ⟨x,H1,I1,r1,ty,q1⟩=>?_)
 obtain ⟨h1,h2⟩:=tyV_is I1 r1 ty
 refine ⟨T,id,pa,slot,hty,h1,h2,?_⟩
 have hA:=ha cpos pins s1 σ H1 _ I1 q1
 rw [hs] at hA ⊢
 refine Calls.callWith_builtin (by show (false || (backTo cpos (starEach es X.env)).any (·.1))=false;rw [hplain] <;> rfl) (Calls.evalArgs_plain ?_)
 exact thn hA fun us s2 ⟨vs,H2,I2,r2,q2⟩=>hm pins s2 σ H2 x vs v us Q I2 r1 r2 q2
end
end L2
namespace L2
open PySem PySem.Spec PyProof.Rows
noncomputable def MtM (X:Cx) (id:String) (r:V->List V->Hp->VK->Prop):Prop :=
 ∀(pins:List (Addr × Obj)) (s:Shared) (σ:St) (H:Hp) (x:V) (xs:List V) (v:Value) (us:List Value) (Q:VK),Inv X pins σ H s->RelV x v->Vals xs us->r x xs H Q ->
  wpAny (model X.prog X.w) X.A (call (.builtin id) (v :: us)) (EP X pins σ Q) X.xe s
theorem Vals.one:∀{x:V} {us:List Value},Vals [x] us->∃u,us=[u]/\RelV x u
 | _,_,.cons r .nil=>⟨_,rfl,r⟩
theorem Vals.zero:∀{us:List Value},Vals [] us->us=[]
 | _,.nil=>rfl
theorem Vals.eraseIdx:∀{xs:List V} {us:List Value} (i:Nat),Vals xs us->Vals (xs.eraseIdx i) (us.eraseIdx i)
 | _,_,_,.nil=>.nil
 | _,_,0,.cons _ t=>t
 | _,_,i+1,.cons r t=>.cons r (Vals.eraseIdx i t)
theorem Vals.rep {xs:List V} {us:List Value} (h:Vals xs us):∀k:Nat,Vals (List.replicate k xs).flatten (List.replicate k us).flatten
 | 0=>.nil
 | k+1=>by
   rw [List.replicate_succ,List.replicate_succ,List.flatten_cons,List.flatten_cons]
   exact Vals.append h (Vals.rep h k)
theorem len_erase {α:Type}:∀(l:List α) (i:Nat),(l.eraseIdx i).length<=l.length
 | [],_=>Nat.le_refl _
 | _ :: _,0=>Nat.le_succ _
 | _ :: r,i+1=>Nat.succ_le_succ (len_erase r i)
theorem foldl_rep (its:List Value):∀(k:Nat) (acc:List Value),
 List.foldl (fun x1 x2=>x1++x2) acc.toArray (List.replicate k its.toArray)=(acc++(List.replicate k its).flatten).toArray
 | 0,acc=>by simp
 | k+1,acc=>by
   have e:acc.toArray++its.toArray=(acc++its).toArray:=by simp
   have e2:(acc++its)++(List.replicate k its).flatten=acc++(List.replicate (k+1) its).flatten:=by
    rw [List.replicate_succ,List.flatten_cons,List.append_assoc]
   rw [<- e2,<- foldl_rep its k (acc++its),<- e,List.replicate_succ,List.foldl_cons]
section
variable {X:Cx} {pins:List (Addr × Obj)} {σ:St} {H:Hp} {s:Shared} {l b:Addr} {xs ys zs:List V}
theorem Inv.lset {its its':List Value} {n:Nat} {f:Array Value->Array Value} {t':Nat} (I:Inv X pins σ H s) (hH:H l=some (.lst xs))
 (e:s.heap.get? l=some { cls:=.type "list",data:=.seq its.toArray n }) (hf:f its.toArray=its'.toArray) (hv:Vals ys its') (hz:ys.length<=sizeLine) :
 Inv X pins σ (upd H l (.lst ys)) { s with heap:=s.heap.update l (Obj.mapSeq f),toks:=t' }:=by
 have q:=PySem.IsL.update e f
 rw [hf] at q
 refine I.write (x:=l) (e:=l) (by rw [hH];exact trivial) (.inl rfl) (fun b' u hb hu=>(Heap.get?_update_other s.heap (Obj.mapSeq f) (Ne.symm hb)).trans hu) ⟨_,q⟩ ?_
 exact ⟨hz,its',_,hv,q⟩
theorem Inv.lnew {its:List Value} {t':Nat} (I:Inv X pins σ H s) (hv:Vals ys its) (hz:ys.length<=sizeLine) :
 Inv X pins σ (upd H s.heap.objs.size (.lst ys)) { s with heap:=s.heap.push { cls:=.type "list",data:=.seq its.toArray },toks:=t' } :=
 I.laid (fun _ _ q=>Heap.get?_push_of_some _ q) (Nat.le_refl _) ⟨hz,its,0,hv,Heap.get?_push_size _ rfl⟩
theorem Inv.fresh (I:Inv X pins σ H s):H s.heap.objs.size=none:=I.hok.fresh (Nat.le_refl _)
theorem Inv.lstM (I:Inv X pins σ H s) (hH:H l=some (.lst xs)):xs.length<=sizeLine/\∃(its:List Value) (n:Nat),Vals xs its/\xs.length=its.length/\s.heap.get? l=some { cls:=.type "list",data:=.seq its.toArray n }:=by
 obtain ⟨z,its,n,r,e⟩:=I.hok l _ hH
 exact ⟨z,its,n,r,r.length,e⟩
theorem notLongL {n:Nat} (h:n<=sizeLine):Builtin.List.listTooLong n=false:=by
 unfold Builtin.List.listTooLong
 exact decide_eq_false (by omega)
end
section
variable {X:Cx}
noncomputable def rAppend:V->List V->Hp->VK->Prop:=fun x vs H Q=>∃l xs y,x=.ref l/\vs=[y]/\H l=some (.lst xs)/\xs.length < sizeLine/\Q .non (upd H l (.lst (xs++[y])))
theorem mt_append:MtM X "list.append" rAppend:=by
 intro pins s σ H x vs v us Q I rx rv h
 obtain ⟨l,xs,y,rfl,rfl,hH,hz,q⟩:=h
 cases rx
 obtain ⟨u,rfl,ru⟩:=rv.one
 obtain ⟨z,its,n,r,hl,e⟩:=I.lstM hH
 refine call_meets F.slot_list_append ⟨_,e,rfl⟩ F.entry_list_append (F.args_list_append_2 _ _) (PySem.list_append l its.toArray n u (by rw [List.size_toArray];omega)) ⟨e,?_⟩
 refine ⟨.non,_,I.lset (its':=its++[u]) hH e (by simp) (r.append (.cons ru .nil)) ?_,rfl,q⟩
 rw [List.length_append,List.length_singleton]
 omega
noncomputable def rPopAt:V->List V->Hp->VK->Prop:=fun x vs H Q=>∃l xs i k y,x=.ref l/\vs=[.int i]/\H l=some (.lst xs)/\-(2 ^ 63)<=i/\i < 2 ^ 63/\seqIndex? i xs.length=some k/\xs[k]?=some y/\Q y (upd H l (.lst (xs.eraseIdx k)))
theorem mt_popAt:MtM X "list.pop" rPopAt:=by
 intro pins s σ H x vs v us Q I rx rv h
 obtain ⟨l,xs,i,k,y,rfl,rfl,hH,h1,h2,hk,hy,q⟩:=h
 cases rx
 obtain ⟨u,rfl,ru⟩:=rv.one
 obtain ⟨t,rfl⟩:=ru
 obtain ⟨z,its,n,r,hl,e⟩:=I.lstM hH
 obtain ⟨w,hw,rw'⟩:=r.get hy
 refine call_meets F.slot_list_pop ⟨_,e,rfl⟩ F.entry_list_pop (F.args_list_pop_2 _ _)
  (MeetsSeq.list_pop_at l its.toArray n i t k w (fitsIndex_both h1 h2) (by rw [List.size_toArray,<- hl];exact hk) (by rw [<- Array.getElem?_toList];exact hw) (by rw [List.size_toArray];omega)) ⟨e,?_⟩
 refine ⟨y,_,I.lset (its':=its.eraseIdx k) hH e ?_ (r.eraseIdx k) ?_,rw',q⟩
 ·show its.toArray.eraseIdxIfInBounds k=(its.eraseIdx k).toArray
  rw [List.eraseIdxIfInBounds_toArray]
 ·have:=len_erase xs k
  omega
noncomputable def rCat:R2:=fun x y H Q=>∃l b xs zs,x=.ref l/\y=.ref b/\H l=some (.lst xs)/\H b=some (.lst zs)/\xs.length+zs.length<=sizeLine/\∀p,H p=none->Q (.ref p) (upd H p (.lst (xs++zs)))
theorem op_cat:OpR X (binaryOp .Add) rCat:=by
 intro pins s σ H x y v u Q I rx ry h
 obtain ⟨l,b,xs,zs,rfl,rfl,hH,hB,hz,q⟩:=h
 cases rx
 cases ry
 obtain ⟨z,its,n,r,hl,e⟩:=I.lstM hH
 obtain ⟨z2,its2,n2,r2,hl2,e2⟩:=I.lstM hB
 refine PySem.P.add_list e e2 ?_ (by rw [List.size_toArray,List.size_toArray];omega)
 have ea:its.toArray++its2.toArray=(its++its2).toArray:=by simp
 rw [ea]
 exact ⟨.ref _,_,I.lnew (t':=s.toks) (r.append r2) (by rw [List.length_append];omega),rfl,q _ I.fresh⟩
noncomputable def rRep:R2:=fun x y H Q=>∃l k xs,x=.ref l/\y=.int k/\H l=some (.lst xs)/\-(2 ^ 63)<=k/\k < 2 ^ 63/\xs.length*k.toNat<=sizeLine /\
 ∀p,H p=none->Q (.ref p) (upd H p (.lst (List.replicate k.toNat xs).flatten))
theorem len_rep {α:Type} (xs:List α) (k:Nat):(List.replicate k xs).flatten.length=k*xs.length:=by
 induction k with
 | zero=>simp
 | succ k ih=>rw [List.replicate_succ,List.flatten_cons,List.length_append,ih,Nat.succ_mul,Nat.add_comm]
theorem op_rep:OpR X (binaryOp .Mult) rRep:=by
 intro pins s σ H x y v u Q I rx ry h
 obtain ⟨l,k,xs,rfl,rfl,hH,h1,h2,hz,q⟩:=h
 cases rx
 obtain ⟨t,rfl⟩:=ry
 obtain ⟨z,its,n,r,hl,e⟩:=I.lstM hH
 have hlen:its.toArray.size*k.toNat<=sizeLine:=by rw [List.size_toArray,<- hl];exact hz
 have hcap:¬ its.toArray.size*k.toNat > (2 ^ 63 - 1) / 8:=by
  have:(sizeLine:Nat)<=(2 ^ 63 - 1) / 8:=by decide
  omega
 have hfit:¬ (!Builtin.List.listFitsIndex k)=true:=by
  rw [fitsIndex_both h1 h2]
  exact Bool.false_ne_true
 have hlong:¬ Builtin.List.listTooLong (its.toArray.size*k.toNat)=true:=by
  rw [notLongL hlen]
  exact Bool.false_ne_true
 have hnew:List.foldl (fun x1 x2=>x1++x2) #[] (List.replicate (if its.toArray.isEmpty=true then 0 else k.toNat) its.toArray)=(List.replicate k.toNat its).flatten.toArray:=by
  have f0:∀m:Nat,List.foldl (fun x1 x2=>x1++x2) #[] (List.replicate m its.toArray)=(List.replicate m its).flatten.toArray:=fun m=>by
   have:=foldl_rep its m []
   rw [List.nil_append] at this
   exact this
  rw [f0]
  cases its with
  | nil=>simp
  | cons a r'=>rw [if_neg (by simp)]
 refine wpAny_binaryOp_repeat_ref (T:="list") (U:="int") (by decide) ⟨_,e,rfl⟩ (fun s'=>typeIs_int s' k t) noFill_list_mul F.fills_int_mul F.slot_int_rmul repeat_list F.slot_int_index.lookup
  (call_meets F.slot_int_rmul (typeIs_int s k t) F.entry_int_rmul (F.args_int_rmul_2 _ _) (int___rmul___int_list k t l its.toArray n)
   ⟨e,rfl,⟨_,e,rfl⟩,call_meets F.slot_list_mul ⟨_,e,rfl⟩ F.entry_list_mul (F.args_list_mul_2 _ _) (AutoListH.list___mul___list_int_3 l its.toArray n k t hfit hcap hlong) ⟨e,?_⟩⟩)
 rw [hnew]
 exact ⟨.ref _,_,I.lnew (t':=s.toks) (r.rep k.toNat) (by rw [len_rep,Nat.mul_comm];exact hz),rfl,q _ I.fresh⟩
end
section
variable {prog:Program} {w:World} {A:Around} {E:Value->Shared->Prop} {s:Shared}
set_option maxRecDepth 100000 in
end
section
variable {X:Cx}
end
end L2
namespace Att
open PySem PySem.W PySem.Calls PyProof.Rows
theorem ints_of_wellAll {P:Params} {h:Heap}:∀(ns:List Int) (vs:List Value),WellAll P h vs (ns.map WData.int)->IntsAre vs ns:=by
 intro ns
 induction ns with
 | nil =>
   intro vs w
   rw [List.map_nil] at w
   cases w
   exact .nil
 | cons n ns ih =>
   intro vs w
   rw [List.map_cons] at w
   cases w with
   | cons a b =>
     cases a
     exact .cons _ _ (ih _ b)
theorem script_of {l:OpenLaw} {n:Nat} (hn:l.most=some n) {P:Params} {h:Heap} {args:List WData} {vals:List Value}
 (hpre:l.row.toRowW.claim.pre args=true) (hwl:WellAll P h vals args) :
 ∃a vs ns,vals=[Value.ref a]/\args=[WData.list (ns.map WData.int)]/\h.get? a=some { cls:=.type "list",data:=.seq vs.toArray }/\IntsAre vs ns/\ns.length<=n:=by
 have hsh:WShape.hasAll [] args [.list .int]=true:=(pre_splitW hpre).1
 have hc:l.pre.holds [] { args:=args }=true:=(pre_splitW hpre).2
 obtain ⟨d,r,rfl,h1,h2⟩:=hasAllW_cons hsh
 obtain rfl:=hasAllW_nil h2
 obtain ⟨xs,rfl,h3⟩:=hasW_list h1
 obtain ⟨ns,rfl⟩:=items_int h3
 have hlen:ns.length<=n:=by
  unfold OpenLaw.pre at hc
  have h4:(WTm.not (.lt (.lit (.int (n:Int))) (.len (.arg 0)))).holds [] { args:=[.list (ns.map .int)] }=true:=by
   have h4:=(holds_andW hc).1
   rw [hn] at h4
   exact h4
  have h5:=condW_of h4 (w_not (w_lt w_lit (w_len_list (w_arg rfl))))
  rw [List.length_map] at h5
  refine Nat.le_of_not_lt fun q=>?_
  have q':(n:Int) < ((ns.length:Nat):Int):=by omega
  first
   | (rw [decide_eq_true q'] at h5;exact absurd h5 (by decide))
   | (simp at h5;omega)
 cases hwl with
 | cons w1 w2 =>
   cases w2
   cases w1 with
   | list ho hall=>exact ⟨_,_,ns,rfl,rfl,ho,ints_of_wellAll ns _ hall,hlen⟩
theorem post_true (l:OpenLaw) (args:List WData):l.row.toRowW.claim.post args (.bool true) args=true :=
 postW_of (r:=l.row.toRowW) (X:=(true == true))
  (show WShape.has [] (.bool true) .bool=true by first | rfl | decide | simp [WShape.has,WShape.arms,WShape.armsAll])
  (show (WTm.eq .res (.lit (.bool true))).value [] { args:=args,res:=some (.bool true),after:=args }=some (.bool (true == true)) from w_eq_bool (w_res rfl) w_lit) rfl
theorem attach_call {l:OpenLaw} {n:Nat} {q:Program} {loose:List Str} {XP:(Str->Option Value)->Heap->Prop} {YP:World->Heap->Prop} {d:DefRec}
 (hn:l.most=some n) (hdf:d.params.defaults=[])
 (call:∀(w:World) (s₀ s₁:Shared) (mg mb:Str->Option Value) (fa:Addr) (o:Obj) (pm cd doc:Value) (a:Addr) (vs:List Value) (ns:List Int),
  Ground q loose [] XP w s₀ mg mb s₁.heap->YP w s₁.heap ->
  s₁.heap.get? fa=some o->o.data=.func (docDef d.name d.params d.body d.scope pm cd doc)->s₁.heap.CodeRec cd d.name->mg d.name=some (.ref fa) ->
  s₁.heap.get? a=some { cls:=.type "list",data:=.seq vs.toArray }->IntsAre vs ns->ns.length<=n->s₁.gens=#[] ->
  codeAny (model l.prog w) callerA (.call (.ref fa) ⟨[.ref a],[]⟩) (fun r s'=>r=.ok (.ret (.bool true))/\OldK s₁.heap s'.heap/\s'.os=s₁.os/\AllBare s'.gens) s₁) :
 WalkO q loose XP YP l.row.toRowW d [] (fun f vs=>PySem.call f vs):=by
 intro w s₀ s₁ mg mb G Y fa o pm cd doc dV kV ho hd hcd hD hmg hg args vals as hpre hlay hrd hwl hlo
 obtain rfl:dV=.none:=Dflts.none hD hdf
 obtain rfl:kV=.none:=Dflts.noKw hD
 obtain ⟨a,vs,ns,rfl,rfl,hobj,hints,hlen⟩:=script_of hn hpre hwl
 refine enter_call (codeAny_mono (call w s₀ s₁ mg mb fa o pm cd doc a vs ns G Y ho (fd_plain hd) hcd hmg hobj hints hlen hg) fun r s' hq=>?_)
 obtain ⟨rfl,h2,h3,h4⟩:=hq
 exact ⟨.inl ⟨.bool true,.bool true,[],rfl,fun _=>rfl,.bool true,post_true l _,fun _=>⟨List.Pairwise.nil,fun _ hm=>(nomatch hm)⟩⟩,h2,h3,h4⟩
section
variable {prog:Program} {w:World} {A:Around} {E:Value->Shared->Prop} {s:Shared} {K:Frag}
end
end Att
namespace L2
open PySem PySem.Spec PyProof.Rows
theorem vals_ints:∀{vs:List Value} {ns:List Int},IntsAre vs ns->Vals (ns.map V.int) vs
 | _,_,.nil=>.nil
 | _,_,.cons n t h=>.cons ⟨t,rfl⟩ (vals_ints h)
noncomputable def Only (H:Hp):Prop:=∀b,H b=none\/∃o xs,H b=some (.frz o (.lst xs))
theorem law_call {P:Program} {w:World} {K:PySem.W.Frag} {mg mb:Str->Option Value} {CX:CXT} {k:Nat} {fa a:Addr} {fd:FuncData} {x:Str} {sp:Sp} {s₁:Shared} {vs:List Value} {ns:List Int}
 (KX:K.In s₁.heap) (hns:s₁.heap.Ns mainGlobals mg) (hb:s₁.heap.Ns builtinsNs mb) (hbb:∀x:Str,x≠"__name__"->mb x=bootBuiltins x) (hlim:s₁.heap.NoLimit) (hg:s₁.gens=#[])
 (ha:s₁.heap.get? a=some { cls:=.type "list",data:=.seq vs.toArray }) (hi:IntsAre vs ns) (hl:ns.length<=sizeLine) (hr:Room k callerA)
 (F:∀base:Heap,K.In base->base.Ns mainGlobals mg->FnOk P w K mg base CX k fa fd [x] sp) (hbind:∀(s:Shared) (u:Value),BindsTo s fd ⟨[u],[]⟩ [(x,u)])
 (hsp:∀H:Hp,Only H->SqL K H a (ns.map V.int)->sp [.ref a] H (fun v _=>v=.bl true) fun _ _ _=>False)
 (hCX:∀H e s',CX [] H s₁ (fun _ _ _=>False) e s'->False) :
 codeAny (model P w) callerA (.call (.ref fa) ⟨[.ref a],[]⟩) (fun r s'=>r=.ok (.ret (.bool true))/\OldK s₁.heap s'.heap/\s'.os=s₁.os/\AllBare s'.gens) s₁:=by
 have rv:=vals_ints hi
 have lenV:=hi.length
 have core:∀H:Hp,Only H->SqL K H a (ns.map V.int)->HOk P w H s₁.heap->(∀b,H b≠none->b=a)->(H a≠none->K.lookup a=none) ->
  codeAny (model P w) callerA (.call (.ref fa) ⟨[.ref a],[]⟩) (fun r s'=>r=.ok (.ret (.bool true))/\OldK s₁.heap s'.heap/\s'.os=s₁.os/\AllBare s'.gens) s₁:=by
  intro H hO hS hok hA hK
  have base_of:∀{b:Addr} {o:Obj},s₁.heap.get? b=some o->H b=none->(hidT s₁.heap H).get? b=some o:=fun e n=>hidT_get e n
  have noA:∀{b:Addr} {o:Obj} {es:Array DictEntry} {ep:Nat},s₁.heap.get? b=some o->o.data=.dict es ep->H b=none:=fun {b o es ep} e d=>by
   cases q:H b with
   | none=>rfl
   | some u =>
     have e':b=a:=hA b (by rw [q];simp)
     subst e'
     rw [ha] at e;cases e
     have d':Data.seq vs.toArray _=Data.dict es ep:=d
     cases d'
  have nsK:∀{b:Addr} {m:Str->Option Value},s₁.heap.Ns b m->(hidT s₁.heap H).Ns b m:=fun {b m} ⟨o,es,ep,e,d,r⟩=>⟨o,es,ep,base_of e (noA e d),d,r⟩
  have hKb:K.In (hidT s₁.heap H):=fun b o e=>base_of (KX b o e) (by
   cases q:H b with
   | none=>rfl
   | some u =>
     have e':b=a:=hA b (by rw [q];simp)
     subst e'
     rw [hK (by rw [q];simp)] at e;cases e)
  have hM:Mod K mg (hidT s₁.heap H):=⟨hKb,nsK hns,⟨mb,nsK hb,hbb⟩,let ⟨mc,h1,h2⟩:=hlim;⟨mc,nsK h1,h2⟩⟩
  have e0:Env0 P w K mg (hidT s₁.heap H) callerA [] s₁ H:=⟨rfl,hM,fun b o e=>of_hidT e,Nat.le_of_eq (hidT_size _ _),trivial,fun b hb=>absurd (show b∈([]:List Addr) from hb) (by simp),hok,.of_eq hg⟩
  refine codeAny_mono ((F _ hKb (nsK hns)).run callerA [] s₁ H ⟨[.ref a],[]⟩ [.ref a] [.ref a] _ _ hr e0 (hbind s₁ (.ref a)) (.cons rfl .nil) (hsp H hO hS)) fun r s' h=>?_
  cases r with
  | error e=>exact (hCX H e s' h).elim
  | ok fl =>
    cases fl with
    | next=>exact False.elim h
    | brk=>exact False.elim h
    | cont=>exact False.elim h
    | ret u =>
      obtain ⟨v,H',os,bare,un,hok',r',q⟩:=h
      have q':v=.bl true:=q
      subst q'
      obtain rfl:u=Value.bool true:=r'
      refine ⟨rfl,OldK.of_keep fun b o e=>?_,os,bare⟩
      cases q:H b with
      | none=>exact un.keep b o e q (by intro z;exact absurd (show b∈([]:List Addr) from z) (by simp)) (by simp)
      | some u =>
        rcases hO b with z | ⟨ob,xs,z⟩
        ·rw [q] at z;cases z
        ·have z2:=un.frzs b ob _ z
         obtain ⟨e1,_⟩:=hok b _ z
         obtain ⟨e2,_⟩:=hok' b _ z2
         rw [e] at e1;cases e1
         exact e2
 cases hk:K.lookup a with
 | some o =>
   have e:=KX a o hk
   rw [ha] at e
   cases e
   refine core (fun _=>none) (fun _=>.inl rfl) (.inr ⟨_,vs.toArray,_,hk,rfl,rfl,rfl,by rw [List.size_toArray,lenV];exact hl,by simpa using rv⟩) (fun b u z=>by have z':(none:Option HO)=some u:=z;cases z') (fun b z=>absurd rfl z) fun z=>absurd rfl z
 | none =>
   refine core (fun b=>if b=a then some (.frz { cls:=.type "list",data:=.seq vs.toArray } (.lst (ns.map V.int))) else none) (fun b=>?_) (.inl (.inr ⟨{ cls:=.type "list",data:=.seq vs.toArray },if_pos rfl⟩)) (fun b u z=>?_) (fun b z=>?_) fun _=>hk
   ·by_cases hb:b=a
    ·exact .inr ⟨_,_,if_pos hb⟩
    ·exact .inl (if_neg hb)
   ·by_cases hb:b=a
    ·have z':=(if_pos hb).symm.trans z
     cases z'
     subst hb
     exact ⟨ha,by rw [List.length_map];exact hl,vs,_,rv,ha⟩
    ·have z':=(if_neg hb).symm.trans z
     cases z'
   ·by_cases hb:b=a
    ·exact hb
    ·exact absurd (if_neg hb) z
end L2
namespace L2
open PySem PySem.Spec PyProof.Rows
theorem walk_of {l:PySem.W.OpenLaw} {n k:Nat} {q:Program} {loose:List Str} {XP:(Str->Option Value)->Heap->Prop} {YP:World->Heap->Prop} {d:DefRec} {K:Params->PySem.W.Frag} {CX:World->CXT} {sp:World->Sp} {x:Str}
 (hn:l.most=some n) (hn2:n<=sizeLine) (hdf:d.params.defaults=[]) (hr:Room k callerA)
 (hY:∀(w:World) (h:Heap),YP w h->(K w.params).In h)
 (F:∀(w:World) (mg:Str->Option Value) (fa:Addr) (h:Heap),(K w.params).In h->h.Ns mainGlobals mg->mg d.name=some (.ref fa) ->
  ∃fd:FuncData,(∀(s:Shared) (u:Value),BindsTo s fd ⟨[u],[]⟩ [(x,u)]) /\
   ∀base:Heap,(K w.params).In base->base.Ns mainGlobals mg->FnOk l.prog w (K w.params) mg base (CX w) k fa fd [x] (sp w))
 (hsp:∀(w:World) (H:Hp) (a:Addr) (ns:List Int),ns.length<=n->Only H->SqL (K w.params) H a (ns.map V.int)->sp w [.ref a] H (fun v _=>v=.bl true) fun _ _ _=>False)
 (hCX:∀(w:World) (H:Hp) (s:Shared) (e:Value) (s':Shared),CX w [] H s (fun _ _ _=>False) e s'->False) :
 PySem.W.WalkO q loose XP YP l.row.toRowW d [] (fun f vs=>PySem.call f vs):=by
 refine Att.attach_call hn hdf fun w s₀ s₁ mg mb fa o pm cd doc a vs ns G Y ho hd hcd hmg hobj hints hlen hg=>?_
 have KX:=hY w _ Y
 obtain ⟨fd,hb,hF⟩:=F w mg fa _ KX G.T.g hmg
 exact law_call KX G.T.g G.T.b G.T.builtins G.T.nolimit hg hobj hints (Nat.le_trans hlen hn2) hr hF hb (fun H hO hS=>hsp w H a ns hlen hO hS) fun H e s'=>hCX w H s₁ e s'
end L2
namespace L2
open PySem PySem.Spec PyProof.Rows
noncomputable def defArgs (s:Stmt):Arguments:=match s with
 | .FunctionDef _ a _ _ _ _ _ _ _ _=>a
 | _=>{ posonlyargs:=[],args:=[],vararg:=none,kwonlyargs:=[],kw_defaults:=[],kwarg:=none,defaults:=[] }
noncomputable def defBody (s:Stmt):List Stmt:=match s with
 | .FunctionDef _ _ b _ _ _ _ _ _ _=>b
 | _=>[]
noncomputable def defScope (s:Stmt):Scope:=match s with
 | .FunctionDef _ _ _ _ _ _ sc _ _ _=>sc
 | _=>{ kind:=.function,names:=[],isGenerator:=false,isCoroutine:=false }
abbrev CX0:CXT:=fun _ _ _ _ _ _=>False
abbrev E0:XK:=fun _ _ _=>False
theorem pass0 {X:Cx}:Passes CX0 X E0:=fun _ _ _ _ _ _ _ h=>h.elim
structure Fun (K:PySem.W.Frag) (x qual:Str) (st:Stmt) (f:Addr) (fd:FuncData):Prop where
 ex:∃(oc:Value) (od:Option Addr) (kV doc pm:Value) (an:Option Addr) (cdv ct:Value) (osl:Array (Option Value)),
  fd=PySem.W.fnOf x qual (defArgs st) (defBody st) (defScope st) .none kV doc pm an cdv ct/\K.lookup f=some ⟨oc,od,.func fd,osl⟩/\PySem.W.codeIn K cdv qual=true
 kp:PySem.W.keepIn K (.ref f)=true
section
variable {P:Program} {w:World} {K:PySem.W.Frag} {mg:Str->Option Value} {base:Heap}
theorem Fun.ok {x qual:Str} {st:Stmt} {f:Addr} {fd:FuncData} {N ps:List Str} {k:Nat} {sp:Sp} (F:Fun K x qual st f fd) (S:FnScope N ps (defScope st)) (len:∀vs H Q E,sp vs H Q E->vs.length=ps.length)
 (hbody:∀(cdv:Value) (A:Around) (outer:List Env) (s:Shared) (H:Hp) (vs:List V) (Q:VK) (E:XK),Room k (A.deeper (envOfC qual (defScope st) s.heap.objs.size f cdv))->sp vs H Q E ->
  ∃t,PSs (cxOf CX0 P w K mg base N qual (defScope st) f cdv A outer s H E).nox (defBody st) t/\t { nx:=fun _ H'=>Q .non H',rt:=Q } (start N vs) H):FnOk P w K mg base CX0 (k+1) f fd ps sp:=by
 obtain ⟨oc,od,kV,doc,pm,an,cdv,ct,osl,rfl,lk,hcd⟩:=F.ex
 refine fn_of lk hcd S len fun A outer s H vs Q E hr hsp=>?_
 obtain ⟨t,h,q⟩:=hbody cdv A outer s H vs Q E hr hsp
 exact ⟨t,h.nox,q⟩
theorem fun_mk {x qual:Str} {st:Stmt} {f:Addr} {oc:Value} {od an:Option Addr} {osl:Array (Option Value)} {kV doc pm cdv ct:Value} (l:K.lookup f=some ⟨oc,od,.func (PySem.W.fnOf x qual (defArgs st) (defBody st) (defScope st) .none kV doc pm an cdv ct),osl⟩)
 (c:PySem.W.codeIn K cdv qual=true) (k:PySem.W.keepIn K (.ref f)=true):Fun K x qual st f (PySem.W.fnOf x qual (defArgs st) (defBody st) (defScope st) .none kV doc pm an cdv ct):=⟨⟨oc,od,kV,doc,pm,an,cdv,ct,osl,rfl,l,c⟩,k⟩
end
theorem small1000 {n:Nat} (h:n<=1000):n < sizeLine:=Nat.lt_of_le_of_lt h (by decide)
section
variable {X:Cx}
theorem pv (i:Nat) {x:Str} {pos:Pos} (hN:X.N[i]?=some x:=by rfl) (hv:Vis X.env.scope x:=by first | exact Or.inl rfl | exact Or.inr (Or.inl rfl) | exact Or.inr (Or.inr rfl)) (hd:(x == ("__debug__":Str))=false:=by decide)
 (hcd:(x == ("__classdict__":Str))=false:=by decide):PE X (.Name x pos) (tVar i):=pe_var hN hv hd hcd
end
theorem iteF {A B:Prop} (h:B):if false=true then A else B:=by
 rw [if_neg Bool.false_ne_true]
 exact h
theorem iteT {A B:Prop} (h:A):if true=true then A else B:=by
 rw [if_pos rfl]
 exact h
theorem ite2 {c A B:Prop} [Decidable c] (h1:c->A) (h2:¬ c->B):if c then A else B:=by
 by_cases h:c
 ·rw [if_pos h]
  exact h1 h
 ·rw [if_neg h]
  exact h2 h
noncomputable def Same (H H':Hp):Prop:=∀b o,H b=some o->H' b=some o
theorem Same.trans {H H1 H2:Hp} (a:Same H H1) (b:Same H1 H2):Same H H2:=fun c o h=>b c o (a c o h)
theorem Same.seq {K:PySem.W.Frag} {H H':Hp} {a:Addr} {xs:List V} (e:Same H H') (h:SqL K H a xs):SqL K H' a xs:=by
 rcases h with (h | ⟨o,h⟩) | h
 ·exact .inl (.inl (e _ _ h))
 ·exact .inl (.inr ⟨o,e _ _ h⟩)
 ·exact .inr h
end L2
namespace L2
open PySem PySem.Spec PyProof.Rows
section
variable {κ:Type} [DecidableEq κ]
noncomputable def valV (kvs:List (κ × V)) (k:κ):Option V:=(kvs.find? fun kv=>decide (kv.1=k)).map (·.2)
noncomputable def putK (kvs:List (κ × V)) (k:κ) (v:V):List (κ × V) :=
 if (kvs.any fun kv=>decide (kv.1=k))=true then kvs.map (fun kv=>if kv.1=k then (kv.1,v) else kv) else kvs++[(k,v)]
theorem valV_pos {p:κ × V} {r:List (κ × V)} {k:κ} (e:p.1=k):valV (p :: r) k=some p.2:=by simp [valV,List.find?_cons,e]
theorem valV_neg {p:κ × V} {r:List (κ × V)} {k:κ} (e:¬ p.1=k):valV (p :: r) k=valV r k:=by simp [valV,List.find?_cons,e]
theorem valV_any (k:κ):∀kvs:List (κ × V),(kvs.any fun kv=>decide (kv.1=k))=(valV kvs k).isSome
 | []=>rfl
 | p :: r=>by
   rw [List.any_cons]
   by_cases e:p.1=k
   ·simp only [valV_pos e,decide_eq_true e,Bool.true_or,Option.isSome_some]
   ·rw [valV_neg e,decide_eq_false e,Bool.false_or];exact valV_any k r
theorem valV_map (k j:κ) (y:V):∀kvs:List (κ × V),valV (kvs.map fun kv=>if kv.1=k then (kv.1,y) else kv) j=(valV kvs j).map fun x=>if j=k then y else x
 | []=>rfl
 | p :: r=>by
   have ih:=valV_map k j y r
   rw [List.map_cons]
   by_cases h:p.1=k
   ·rw [if_pos h]
    by_cases e:p.1=j
    ·rw [valV_pos (p:=(p.1,y)) e,valV_pos e,Option.map_some,if_pos (e.symm.trans h)]
    ·rw [valV_neg (p:=(p.1,y)) e,valV_neg e,ih]
   ·rw [if_neg h]
    by_cases e:p.1=j
    ·rw [valV_pos (p:=p) e,valV_pos e,Option.map_some,if_neg (fun z=>h (e.trans z))]
    ·rw [valV_neg (p:=p) e,valV_neg e,ih]
theorem valV_snoc (k j:κ) (y:V):∀kvs:List (κ × V),valV kvs k=none->valV (kvs++[(k,y)]) j=if j=k then some y else valV kvs j
 | [],_=>by
   by_cases e:k=j
   ·rw [if_pos e.symm];exact valV_pos (p:=(k,y)) e
   ·rw [if_neg (fun z=>e z.symm)];exact valV_neg (p:=(k,y)) e
 | p :: r,hn=>by
   rw [List.cons_append]
   have hk:¬ p.1=k:=fun z=>by rw [valV_pos z] at hn;cases hn
   rw [valV_neg hk] at hn
   have ih:=valV_snoc k j y r hn
   by_cases e:p.1=j
   ·rw [valV_pos e,valV_pos e,if_neg (fun z=>hk (e.trans z))]
   ·rw [valV_neg e,valV_neg e,ih]
theorem valV_put (kvs:List (κ × V)) (k j:κ) (y:V):valV (putK kvs k y) j=if j=k then some y else valV kvs j:=by
 unfold putK
 by_cases a:(kvs.any fun kv=>decide (kv.1=k))=true
 ·rw [if_pos a,valV_map]
  rw [valV_any] at a
  by_cases e:j=k
  ·obtain ⟨x,hx⟩:=Option.isSome_iff_exists.mp a
   rw [if_pos e,e,hx,Option.map_some,if_pos rfl]
  ·rw [if_neg e]
   cases valV kvs j with
   | none=>rfl
   | some x=>rw [Option.map_some,if_neg e]
 ·rw [if_neg a]
  refine valV_snoc k j y kvs ?_
  rw [valV_any] at a
  cases q:valV kvs k with
  | none=>rfl
  | some x=>rw [q] at a;exact (a rfl).elim
theorem length_putK (kvs:List (κ × V)) (k:κ) (v:V):(putK kvs k v).length<=kvs.length+1:=by
 unfold putK
 split
 ·rw [List.length_map];omega
 ·rw [List.length_append,List.length_cons,List.length_nil];omega
theorem putK_new {kvs:List (κ × V)} {k:κ} (v:V) (h:valV kvs k=none):putK kvs k v=kvs++[(k,v)]:=by
 unfold putK
 rw [valV_any,h]
 exact if_neg (by decide)
theorem RelO.isSome_eq {o:Option V} {u:Option Value} (r:RelO o u):o.isSome=u.isSome:=by
 cases o with
 | none=>cases u with
   | none=>rfl
   | some _=>exact (show False from r).elim
 | some _=>cases u with
   | none=>exact (show False from r).elim
   | some _=>rfl
theorem RelO.getD {o:Option V} {u:Option Value} {d:V} {d':Value} (r:RelO o u) (rd:RelV d d'):RelV (o.getD d) (u.getD d'):=by
 cases o with
 | none=>cases u with
   | none=>exact rd
   | some _=>exact (show False from r).elim
 | some _=>cases u with
   | none=>exact (show False from r).elim
   | some _=>exact r
theorem KV.val {kvs:List (κ × V)} {vs:List (κ × Value)} (r:KV kvs vs) (k:κ):RelO (valV kvs k) (valueAt vs k):=by
 unfold KV at r
 induction r with
 | nil=>exact True.intro
 | @cons p q ps qs h t ih =>
   obtain ⟨h1,h2⟩:=h
   by_cases e:p.1=k
   ·have e':q.1=k:=h1.symm.trans e
    have b:valueAt (q :: qs) k=some q.2:=by simp [valueAt,List.find?_cons,e']
    rw [valV_pos e,b];exact h2
   ·have e':¬ q.1=k:=fun z=>e (h1.trans z)
    have b:valueAt (q :: qs) k=valueAt qs k:=by simp [valueAt,List.find?_cons,e']
    rw [valV_neg e,b];exact ih
theorem KV.any {kvs:List (κ × V)} {vs:List (κ × Value)} (r:KV kvs vs) (k:κ):(kvs.any fun kv=>decide (kv.1=k))=vs.any fun kv=>decide (kv.1=k):=by
 unfold KV at r
 induction r with
 | nil=>rfl
 | cons h t ih=>rw [List.any_cons,List.any_cons,ih,h.1]
theorem KV.repl {kvs:List (κ × V)} {vs:List (κ × Value)} (r:KV kvs vs) (k:κ) {y:V} {u:Value} (ry:RelV y u) :
 KV (kvs.map fun kv=>if kv.1=k then (kv.1,y) else kv) (vs.map fun kv=>if kv.1=k then (kv.1,u) else kv):=by
 unfold KV at r ⊢
 induction r with
 | nil=>exact .nil
 | @cons p q ps qs h t ih =>
   rw [List.map_cons,List.map_cons]
   refine .cons ?_ ih
   obtain ⟨h1,h2⟩:=h
   by_cases e:p.1=k
   ·rw [if_pos e,if_pos (h1.symm.trans e)];exact ⟨h1,ry⟩
   ·rw [if_neg e,if_neg (fun z=>e (h1.trans z))];exact ⟨h1,h2⟩
theorem KV.put {kvs:List (κ × V)} {vs:List (κ × Value)} (r:KV kvs vs) (k:κ) {y:V} {u:Value} (ry:RelV y u):KV (putK kvs k y) (stored vs k u):=by
 unfold putK stored
 rw [r.any k]
 by_cases e:(vs.any fun kv=>decide (kv.1=k))=true
 ·rw [if_pos e,if_pos e];exact r.repl k ry
 ·rw [if_neg e,if_neg e];exact Paired.snoc r ⟨rfl,ry⟩
theorem KV.keys {kvs:List (κ × V)} {vs:List (κ × Value)} (r:KV kvs vs):kvs.map (·.1)=vs.map (·.1):=by
 unfold KV at r
 induction r with
 | nil=>rfl
 | cons h t ih=>rw [List.map_cons,List.map_cons,ih,h.1]
theorem KV.length {kvs:List (κ × V)} {vs:List (κ × Value)} (r:KV kvs vs):kvs.length=vs.length:=Paired.length r
end
theorem kV_is {P:Program} {w:World} {k:Key} {u:Value} (r:RelV (kV k) u):(mixKind P w).is k u=true:=by
 cases k with
 | inl i=>obtain ⟨t,e⟩:=(show ∃t,u=Value.int i t from r);subst e;exact mixKind_int P w i t
 | inr x=>obtain ⟨t,e⟩:=(show ∃t,u=Value.str x t from r);subst e;exact mixKind_str P w x t
theorem items_are {P:Program} {w:World}:∀{ks:List Key} {us:List Value},Vals (ks.map kV) us->ItemsAre (mixKind P w) ks us
 | [],_,r=>by rw [List.map_nil] at r;cases r;exact .nil
 | k :: ks,_,r=>by
   rw [List.map_cons] at r
   cases r with
   | cons h t=>exact .cons (kV_is h) (items_are t)
abbrev KT (H:Hp):List (List Key × V)->List (List Key × Addr × Value)->Prop:=Paired fun p q=>p.1=q.1/\H q.2.1=some (.tup (p.1.map kV))/\RelV p.2 q.2.2
theorem KT.val {H:Hp} {kvs:List (List Key × V)} {xs:List (List Key × Addr × Value)} (r:KT H kvs xs) (k:List Key):RelO (valV kvs k) ((atKey xs k).map (·.2)):=by
 induction r with
 | nil=>exact True.intro
 | @cons p q ps qs h t ih =>
   obtain ⟨h1,_,h2⟩:=h
   by_cases e:p.1=k
   ·have e':q.1=k:=h1.symm.trans e
    have b:atKey (q :: qs) k=some q.2:=by simp [atKey,List.find?_cons,e']
    rw [valV_pos e,b];exact h2
   ·have e':¬ q.1=k:=fun z=>e (h1.trans z)
    have b:atKey (q :: qs) k=atKey qs k:=by simp [atKey,List.find?_cons,e']
    rw [valV_neg e,b];exact ih
theorem KT.repl {H:Hp} {kvs:List (List Key × V)} {xs:List (List Key × Addr × Value)} (r:KT H kvs xs) (k:List Key) {y:V} {u:Value} (ry:RelV y u) :
 KT H (kvs.map fun kv=>if kv.1=k then (kv.1,y) else kv) (xs.map (putAt k u)):=by
 induction r with
 | nil=>exact .nil
 | @cons p q ps qs h t ih =>
   rw [List.map_cons,List.map_cons]
   refine .cons ?_ ih
   obtain ⟨h1,h2,h3⟩:=h
   unfold putAt
   by_cases e:p.1=k
   ·rw [if_pos e,if_pos (h1.symm.trans e)];exact ⟨h1,h2,ry⟩
   ·rw [if_neg e,if_neg (fun z=>e (h1.trans z))];exact ⟨h1,h2,h3⟩
theorem KT.put {H:Hp} {kvs:List (List Key × V)} {xs:List (List Key × Addr × Value)} (r:KT H kvs xs) (k:List Key) {b:Addr} {y:V} {u:Value} (hb:H b=some (.tup (k.map kV))) (ry:RelV y u) :
 KT H (putK kvs k y) (storedH xs k b u):=by
 have e:(kvs.any fun kv=>decide (kv.1=k))=(atKey xs k).isSome:=by
  rw [valV_any,(r.val k).isSome_eq,Option.isSome_map]
 unfold putK storedH
 rw [e]
 by_cases q:(atKey xs k).isSome=true
 ·rw [if_pos q,if_pos q];exact r.repl k ry
 ·rw [if_neg q,if_neg q];exact Paired.snoc r ⟨rfl,hb,ry⟩
theorem KT.keeps {H H':Hp} {kvs:List (List Key × V)} {xs:List (List Key × Addr × Value)} (r:KT H kvs xs) (ht:∀b ys,H b=some (.tup ys)->H' b=some (.tup ys)):KT H' kvs xs :=
 Paired.mapP r fun _ _ z=>⟨z.1,ht _ _ z.2.1,z.2.2⟩
section
variable {P:Program} {w:World} {H:Hp} {h:Heap} {a:Addr}
theorem rd_of {u:HO} (ok:HOk P w H h) (e:Rd H a u):ObjOk P w H h a u:=e.ok ok
theorem dk_rd {kvs:List (Key × V)} (ok:HOk P w H h) (e:Rd H a (.dK kvs)):kvs.length<=sizeLine/\(a == sysModules)=false/\∃vs,KV kvs vs/\h.DictOf (mixKind P w) a vs :=
 show ObjOk P w H h a (.dK kvs) from rd_of ok e
theorem dk_of {kvs:List (Key × V)} (ok:HOk P w H h) (e:H a=some (.dK kvs)):kvs.length<=sizeLine/\(a == sysModules)=false/\∃vs,KV kvs vs/\h.DictOf (mixKind P w) a vs:=dk_rd ok (.inl e)
theorem key_of {ks:List Key} (ok:HOk P w H h) (e:H a=some (.tup (ks.map kV))):(tupleKind (mixKind P w)).is h ks a:=by
 obtain ⟨_,its,r,o,h1,h2,n,h3⟩:=(show ObjOk P w H h a (.tup (ks.map kV)) from ok a _ e)
 exact ⟨o,its.toArray,n,h1,h2,h3,by simpa using items_are r⟩
theorem dt_rd {kvs:List (List Key × V)} (ok:HOk P w H h) (e:Rd H a (.dT kvs)):kvs.length<=sizeLine/\(a == sysModules)=false /\
 ∃xs,KT H kvs xs/\h.DictOfH (tupleKind (mixKind P w)) a xs:=by
 obtain ⟨z,y,xs,r,o,es,ep,h1,h2,h3,h4,h5⟩:=(show ObjOk P w H h a (.dT kvs) from rd_of ok e)
 refine ⟨z,y,xs,r,o,es,ep,h1,h2,h3,h4,fun x hx=>?_,h5⟩
 have all:∀{l:List (List Key × V)} {m:List (List Key × Addr × Value)},KT H l m->∀x∈m,(tupleKind (mixKind P w)).is h x.1 x.2.1:=by
  intro l m q
  induction q with
  | nil=>intro x hx;exact nomatch hx
  | @cons p q ps qs hq t ih =>
    intro x hx
    rcases List.mem_cons.mp hx with e | hx
    ·subst e
     exact key_of ok (by rw [<- hq.1];exact hq.2.1)
    ·exact ih x hx
 exact all r x hx
theorem dt_of {kvs:List (List Key × V)} (ok:HOk P w H h) (e:H a=some (.dT kvs)):kvs.length<=sizeLine/\(a == sysModules)=false /\
 ∃xs,KT H kvs xs/\h.DictOfH (tupleKind (mixKind P w)) a xs:=dt_rd ok (.inl e)
end
noncomputable def DGet (H:Hp) (a:Addr) (y:V) (r:Option V):Prop :=
 (∃kvs k,Rd H a (.dK kvs)/\y=kV k/\r=valV kvs k)\/∃kvs k b,Rd H a (.dT kvs)/\y=.ref b/\H b=some (.tup (k.map kV))/\r=valV kvs k
noncomputable def DPut (H:Hp) (a:Addr) (y v:V) (H':Hp):Prop :=
 (∃kvs k,H a=some (.dK kvs)/\y=kV k/\kvs.length < sizeLine/\H'=upd H a (.dK (putK kvs k v))) \/
 ∃kvs k b,H a=some (.dT kvs)/\y=.ref b/\H b=some (.tup (k.map kV))/\kvs.length < sizeLine/\H'=upd H a (.dT (putK kvs k v))
theorem DGet.k {H:Hp} {a:Addr} {kvs:List (Key × V)} {k:Key} (e:H a=some (.dK kvs)):DGet H a (kV k) (valV kvs k):=.inl ⟨kvs,k,.inl e,rfl,rfl⟩
theorem DGet.t {H:Hp} {a b:Addr} {kvs:List (List Key × V)} {k:List Key} (e:H a=some (.dT kvs)) (eb:H b=some (.tup (k.map kV))):DGet H a (.ref b) (valV kvs k):=.inr ⟨kvs,k,b,.inl e,rfl,eb,rfl⟩
theorem DPut.k {H:Hp} {a:Addr} {kvs:List (Key × V)} {k:Key} {v:V} (e:H a=some (.dK kvs)) (hl:kvs.length < sizeLine):DPut H a (kV k) v (upd H a (.dK (putK kvs k v))):=.inl ⟨kvs,k,e,rfl,hl,rfl⟩
theorem DPut.t {H:Hp} {a b:Addr} {kvs:List (List Key × V)} {k:List Key} {v:V} (e:H a=some (.dT kvs)) (eb:H b=some (.tup (k.map kV))) (hl:kvs.length < sizeLine) :
 DPut H a (.ref b) v (upd H a (.dT (putK kvs k v))):=.inr ⟨kvs,k,b,e,rfl,eb,hl,rfl⟩
section
variable {X:Cx} {pins:List (Addr × Obj)} {σ:St} {H:Hp} {s:Shared} {a:Addr} {y v:V} {u r:Value} {o:Option V} {A:Around} {E:Value->Shared->Prop}
theorem Inv.big (I:Inv X pins σ H s):sysModules < s.heap.objs.size:=by
 have h:mainGlobals < s.heap.objs.size:=(I.mod.glob.keeps I.bk).lt
 exact Nat.lt_trans (by decide) h
theorem d_getItem {Q:Value->Shared->Prop} (hu:A.units+1 < cLine) (I:Inv X pins σ H s) (g:DGet H a y (some v)) (ry:RelV y u) (h:∀w' s',Inv X pins σ H s'->RelV v w'->Q w' s') :
 wpAny (model X.prog X.w) A (getItem (.ref a) u) Q E s:=by
 rcases g with ⟨kvs,k,e,ey,l⟩ | ⟨kvs,k,b,e,ey,eb,l⟩
 ·subst ey
  obtain ⟨z,hd,vs,rel,dd⟩:=dk_rd I.hok e
  obtain ⟨w',hw,rw'⟩:=RelO.some_of (v:=v) (o:=valueAt vs k) (by rw [l];exact rel.val k)
  exact wpAny_getItem_of (kV_is ry) dd.mapOf hw (h w' _ (I.tok _) rw')
 ·subst ey
  cases (show u=Value.ref b from ry)
  obtain ⟨z,hd,xs,rel,dd⟩:=dt_rd I.hok e
  obtain ⟨w',hw,rw'⟩:=RelO.some_of (v:=v) (o:=(atKey xs k).map (·.2)) (by rw [l];exact rel.val k)
  obtain ⟨p,hp,hp2⟩:=Option.map_eq_some_iff.mp hw
  refine wpAny_getItem_heap (tupleKind_room_in1 hu) (key_of I.hok eb) dd hp ?_
  rw [hp2]
  exact h w' _ (I.tok _) rw'
theorem d_write {h':Heap} {t':Nat} {ob:HO} (I:Inv X pins σ H s) (mu:Mut (H a)) (hs:Heap.SameBut a s.heap h') (he:∃q,h'.get? a=some q) (new:ObjOk X.prog X.w (upd H a ob) h' a ob) :
 Inv X pins σ (upd H a ob) { s with heap:=h',toks:=t' } :=
 I.write (x:=a) (e:=a) mu (.inl rfl) (fun b q hb z=>(hs.2 b hb).trans z) he new
theorem dk_new {P:Program} {w:World} {H':Hp} {h':Heap} {kvs:List (Key × V)} {vs:List (Key × Value)} (z:kvs.length<=sizeLine) (hd:(a == sysModules)=false) (rel:KV kvs vs) (dd:h'.DictOf (mixKind P w) a vs) :
 ObjOk P w H' h' a (.dK kvs):=⟨z,hd,vs,rel,dd⟩
theorem d_setItem {H':Hp} {Q:Unit->Shared->Prop} (hu:A.units+1 < cLine) (I:Inv X pins σ H s) (g:DPut H a y v H') (ry:RelV y u) (rv:RelV v r) (h:∀s',Inv X pins σ H' s'->Q () s') :
 wpAny (model X.prog X.w) A (setItem (.ref a) u r) Q E s:=by
 rcases g with ⟨kvs,k,e,ey,l,eH⟩ | ⟨kvs,k,b,e,ey,eb,l,eH⟩
 ·subst ey eH
  obtain ⟨z,hd,vs,rel,dd⟩:=dk_of I.hok e
  have hz:vs.length<=sizeLine:=by rw [<- rel.length];exact z
  have hl:(putK kvs k v).length<=sizeLine:=by have:=length_putK kvs k v;omega
  refine wpAny_setItem_pairs (hsz:=hz) (kV_is ry) dd fun h' dd' hs=>h _ ?_
  have he:∃q,h'.get? a=some q:=let ⟨q,_,_,hq,_⟩:=dd';⟨q,hq⟩
  exact d_write I (by rw [e];exact True.intro) hs he (dk_new hl hd (rel.put k rv) dd')
 ·subst ey eH
  cases (show u=Value.ref b from ry)
  obtain ⟨z,hd,xs,rel,dd⟩:=dt_of I.hok e
  have hz:xs.length<=sizeLine:=by rw [<- Paired.length rel];exact z
  have hl:(putK kvs k v).length<=sizeLine:=by have:=length_putK kvs k v;omega
  refine wpAny_setItem_heap (hsz:=hz) (tupleKind_room_in1 hu) (key_of I.hok eb) dd fun h' dd' hs=>h _ ?_
  obtain ⟨q,es,ep,hq,h2,h3,h4,_,h5⟩:=dd'
  refine d_write I (by rw [e];exact True.intro) hs ⟨q,hq⟩ ⟨hl,hd,_,(rel.put k eb rv).keeps fun c ys ec=>?_,q,es,ep,hq,h2,h3,h4,h5⟩
  rw [upd_ne (ne_of ec e (fun z=>nomatch z))]
  exact ec
end
section
variable {X:Cx} {pins:List (Addr × Obj)} {σ:St} {H:Hp} {s:Shared} {a:Addr} {kvs:List (Key × V)} {k:Key} {u:Value} {A:Around} {E:Value->Shared->Prop}
end
noncomputable def NoSl (i:Expr):Prop:=∀ov iv,subscripted i false ov iv=operate [ov,iv] (getItem ov iv)
theorem subD_of {prog:Program} {w:World} {A:Around} {E:Value->Shared->Prop} {s:Shared} {env:Env} {value slice:Expr} {pos:Pos} {T id:String} {Q:Value->Shared->Prop}
 (hl:typeLookup (.type T) "__getitem__"=pure (some (.builtin id))) (hs:NoSl slice)
 (h:wpAny (model prog w) A (eval value env) (fun o s₁=>wpAny (model prog w) A (eval slice env) (fun i s₂=>s₂.TypeIs o T/\wpAny (model prog w) A (getItem o i) Q E s₂) E s₁) E s) :
 wpAny (model prog w) A (eval (.Subscript value slice pos) env) Q E s:=by
 refine Subscript_ (wpAny_mono h (fun o s₁ h₁=>wpAny_mono h₁ (fun i s₂ h₂=>?_) fun _ _ x=>x) fun _ _ x=>x)
 obtain ⟨hT,h₂⟩:=h₂
 unfold subscriptTail
 refine wpAny_bind ?_
 rw [getitemInPython_of_ne hT.not_modules]
 refine wpAny_bind (wpAny_specialOf hT hl ?_)
 have fin:wpAny (model prog w) A (subscripted slice false o i) (fun r s₃=>wpAny (model prog w) A (letTemporaryGo value o r >>= fun _=>pure r) Q E s₃) E s₂:=by
  rw [hs o i]
  exact wpAny_operating (wpAny_mono h₂ (fun r s₃ h₃=>wpAny_bind (wpAny_letTemporaryGo (wpAny_pure h₃))) fun _ _ x=>x)
 first
  | exact wpAny_pure (wpAny_bind fin)
  | exact wpAny_bind (wpAny_pure (wpAny_bind fin))
  | exact wpAny_bind fin
theorem dict_typeIs {X:Cx} {pins:List (Addr × Obj)} {σ:St} {H:Hp} {s:Shared} {a:Addr} {y:V} {o:Option V} (I:Inv X pins σ H s) (g:DGet H a y o):s.TypeIs (.ref a) "dict":=by
 rcases g with ⟨kvs,k,e,_,_⟩ | ⟨kvs,k,b,e,_,_,_⟩
 ·obtain ⟨_,_,vs,_,dd⟩:=dk_rd I.hok e
  exact dd.typeIs
 ·obtain ⟨_,_,xs,_,dd⟩:=dt_rd I.hok e
  exact dd.typeIs
noncomputable def tDGet (td ty:TE):TE:=fun σ H Q=>td σ H fun x H1=>ty σ H1 fun y H2=>∃a v,x=.ref a/\DGet H2 a y (some v)/\Q v H2
noncomputable def sDPut (td ty tv:TE):TS:=fun D σ H=>tv σ H fun v H1=>td σ H1 fun x H2=>ty σ H2 fun y H3=>∃a H4,x=.ref a/\DPut H3 a y v H4/\D.nx σ H4
section
variable {X:Cx} {o i e value:Expr} {pos pos' tpos:Pos} {td ty tv:TE}
theorem pe_dget (hu:X.A.units+1 < cLine) (ho:PE X o td) (hi:PE X i ty) (hs:NoSl i):PE X (.Subscript o i pos) (tDGet td ty):=by
 intro pins s σ H Q I h
 refine subD_of PySem.F.slot_dict_getitem.lookup hs (thn (ho pins s σ H _ I h) fun u s1 ⟨x,H1,I1,rx,q1⟩=>thn (hi pins s1 σ H1 _ I1 q1) fun iv s2 ⟨y,H2,I2,ry,a,v,ex,g,q2⟩=>?_)
 subst ex
 obtain rfl:u=Value.ref a:=rx
 exact ⟨dict_typeIs I2 g,d_getItem hu I2 g ry fun w' s3 I3 rw'=>⟨v,H2,I3,rw',q2⟩⟩
theorem ps_dput (hu:X.A.units+1 < cLine) (ho:PE X o td) (hi:PE X i ty) (hv:PE X value tv) (hs:swapsWith value (some (.Subscript o i pos')) pos.line X.env=pure false) :
 PS X (.Assign [.Subscript o i pos'] value pos) (sDPut td ty tv):=by
 intro pins s σ H D I h
 refine wpAny_Assign_Subscript (thn (hv pins s σ H _ I h) fun r s1 ⟨v,H1,I1,rv,q1⟩=>thn (ho pins s1 σ H1 _ I1 q1) fun u s2 ⟨x,H2,I2,rx,q2⟩=>thn (hi pins s2 σ H2 _ I2 q2) fun iv s3 ⟨y,H3,I3,ry,a,H4,ex,g,q3⟩=>?_) hs
 subst ex
 obtain rfl:u=Value.ref a:=rx
 exact d_setItem hu I3 g ry rv fun s4 I4=>⟨σ,H4,I4,q3⟩
end
theorem dk_empty {P:Program} {w:World} {H:Hp} (h:Heap) (hb:sysModules < h.objs.size):ObjOk P w H (h.push { cls:=.type "dict",data:=.dict #[] }) h.objs.size (.dK []) :=
 ⟨Nat.zero_le _,beq_eq_false_iff_ne.mpr (Ne.symm (Nat.ne_of_lt hb)),[],.nil,Heap.DictOf.new h⟩
theorem dt_empty {P:Program} {w:World} {H:Hp} (h:Heap) (hb:sysModules < h.objs.size):ObjOk P w H (h.push { cls:=.type "dict",data:=.dict #[] }) h.objs.size (.dT []) :=
 ⟨Nat.zero_le _,beq_eq_false_iff_ne.mpr (Ne.symm (Nat.ne_of_lt hb)),[],.nil,_,#[],0,Heap.get?_push_size _ rfl,⟨rfl,rfl,rfl⟩,rfl,rfl,List.nodup_nil⟩
noncomputable def tDNewK:TE:=fun _ H Q=>∀p,H p=none->Q (.ref p) (upd H p (.dK []))
noncomputable def tDNewT:TE:=fun _ H Q=>∀p,H p=none->Q (.ref p) (upd H p (.dT []))
section
variable {X:Cx} {pos:Pos}
theorem pe_dnewK:PE X (.Dict [] [] pos) tDNewK:=fun pins s σ H Q I h =>
 wpAny_Dict_empty ⟨.ref s.heap.objs.size,_,I.laid (a:=s.heap.objs.size) (o:=.dK []) (t':=s.toks) (fun _ _ q=>Heap.get?_push_of_some _ q) (Nat.le_refl _) (dk_empty s.heap I.big),rfl,h _ (I.hok.fresh (Nat.le_refl _))⟩
theorem pe_dnewT:PE X (.Dict [] [] pos) tDNewT:=fun pins s σ H Q I h =>
 wpAny_Dict_empty ⟨.ref s.heap.objs.size,_,I.laid (a:=s.heap.objs.size) (o:=.dT []) (t':=s.toks) (fun _ _ q=>Heap.get?_push_of_some _ q) (Nat.le_refl _) (dt_empty s.heap I.big),rfl,h _ (I.hok.fresh (Nat.le_refl _))⟩
end
structure M2 (X:Cx) (o:Expr) (m:Str) (apos:Pos) (e f:Expr) (cpos:Pos):Prop where
 base:attributeBase o m X.env (eval o X.env)=eval o X.env
 few:((backTo cpos (starEach [e,f] X.env)).all (fun x=>!x.1) && (backToKw cpos (keywordEach [] X.env)).all (fun x=>x.1.isSome)
  && decide (([e,f]:List Expr).length+([]:List Keyword).length+(if ([]:List Keyword).isEmpty then 0 else 1) < 30))=true
 line:(apos.endLine == cpos.line)=true
 trees:backTo cpos (starEach [e,f] X.env)=[(false,eval e X.env),(false,eval f X.env)]
noncomputable def IsD (H:Hp) (a:Addr):Prop:=(∃kvs,Rd H a (.dK kvs))\/∃kvs,Rd H a (.dT kvs)
theorem isD_at {X:Cx} {pins:List (Addr × Obj)} {σ:St} {H:Hp} {s:Shared} {a:Addr} (I:Inv X pins σ H s) (d:IsD H a) :
 s.TypeIs (.ref a) "dict"/\(∀b,Value.ref a=.ref b->∃ob,s.heap.get? b=some ob/\ob.dict=none)/\(a == sysModules)=false:=by
 rcases d with ⟨kvs,e⟩ | ⟨kvs,e⟩
 ·obtain ⟨_,hd,vs,_,dd⟩:=dk_rd I.hok e
  refine ⟨dd.typeIs,fun b q=>?_,hd⟩
  cases q
  obtain ⟨ob,_,_,h1,h2,_⟩:=dd
  exact ⟨ob,h1,h2.2.1⟩
 ·obtain ⟨_,hd,xs,_,dd⟩:=dt_rd I.hok e
  refine ⟨dd.typeIs,fun b q=>?_,hd⟩
  cases q
  obtain ⟨ob,_,_,h1,h2,_⟩:=dd
  exact ⟨ob,h1,h2.2.1⟩
section
variable {X:Cx} {pins:List (Addr × Obj)} {σ:St} {H:Hp} {s:Shared} {a:Addr} {y d:V} {u r:Value} {o:Option V} {A:Around} {E:Value->Shared->Prop}
theorem d_get2 {Q:Value->Shared->Prop} (hu:A.units+1 < cLine) (I:Inv X pins σ H s) (g:DGet H a y o) (ry:RelV y u) (rd:RelV d r) (h:∀w' s',Inv X pins σ H s'->RelV (o.getD d) w'->Q w' s') :
 wpAny (model X.prog X.w) A (call (.builtin "dict.get") [.ref a,u,r]) Q E s:=by
 rcases g with ⟨kvs,k,e,ey,l⟩ | ⟨kvs,k,b,e,ey,eb,l⟩
 ·subst ey
  obtain ⟨z,hd,vs,rel,dd⟩:=dk_rd I.hok e
  refine call_meetsIn PySem.F.slot_dict_get dd.typeIs PySem.F.entry_dict_get (PySem.F.args_dict_get_3 _ _ _) (meets_dict_get_default (mixKind X.prog X.w) a (kV_is ry) hd r) ⟨_,dd.mapOf,h _ _ (I.tok _) ?_⟩
  rw [l]
  exact (rel.val k).getD rd
 ·subst ey
  cases (show u=Value.ref b from ry)
  obtain ⟨z,hd,xs,rel,dd⟩:=dt_rd I.hok e
  refine call_meetsIn PySem.F.slot_dict_get dd.typeIs PySem.F.entry_dict_get (PySem.F.args_dict_get_3 _ _ _) (meetsH_dict_get_default (tupleKind (mixKind X.prog X.w)) a b hd r) ⟨tupleKind_room_in1 hu,k,xs,key_of I.hok eb,dd,h _ _ (I.tok _) ?_⟩
  rw [l]
  exact (rel.val k).getD rd
end
noncomputable def tDGet2 (td ty tx:TE):TE:=fun σ H Q=>td σ H fun x H1=>∃a,x=.ref a/\IsD H1 a/\ty σ H1 fun y H2=>tx σ H2 fun z H3=>∃o,DGet H3 a y o/\Q (o.getD z) H3
section
variable {X:Cx} {o e f:Expr} {apos cpos:Pos} {td ty tx:TE}
theorem pe_dget2 (hu:X.A.units+1 < cLine) (ho:PE X o td) (he:PE X e ty) (hf:PE X f tx) (m:M2 X o "get" apos e f cpos):PE X (.Call (.Attribute o "get" apos) [e,f] [] cpos) (tDGet2 td ty tx):=by
 intro pins s σ H Q I h
 refine wpAny_Call_method m.base m.few m.line PySem.F.plainAttrs_dict PySem.F.slot_dict_get PySem.F.type_dict_get (thn (ho pins s σ H _ I h) fun u s1 ⟨x,H1,I1,rx,a,ex,d,q1⟩=>?_)
 subst ex
 obtain rfl:u=Value.ref a:=rx
 obtain ⟨t1,t2,_⟩:=isD_at I1 d
 refine ⟨t1,t2,?_⟩
 rw [m.trees]
 refine Calls.callWith_builtin rfl (Calls.evalArgs_plain (Calls.spliced_cons (thn (he pins s1 σ H1 _ I1 q1) fun iv s2 ⟨y,H2,I2,ry,q2⟩ =>
  Calls.spliced_cons (thn (hf pins s2 σ H2 _ I2 q2) fun fv s3 ⟨z,H3,I3,rz,ov,g,q3⟩=>Calls.spliced_nil ?_))))
 exact d_get2 hu I3 g ry rz fun w' s4 I4 rw'=>⟨_,H3,I4,rw',q3⟩
end
section
variable {X:Cx} {pins:List (Addr × Obj)} {σ:St} {H:Hp} {s:Shared} {a:Addr} {kvs:List (Key × V)} {A:Around} {E:Value->Shared->Prop}
end
section
variable {X:Cx} {pins:List (Addr × Obj)} {σ:St} {H:Hp} {s:Shared} {a:Addr} {y:V} {u:Value} {A:Around} {E:Value->Shared->Prop}
end
end L2
namespace L2
open PySem PySem.Spec PyProof.Rows
section
variable {κ:Type} [DecidableEq κ]
theorem valV_not {kvs:List (κ × V)} {k:κ} (h:valV kvs k=none):¬ k∈kvs.map (·.1):=by
 intro m
 obtain ⟨p,hp,e⟩:=List.mem_map.mp m
 have q:(kvs.any fun kv=>decide (kv.1=k))=true:=List.any_eq_true.mpr ⟨p,hp,decide_eq_true e⟩
 rw [valV_any,h] at q
 exact absurd q (by simp)
theorem valV_in {kvs:List (κ × V)} {k:κ} {v:V} (h:valV kvs k=some v):k∈kvs.map (·.1):=by
 have q:(kvs.any fun kv=>decide (kv.1=k))=true:=by
  rw [valV_any,h]
  all_goals rfl
 obtain ⟨p,hp,e⟩:=List.any_eq_true.mp q
 exact List.mem_map.mpr ⟨p,hp,of_decide_eq_true e⟩
theorem nd_snoc:∀{l:List κ} {k:κ},l.Nodup->¬ k∈l->(l++[k]).Nodup
 | [],k,_,_=>by simp
 | a :: r,k,h,hk=>by
   obtain ⟨h1,h2⟩:=List.nodup_cons.mp h
   show (a :: (r++[k])).Nodup
   refine List.nodup_cons.mpr ⟨fun m=>?_,nd_snoc h2 fun m=>hk (List.mem_cons.mpr (Or.inr m))⟩
   rcases List.mem_append.mp m with q | q
   ·exact h1 q
   ·exact hk (List.mem_cons.mpr (Or.inl (List.mem_singleton.mp q).symm))
theorem nd_putK {kvs:List (κ × V)} {k:κ} (v:V) (hn:(kvs.map (·.1)).Nodup) (h:valV kvs k=none):((putK kvs k v).map (·.1)).Nodup:=by
 rw [putK_new v h,List.map_append]
 exact nd_snoc hn (valV_not h)
end
end L2
namespace L2
open PySem PySem.Spec PyProof.Rows
noncomputable def Sz (n:Nat) (x:Int):Prop:=x.natAbs < 2 ^ n
section
variable {m n:Nat} {x y:Int}
theorem Sz.bits (h:Sz n x):Builtin.Int.intBits x<=n:=intBits_le_iff.mpr h
theorem Sz.of_bits (h:Builtin.Int.intBits x<=n):Sz n x:=intBits_le_iff.mp h
theorem Sz.mono (h:Sz m x) (l:m<=n):Sz n x:=.of_bits (Nat.le_trans h.bits l)
theorem Sz.mul (h:Sz m x) (k:Sz n y):Sz (m+n) (x*y):=.of_bits (intBits_mul_le h.bits k.bits)
theorem Sz.add (h:Sz m x) (k:Sz n y):Sz (max m n+1) (x+y):=.of_bits (intBits_add_le h.bits k.bits)
theorem Sz.sub (h:Sz m x) (k:Sz n y):Sz (max m n+1) (x - y):=.of_bits (intBits_sub_le h.bits k.bits)
theorem Sz.neg (h:Sz m x):Sz m (-x):=.of_bits (intBits_neg_le h.bits)
theorem Sz.fdiv (h:Sz m x):Sz m (x.fdiv y):=.of_bits (intBits_fdiv_le h.bits)
theorem szd (n:Nat) {x:Int} (h:decide (x.natAbs < 2 ^ n)=true:=by decide +kernel):Sz n x:=(show x.natAbs < 2 ^ n from of_decide_eq_true h)
theorem sz_of (h:-(2 ^ n:Nat) < x) (k:x < (2 ^ n:Nat)):Sz n x:=by
 unfold Sz
 generalize 2 ^ n=p at h k ⊢
 omega
end
noncomputable def CMulB (i j:Int):Prop:=∃m n,Sz m i/\Sz n j/\m+n<=134217728
theorem mulB {i j:Int} {m n:Nat} (h:Sz m i) (k:Sz n j) (l:decide (m+n<=134217728)=true:=by decide +kernel):CMulB i j:=⟨m,n,h,k,of_decide_eq_true l⟩
noncomputable def CDivB (_ j:Int):Prop:=j≠0/\Sz 9000 j
section
variable {X:Cx}
theorem op_mulB:OpR X (binaryOp .Mult) (rI CMulB fun i j=>.int (i*j)):=opI fun _ _ _ _ _ _ _ hc q =>
 mul_int q (let ⟨_,_,a,b,c⟩:=hc;IntMulOk.of_le a.bits b.bits c)
theorem op_fdivB:OpR X (binaryOp .FloorDiv) (rI CDivB fun i j=>.int (i.fdiv j)):=opI fun _ j _ _ _ _ _ hc q =>
 floordiv_int hc.1 q (.inl (PyProof.noPylong_of_log2 ((Nat.log2_lt (by have:=hc.1;omega)).mpr hc.2)))
theorem noPylong_wide {x y:Int} (h:Sz 13500 x):Builtin.divisionGoesByPylong x y=false:=by
 have key:(if x == 0 then 0 else x.natAbs.log2 / 30+1)<=450:=by
  by_cases hy:(x == 0)=true
  ·rw [if_pos hy];exact Nat.zero_le _
  ·rw [if_neg hy]
   have nz:x.natAbs≠0:=by
    have:¬ x=0:=fun e=>hy (by rw [e];rfl)
    omega
   have:=(Nat.log2_lt nz).mpr h
   omega
 show (decide ((if y == 0 then 0 else y.natAbs.log2 / 30+1) > 300) && decide ((if x == 0 then 0 else x.natAbs.log2 / 30+1) > (if y == 0 then 0 else y.natAbs.log2 / 30+1)+150))=false
 generalize (if y == 0 then 0 else y.natAbs.log2 / 30+1)=dy
 generalize (if x == 0 then 0 else x.natAbs.log2 / 30+1)=dx at key
 by_cases c:dy > 300
 ·rw [decide_eq_false (show ¬ dx > dy+150 by omega),Bool.and_false]
 ·rw [decide_eq_false c,Bool.false_and]
theorem op_fdivW:OpR X (binaryOp .FloorDiv) (rI (fun i j=>j≠0/\Sz 13500 i) fun i j=>.int (i.fdiv j)):=opI fun _ _ _ _ _ _ _ hc q=>floordiv_int hc.1 q (.inl (noPylong_wide hc.2))
theorem call_isi:CallR X (.builtin "isinstance") (fun xs H Q=>∃x t c b,xs=[x,.ty c]/\TyOf X.K H x t/\PySem.W.kitOne X.K t (.type c)=some b/\Q (.bl b) H):=by
 intro pins s σ H xs us Q I rv h
 obtain ⟨x,t,c,b,rfl,ty,e,q⟩:=h
 obtain ⟨u,u',rfl,r1,r2⟩:=vals2 rv
 cases (show u'=Value.type c from r2)
 exact isinst_ok I r1 ty e fun tk=>⟨.bl b,H,I.tok tk,rfl,q⟩
end
section
variable {K:PySem.W.Frag}
theorem kit_int_int:PySem.W.kitOne K (.type "int") (.type "int")=some true:=by
 show (if ((Value.type "int") == (Value.type "int"))=true then some true else (if PySem.W.kitMeta "int"=true then (PySem.fastBuiltinMro "int").map (·.contains (Value.type "int")) else none))=some true
 decide +kernel
theorem kit_int_bool:PySem.W.kitOne K (.type "int") (.type "bool")=some false:=by
 show (if ((Value.type "int") == (Value.type "bool"))=true then some true else (if PySem.W.kitMeta "bool"=true then (PySem.fastBuiltinMro "int").map (·.contains (Value.type "bool")) else none))=some false
 decide +kernel
theorem kit_tuple_tuple:PySem.W.kitOne K (.type "tuple") (.type "tuple")=some true:=by
 show (if ((Value.type "tuple") == (Value.type "tuple"))=true then some true else (if PySem.W.kitMeta "tuple"=true then (PySem.fastBuiltinMro "tuple").map (·.contains (Value.type "tuple")) else none))=some true
 decide +kernel
theorem kit_list_list:PySem.W.kitOne K (.type "list") (.type "list")=some true:=by
 show (if ((Value.type "list") == (Value.type "list"))=true then some true else (if PySem.W.kitMeta "list"=true then (PySem.fastBuiltinMro "list").map (·.contains (Value.type "list")) else none))=some true
 decide +kernel
end
noncomputable def tIfJ (c:TT) (t u:TS):TS:=fun D σ H=>∃M:St->Hp->Prop,(c σ H fun b H1=>if b=true then t { D with nx:=M } σ H1 else u { D with nx:=M } σ H1)/\∀σ' H',M σ' H'->D.nx σ' H'
theorem ps_ifJ {X:Cx} {c:Expr} {a b:List Stmt} {tc:TT} {t u:TS} {pos:Pos} (hc:PT X c tc) (ha:PSs X a t) (hb:PSs X b u):PS X (.If c a b pos) (tIfJ tc t u):=by
 intro pins s σ H D I h
 obtain ⟨M,h,hM⟩:=h
 have up:∀(f:Flow) (s':Shared),SP X pins { D with nx:=M } f s'->SP X pins D f s':=fun f s' q=>by
  cases f with
  | next =>
    obtain ⟨σ',H',I',q⟩:=q
    exact ⟨σ',H',I',hM σ' H' q⟩
  | ret v=>exact q
  | brk=>exact q
  | cont=>exact q
 refine wpAny_If (thn (hc pins s σ H _ I h) fun d s1 ⟨H1,I1,q1⟩=>?_)
 cases d with
 | true=>exact thn (ha pins s1 σ H1 _ I1 q1) up
 | false=>exact thn (hb pins s1 σ H1 _ I1 q1) up
theorem cpow40:CPow 10 40:=⟨by decide,by decide,by decide⟩
theorem small63 {n:Nat} (h:n<=1000):n<=sizeLine:=Nat.le_of_lt (small1000 h)
theorem item_at {ns:List Int} {k:Int} (h0:0<=k) (h:k < (ns.length:Int)):∃v:Int,atI (ns.map V.int) k=some (.int v):=by
 have hk:k.toNat < ns.length:=by omega
 have ek:k=((k.toNat:Nat):Int):=by omega
 have q:atI (ns.map V.int) ((k.toNat:Nat):Int)=some (.int ns[k.toNat]):=atI_nat (by rw [List.getElem?_map,List.getElem?_eq_getElem hk] <;> rfl)
 rw [<- ek] at q
 exact ⟨_,q⟩
end L2
namespace L2
open PySem PySem.Spec PyProof.Rows
noncomputable def Cx.inComp (X:Cx) (Nc:List Str) (sc:Scope) (cl:List (Str × Addr)) (s:Shared) (H:Hp) (ex:List Addr):Cx :=
 { X with N:=Nc,s₀:=s,H₀:=H,env:=compEnvC sc cl s.heap.objs.size X.env,outer:=X.stack,stack:=X.stack,ex:=ex,fn:=fun _=>false,pn:=[],xe:=fun _ _=>False }
theorem closure_go {env:Env} {f:Str × NameKind->List (Str × Addr)->Sem (ForInStep (List (Str × Addr)))}
 (hf:∀n k r,f (n,k) r=if (k == NameKind.free)=true then (cellOf env n >>= fun c=>pure (ForInStep.yield ((n,c) :: r))) else pure (ForInStep.yield r)) :
 ∀(l:List (Str × NameKind)) (cs:List (Str × Addr)),(∀x∈l,x.2=.free->∃c,env.cells.lookup x.1=some c) ->
  ∃cl,(forIn l cs f:Sem (List (Str × Addr)))=pure cl/\(∀p∈cl,p∈cs\/env.cells.lookup p.1=some p.2)/\(∀p∈cs,p∈cl)/\∀x∈l,x.2=.free->∃c,(x.1,c)∈cl:=by
 intro l
 induction l with
 | nil =>
   intro cs _
   exact ⟨cs,by rw [List.forIn_nil],fun p hp=>.inl hp,fun p hp=>hp,fun x hx=>absurd hx (by simp)⟩
 | cons y r ih =>
   intro cs h
   obtain ⟨n,k⟩:=y
   by_cases hk:k=.free
   ·subst hk
    obtain ⟨c,hc⟩:=h (n,.free) (by simp) rfl
    have e:cellOf env n=pure c:=by
     unfold cellOf
     rw [show env.cells.lookup n=some c from hc]
    obtain ⟨cl,h1,h2,h3,h4⟩:=ih ((n,c) :: cs) fun x hx=>h x (List.mem_cons_of_mem _ hx)
    refine ⟨cl,?_,fun p hp=>?_,fun p hp=>h3 p (List.mem_cons_of_mem _ hp),fun x hx hf'=>?_⟩
    ·rw [List.forIn_cons,hf,if_pos (by decide),e]
     simp only [pure_bind]
     exact h1
    ·rcases h2 p hp with z | z
     ·rcases List.mem_cons.mp z with z | z
      ·subst z;exact .inr hc
      ·exact .inl z
     ·exact .inr z
    ·rcases List.mem_cons.mp hx with z | z
     ·subst z;exact ⟨c,h3 _ (by simp)⟩
     ·exact h4 x z hf'
   ·have hb:(k == NameKind.free)=false:=by simpa using hk
    obtain ⟨cl,h1,h2,h3,h4⟩:=ih cs fun x hx=>h x (List.mem_cons_of_mem _ hx)
    refine ⟨cl,?_,h2,h3,fun x hx hf'=>?_⟩
    ·rw [List.forIn_cons,hf,hb,if_neg (by decide)]
     simp only [pure_bind]
     exact h1
    ·rcases List.mem_cons.mp hx with z | z
     ·subst z;exact absurd hf' hk
     ·exact h4 x z hf'
theorem lookup_has {α:Type}:∀{l:List (Str × α)} {n:Str} {c:α},(n,c)∈l->∃d,l.lookup n=some d
 | (k,v) :: r,n,c,h=>by
   rw [List.lookup_cons]
   cases hx:(n == k) with
   | true=>exact ⟨v,rfl⟩
   | false =>
     rcases List.mem_cons.mp h with z | z
     ·cases z
      simp at hx
     ·exact lookup_has z
theorem closure_ok {env:Env} {sc:Scope} (h:∀x∈sc.names,x.2=.free->∃c,env.cells.lookup x.1=some c) :
 ∃cl,closureFor sc env=pure cl/\(∀y c,cl.lookup y=some c->env.cells.lookup y=some c)/\∀x∈sc.names,x.2=.free->∃c,cl.lookup x.1=some c:=by
 obtain ⟨cl,h1,h2,_,h4⟩:=closure_go (env:=env) (f:=fun x r=>if (x.2 == NameKind.free)=true then (cellOf env x.1 >>= fun c=>pure (ForInStep.yield ((x.1,c) :: r))) else pure (ForInStep.yield r)) (fun _ _ _=>rfl) sc.names [] h
 refine ⟨cl,?_,fun y c e=>?_,fun x hx hf=>?_⟩
 ·unfold closureFor
  have:(forIn sc.names ([]:List (Str × Addr)) fun x r=>(match x with | (name,kind)=>if (kind == NameKind.free)=true then (do let __do_lift <- cellOf env name;pure (ForInStep.yield ((name,__do_lift) :: r))) else pure (ForInStep.yield r)):Sem (List (Str × Addr)))=pure cl:=h1
  first
   | (simp only [this,pure_bind];done)
   | (simp only [h1,pure_bind];done)
   | (rw [show (forIn sc.names ([]:List (Str × Addr)) _:Sem (List (Str × Addr)))=pure cl from h1];rfl)
 ·rcases h2 (y,c) (PySem.mem_of_lookup e) with z | z
  ·exact absurd z (by simp)
  ·exact z
 ·obtain ⟨c,hc⟩:=h4 x hx hf
  exact lookup_has hc
theorem lookup_relabel (env:Env):∀(names:List (Str × NameKind)) (y:Str),
 (names.map fun (n,k)=>if (k == NameKind.free && env.scope.kind == .function && env.kindOf n == some .cell) then (n,NameKind.cell) else (n,k)).lookup y
  = (names.lookup y).map fun k=>if (k == NameKind.free && env.scope.kind == .function && env.kindOf y == some .cell) then NameKind.cell else k
 | [],y=>rfl
 | (n,k) :: r,y=>by
   have ih:=lookup_relabel env r y
   rw [List.map_cons]
   dsimp only
   cases hx:(y == n) with
   | true =>
     have e:y=n:=by simpa using hx
     subst e
     by_cases c:(k == NameKind.free && env.scope.kind == .function && env.kindOf y == some .cell)=true
     ·rw [if_pos c];simp only [List.lookup_cons,hx,Option.map_some];rw [if_pos c]
     ·rw [if_neg c];simp only [List.lookup_cons,hx,Option.map_some];rw [if_neg c]
   | false =>
     by_cases c:(k == NameKind.free && env.scope.kind == .function && env.kindOf n == some .cell)=true
     ·rw [if_pos c];simp only [List.lookup_cons,hx];exact ih
     ·rw [if_neg c];simp only [List.lookup_cons,hx];exact ih
noncomputable def PIfs (X:Cx) (ifs:List Expr) (t:TT):Prop :=
 ∀(pins:List (Addr × Obj)) (s:Shared) (σ:St) (H:Hp) (Q:Bool->Hp->Prop),Inv X pins σ H s->t σ H Q ->
  wpAny (model X.prog X.w) X.A (forIn ifs true fun c r=>if r=true then do let ok <- isTrue c X.env (eval c X.env);pure (ForInStep.yield ok) else pure (ForInStep.yield r)) (TP X pins σ Q) X.xe s
noncomputable def tYes:TT:=fun _ H Q=>Q true H
theorem yes {σ:St} {H:Hp} {Q:Bool->Hp->Prop} (h:Q true H):tYes σ H Q:=h
theorem pif_nil {X:Cx}:PIfs X [] tYes:=by
 intro pins s σ H Q I h
 rw [List.forIn_nil]
 exact wpAny_pure ⟨H,I,h⟩
theorem pif_one {X:Cx} {c:Expr} {t:TT} (hc:PT X c t):PIfs X [c] t:=by
 intro pins s σ H Q I h
 rw [List.forIn_cons,if_pos rfl]
 refine wpAny_bind (wpAny_bind (thn (hc pins s σ H Q I h) fun b s1 q=>wpAny_pure ?_))
 dsimp only
 rw [List.forIn_nil]
 exact wpAny_pure q
theorem thnF {α:Type} {t:Sem α} {Q Q':α->Shared->Prop} {M:Model} {A:Around} {E:Value->Shared->Prop} {s:Shared} (h:wpAny M A t Q (fun _ _=>False) s) (hQ:∀a s,Q a s->Q' a s):wpAny M A t Q' E s:=wpAny_mono h hQ fun _ _ z=>z.elim
noncomputable def tComp (wi:TI) (tt:TT) (te:TE):TE:=fun σ H Q=>wi σ H fun J H1=>∀D,H1 D=none->∃W:Nat->Nat->List V->Hp->Prop,(∃m,W 0 m [] (upd H1 D (.lst [])))/\∀i m ys H2,W i m ys H2 ->
 H2 D=some (.lst ys)/\((J.stop i H2/\Q (.ref D) H2)\/(J.go i H2/\ys.length < sizeLine/\∀x H3,J.yld i H2 x H3->tt (σ++[some x]) H3 fun b H4=>if b=true then te (σ++[some x]) H4 fun y H5=>H5 D=some (.lst ys)/\∃m',m' < m/\W (i+1) m' (ys++[y]) (upd H5 D (.lst (ys++[y])))
  else ∃m',m' < m/\W (i+1) m' ys H4))
structure CompN (N Nc:List Str) (x:Str) (sc fsc:Scope):Prop where
 kind:sc.kind=.function
 cell:∀y∈sc.names,y.2≠.cell
 nm:∀y∈sc.names,y.2=.local->sc.names.lookup y.1=some .local
 own:sc.names.lookup x=some .local
 fr:∀y∈sc.names,y.2=.free->fsc.names.lookup y.1=some .cell\/fsc.names.lookup y.1=some .free
 len:Nc.length=N.length+1
 nd:Nc.Nodup
 last:Nc[N.length]?=some x
 slot:((List.range N.length).all fun i=>match Nc[i]? with
  | some y=>(match sc.names.lookup y with | some .free=>N[i]? == some y | some .local=>false | some .cell=>false | _=>true)
  | none=>true)=true
theorem CompN.at {N Nc:List Str} {x:Str} {sc fsc:Scope} (C:CompN N Nc x sc fsc) {i:Nat} {y:Str} (hi:i < N.length) (h:Nc[i]?=some y):sc.names.lookup y≠some .local/\sc.names.lookup y≠some .cell/\(sc.names.lookup y=some .free->N[i]?=some y):=by
 have q:=List.all_eq_true.mp C.slot i (List.mem_range.mpr hi)
 rw [h] at q
 dsimp only at q
 cases e:sc.names.lookup y with
 | none=>exact ⟨fun z=>(nomatch z),fun z=>(nomatch z),fun z=>(nomatch z)⟩
 | some k =>
   rw [e] at q
   cases k with
   | «local»=>exact absurd (show false=true from q) Bool.false_ne_true
   | cell=>exact absurd (show false=true from q) Bool.false_ne_true
   | free=>exact ⟨fun z=>(nomatch z),fun z=>(nomatch z),fun _=>by simpa using q⟩
   | _=>exact ⟨fun z=>(nomatch z),fun z=>(nomatch z),fun z=>(nomatch z)⟩
section
variable {X:Cx} {elt iter:Expr} {x:Str} {px pos:Pos} {ifs:List Expr} {sc fsc:Scope} {N Nc:List Str} {wi:TI} {tt:TT} {te:TE}
structure CLoc (X:Cx) (pins:List (Addr × Obj)) (H:Hp) (C:Addr):Prop where
 free:H C=none
 ne:C≠X.env.locals
 new:X.s₀.heap.objs.size<=C
 cells:∀x c,X.env.cells.lookup x=some c->c≠C
 pins:∀p∈X.pn++pins,p.1≠C
theorem Inv.sameBut {pins:List (Addr × Obj)} {σ:St} {H:Hp} {s:Shared} {C:Addr} {h':Heap} (I:Inv X pins σ H s) (c:CLoc X pins H C) (k:Heap.SameBut C s.heap h'):Inv X pins σ H { s with heap:=h' } :=
 I.turned (t':=s.toks) (it:=C) (fun b o hb e=>(k.2 b hb).trans e) c.free c.ne (.inr c.new) c.cells c.pins
theorem set_last {σ:St} {o v:Option V}:(σ++[o]).set σ.length v=σ++[v]:=by
 rw [List.set_append_right _ _ (Nat.le_refl _),Nat.sub_self]
 rfl
end
theorem comp_range {lo:Int} {n:Nat} {tt:TT} {te:TE} {σ:St} {H1:Hp} {Q:Addr->Hp->Prop} (hn:n<=sizeLine) (Pv:Addr->Nat->List V->Hp->Prop)
 (h0:∀D,H1 D=none->Pv D 0 [] (upd H1 D (.lst []))) (hD:∀D i ys H,Pv D i ys H->H D=some (.lst ys)/\ys.length<=i)
 (hs:∀D i ys H (K1:VK) (K2:Hp->Prop),H1 D=none->i < n->Pv D i ys H->(∀y H5,H5 D=some (.lst ys)->Pv D (i+1) (ys++[y]) (upd H5 D (.lst (ys++[y])))->K1 y H5)->(∀H4,Pv D (i+1) ys H4->K2 H4) ->
  tt (σ++[some (.int (lo+i))]) H fun b H4=>if b=true then te (σ++[some (.int (lo+i))]) H4 K1 else K2 H4)
 (hd:∀D ys H,H1 D=none->Pv D n ys H->Q D H) :
 ∀D,H1 D=none->∃W:Nat->Nat->List V->Hp->Prop,(∃m,W 0 m [] (upd H1 D (.lst [])))/\∀i m ys H2,W i m ys H2 ->
  H2 D=some (.lst ys)/\(((Itr lo n).stop i H2/\Q D H2)\/((Itr lo n).go i H2/\ys.length < sizeLine/\∀x H3,(Itr lo n).yld i H2 x H3->tt (σ++[some x]) H3 fun b H4=>if b=true then te (σ++[some x]) H4 fun y H5=>H5 D=some (.lst ys)/\∃m',m' < m/\W (i+1) m' (ys++[y]) (upd H5 D (.lst (ys++[y])))
   else ∃m',m' < m/\W (i+1) m' ys H4)):=by
 intro D hDn
 refine ⟨fun i m ys H=>m=n - i/\i<=n/\Pv D i ys H,⟨n,rfl,Nat.zero_le _,h0 D hDn⟩,?_⟩
 rintro i m ys H2 ⟨rfl,hi,p⟩
 obtain ⟨e,l⟩:=hD D i ys H2 p
 refine ⟨e,?_⟩
 by_cases hlt:i < n
 ·refine .inr ⟨hlt,Nat.lt_of_le_of_lt l (Nat.lt_of_lt_of_le hlt hn),fun x H3 y=>?_⟩
  obtain ⟨e1,e2⟩:=y
  subst e1 e2
  exact hs D i ys _ _ _ hDn hlt p (fun y H5 h5 p5=>⟨h5,n - (i+1),by omega,rfl,hlt,p5⟩) fun H4 p4=>⟨n - (i+1),by omega,rfl,hlt,p4⟩
 ·have ei:i=n:=by omega
  subst ei
  exact .inl ⟨Nat.le_refl _,hd D ys H2 hDn p⟩
theorem comp_list {K:PySem.W.Frag} {a:Addr} {xs:List V} {tt:TT} {te:TE} {σ:St} {H1:Hp} {Q:Addr->Hp->Prop} (hn:xs.length<=sizeLine) (Pv:Addr->Nat->List V->Hp->Prop)
 (h0:∀D,H1 D=none->Pv D 0 [] (upd H1 D (.lst []))) (hD:∀D i ys H,Pv D i ys H->H D=some (.lst ys)/\ys.length<=i) (hl:∀D i ys H,H1 D=none->Pv D i ys H->SqL K H a xs)
 (hs:∀D i x ys H (K1:VK) (K2:Hp->Prop),H1 D=none->xs[i]?=some x->Pv D i ys H->(∀y H5,H5 D=some (.lst ys)->Pv D (i+1) (ys++[y]) (upd H5 D (.lst (ys++[y])))->K1 y H5)->(∀H4,Pv D (i+1) ys H4->K2 H4) ->
  tt (σ++[some x]) H fun b H4=>if b=true then te (σ++[some x]) H4 K1 else K2 H4)
 (hd:∀D ys H,H1 D=none->Pv D xs.length ys H->Q D H) :
 ∀D,H1 D=none->∃W:Nat->Nat->List V->Hp->Prop,(∃m,W 0 m [] (upd H1 D (.lst [])))/\∀i m ys H2,W i m ys H2 ->
  H2 D=some (.lst ys)/\(((Itl K a).stop i H2/\Q D H2)\/((Itl K a).go i H2/\ys.length < sizeLine/\∀x H3,(Itl K a).yld i H2 x H3->tt (σ++[some x]) H3 fun b H4=>if b=true then te (σ++[some x]) H4 fun y H5=>H5 D=some (.lst ys)/\∃m',m' < m/\W (i+1) m' (ys++[y]) (upd H5 D (.lst (ys++[y])))
   else ∃m',m' < m/\W (i+1) m' ys H4)):=by
 intro D hDn
 refine ⟨fun i m ys H=>m=xs.length - i/\i<=xs.length/\Pv D i ys H,⟨xs.length,rfl,Nat.zero_le _,h0 D hDn⟩,?_⟩
 rintro i m ys H2 ⟨rfl,hi,p⟩
 obtain ⟨e,l⟩:=hD D i ys H2 p
 have q:=hl D i ys H2 hDn p
 refine ⟨e,?_⟩
 by_cases hlt:i < xs.length
 ·refine .inr ⟨⟨xs,xs[i],q,by simp [hlt]⟩,Nat.lt_of_le_of_lt l (Nat.lt_of_lt_of_le hlt hn),fun x H3 y=>?_⟩
  obtain ⟨e1,y⟩:=y
  subst e1
  exact hs D i x ys _ _ _ hDn (y xs q) p (fun y H5 h5 p5=>⟨h5,xs.length - (i+1),by omega,rfl,hlt,p5⟩) fun H4 p4=>⟨xs.length - (i+1),by omega,rfl,hlt,p4⟩
 ·have ei:i=xs.length:=by omega
  subst ei
  exact .inl ⟨⟨xs,q,Nat.le_refl _⟩,hd D ys H2 hDn p⟩
section
variable {X:Cx}
theorem ix_listK (K:PySem.W.Frag) (h:X.K=K:=by rfl):IxR X (rIxL K):=by subst h;exact ix_list
theorem ix_tupK (K:PySem.W.Frag) (h:X.K=K:=by rfl):IxR X (rIxT K):=by subst h;exact ix_tup
end
end L2
namespace L2
open PySem PySem.Spec PyProof.Rows
section
variable {X:Cx}
theorem call_sum (hc:X.calm=true):CallR X (.builtin "sum") (fun xs H Q=>∃(p:Addr) (ns:List Int),xs=[.ref p]/\SqL X.K H p (ns.map V.int)/\Q (.int ns.sum) H):=by
 intro pins s σ H xs us Q I rv h
 obtain ⟨p,ns,rfl,hS,q⟩:=h
 obtain ⟨u,rfl,r⟩:=vals1 rv
 cases r
 obtain ⟨its,rv,pl,hz⟩:=I.list hS
 have hi:=intsAre_of rv
 obtain ⟨xs,e⟩:=hi.allInts.items
 have en:xs.toList.map (·.1)=ns:=by
  have:=nums_intItems xs
  rw [<- e,show its.toArray.toList=its from rfl,hi.numsOf] at this
  exact this.symm
 refine sum_intListG (I.ok.hd hc) (by rw [<- e];exact pl.isList) fun h' tk t' hk=>?_
 rw [preSum_eq,List.take_of_length_le (by simp),en]
 exact ⟨.int ns.sum,H,I.kept hk,⟨_,rfl⟩,q⟩
theorem mt_bits:MtR X "int.bit_length" (fun x xs H Q=>∃i:Int,x=.int i/\xs=[]/\Q (.int (Builtin.Int.intBits i:Nat)) H):=by
 intro pins s σ H x xs v us Q I rx rv h
 obtain ⟨i,rfl,rfl,q⟩:=h
 obtain ⟨t,rfl⟩:=rx
 cases rv
 exact call_int_bit_length ⟨.int _,H,I.tok _,⟨_,rfl⟩,q⟩
end
theorem cut_take {xs:List V} {j:Nat}:cutV xs none (some (j:Int))=xs.take j:=by
 unfold cutV
 rw [HT.sIx_none,HT.sIx_nat,List.drop_zero,Nat.sub_zero]
 by_cases h:j<=xs.length
 ·rw [Nat.min_eq_left h]
 ·rw [Nat.min_eq_right (by omega),List.take_of_length_le (Nat.le_refl _),List.take_of_length_le (by omega)]
end L2
namespace L2
open PySem PySem.Spec PyProof.Rows
section
variable {M:Model} {A:Around} {E:Value->Shared->Prop} {s:Shared} {env:Env} {outer:List Env} {L e:Addr} {base:Heap}
end
end L2
namespace L2
open PySem PySem.Spec PyProof.Rows
section
variable {X:Cx} {pins:List (Addr × Obj)} {σ:St} {H:Hp} {s:Shared} {e:Addr} {cls:Value} {od:Option Addr}
end
section
variable {X:Cx} {pins:List (Addr × Obj)} {σ:St} {H:Hp} {s s':Shared} {E:XK} {ev:Value}
end
section
variable {X:Cx} {W:St->XK} {k:Nat} {f:Addr} {fd:FuncData} {ps:List Str} {sp:Sp} {dvs:List V} {ds:List Value} {x:Str} {p pos:Pos} {e:Expr} {es:List Expr} {t:TA}
end
end L2
namespace L2
open PySem PySem.Spec PyProof.Rows
section
variable {X:Cx} {W:St->XK} {C:Addr} {x:Str} {p cpos pos:Pos} {e:Expr} {es:List Expr} {t:TA}
end
section
variable {X:Cx} {pins:List (Addr × Obj)} {σ:St} {H:Hp} {s:Shared} {e:Addr} {cls:Value} {od:Option Addr}
end
section
variable {X:Cx} {pins:List (Addr × Obj)} {σ:St} {H:Hp} {s:Shared} {e C:Addr} {cls:Value} {od:Option Addr} {x n:Str} {i:Nat} {np pos:Pos} {b₀:Stmt} {suite:List Stmt} {rest:List ExceptHandler} {ts:TS} {tr:TH}
end
end L2
namespace L2
open PySem PySem.Spec PyProof.Rows
section
variable {prog:Program} {w:World} {A:Around} {E:Value->Shared->Prop} {s:Shared} {K:PySem.W.Frag} {a C:Addr} {o:Obj} {od:Option Obj} {name:Str} {tk:Tok}
end
section
variable {X:Cx}
end
end L2
namespace L2
open PySem PySem.Spec PyProof.Rows
section
variable {X:Cx}
end
section
variable {K:PySem.W.Frag} {H H':Hp} {x:V} {b:Bool}
end
section
variable {K:PySem.W.Frag} {A B:Addr}
end
end L2
namespace L2
open PySem PySem.Spec PyProof.Rows
end L2
namespace L2
open PySem PySem.Spec PyProof.Rows
section
variable {prog:Program} {w:World} {A:Around} {E:Value->Shared->Prop} {s:Shared} {K:PySem.W.Frag} {C P f x:Addr} {ox:Obj} {od:Option Obj} {name:Str} {v:Value}
end
end L2
namespace L2
open PySem PySem.Spec PyProof.Rows
section
variable {prog:Program} {w:World} {A:Around} {E:Value->Shared->Prop} {h:Heap} {g:Array GenState} {d:Drawn} {t:Nat} {os:OsState}
variable {nm q:Str} {C N:Addr} {bs bm:List Value} {hd:Bool} {sn:List Str} {sub:List Value} {ab:Bool} {col:Option Bool} {dd:Option Addr} {k0 k1 k2 k3 k5:Option Value}
end
section
variable {X:Cx} {W:St->XK} {C P fi:Addr} {k:Nat} {fd:FuncData} {ps ns:List Str} {x:Str} {p cpos pos:Pos} {e:Expr} {es:List Expr} {t:TA}
end
end L2
namespace L2
open PySem PySem.Spec PyProof.Rows
mutual
inductive Rep (K:PySem.W.Frag) (H:Hp):V->PyData->Prop
 | non:Rep K H .non .none
 | bl (b:Bool):Rep K H (.bl b) (.bool b)
 | int (i:Int):Rep K H (.int i) (.int i)
 | str (x:Str):Rep K H (.str x) (.str x)
 | lst {a:Addr} {xs:List V} {ds:List PyData}:SqL K H a xs->Reps K H xs ds->Rep K H (.ref a) (.list ds)
 | tup {a:Addr} {xs:List V} {ds:List PyData}:SqT K H a xs->Reps K H xs ds->Rep K H (.ref a) (.tuple ds)
inductive Reps (K:PySem.W.Frag) (H:Hp):List V->List PyData->Prop
 | nil:Reps K H [] []
 | cons {x:V} {xs:List V} {d:PyData} {ds:List PyData}:Rep K H x d->Reps K H xs ds->Reps K H (x :: xs) (d :: ds)
end
section
variable {K:PySem.W.Frag} {H H':Hp}
mutual
theorem Rep.same (e:Same H H'):∀{x:V} {d:PyData},Rep K H x d->Rep K H' x d
 | _,_,.non=>.non
 | _,_,.bl b=>.bl b
 | _,_,.int i=>.int i
 | _,_,.str x=>.str x
 | _,_,.lst h r=>.lst (e.seq h) (Reps.same e r)
 | _,_,.tup h r=>.tup (by
  rcases h with (h | ⟨o,h⟩) | h
  ·exact .inl (.inl (e _ _ h))
  ·exact .inl (.inr ⟨o,e _ _ h⟩)
  ·exact .inr h) (Reps.same e r)
theorem Reps.same (e:Same H H'):∀{xs:List V} {ds:List PyData},Reps K H xs ds->Reps K H' xs ds
 | _,_,.nil=>.nil
 | _,_,.cons r t=>.cons (Rep.same e r) (Reps.same e t)
end
theorem Reps.ints:∀(ns:List Int),Reps K H (ns.map V.int) (ns.map PyData.int)
 | []=>.nil
 | n :: ns=>.cons (.int n) (Reps.ints ns)
end
section
variable {X:Cx} {pins:List (Addr × Obj)} {σ:St} {H:Hp} {s:Shared}
mutual
theorem Inv.reads (I:Inv X pins σ H s):∀{x:V} {d:PyData},Rep X.K H x d->∀{v:Value},RelV x v->∃as,Reads s.heap v d as
 | _,_,.non,v,r=>by cases (show v=Value.none from r);exact ⟨_,.none⟩
 | _,_,.bl b,v,r=>by cases (show v=Value.bool b from r);exact ⟨_,.bool b⟩
 | _,_,.int i,v,r=>by obtain ⟨t,e⟩:=(show ∃t,v=Value.int i t from r);cases e;exact ⟨_,.int i t⟩
 | _,_,.str x,v,r=>by obtain ⟨t,e⟩:=(show ∃t,v=Value.str x t from r);cases e;exact ⟨_,.str x t⟩
 | _,_,.lst (a:=a) h rs,v,r=>by
   cases (show v=Value.ref a from r)
   obtain ⟨its,rv,⟨o,n,e1,e2,_,e4⟩,_⟩:=I.list h
   obtain ⟨as,q⟩:=Inv.readsAll I rs rv
   exact ⟨_,.list e1 e2 e4 q⟩
 | _,_,.tup (a:=a) h rs,v,r=>by
   cases (show v=Value.ref a from r)
   obtain ⟨its,rv,⟨o,e1,e2,n,e4⟩,_⟩:=I.tuple h
   obtain ⟨as,q⟩:=Inv.readsAll I rs rv
   exact ⟨_,.tuple e1 e2 e4 q⟩
theorem Inv.readsAll (I:Inv X pins σ H s):∀{xs:List V} {ds:List PyData},Reps X.K H xs ds->∀{vs:List Value},Vals xs vs->∃as,ReadsAll s.heap vs ds as
 | _,_,.nil,_,.nil=>⟨_,.nil⟩
 | _,_,.cons r t,_,.cons q u=>by
   obtain ⟨a1,h1⟩:=Inv.reads I r q
   obtain ⟨a2,h2⟩:=Inv.readsAll I t u
   exact ⟨_,.cons h1 h2⟩
end
noncomputable def rEqD (K:PySem.W.Frag):R2:=fun x y H Q=>∃d e,Rep K H x d/\Rep K H y e/\PySem.SeqAt.shaped d=true/\PySem.SeqAt.shaped e=true/\Q (.bl (PyData.eqv d e)) H
noncomputable def rNeD (K:PySem.W.Frag):R2:=fun x y H Q=>∃d e,Rep K H x d/\Rep K H y e/\PySem.SeqAt.shaped d=true/\PySem.SeqAt.shaped e=true/\Q (.bl (!PyData.eqv d e)) H
theorem op_eqD {K:PySem.W.Frag} (hu:X.A.units+64 < cLine) (hK:X.K=K:=by rfl):OpR X (compareOp .Eq) (rEqD K):=by
 subst hK
 intro pins s σ H x y v u Q I rx ry h
 obtain ⟨d,e,hx,hy,s1,s2,q⟩:=h
 obtain ⟨as,r1⟩:=I.reads hx rx
 obtain ⟨bs,r2⟩:=I.reads hy ry
 exact eq_dataH r1 r2 s1 s2 hu ⟨.bl _,H,I,rfl,q⟩
theorem op_neD {K:PySem.W.Frag} (hu:X.A.units+64 < cLine) (hK:X.K=K:=by rfl):OpR X (compareOp .NotEq) (rNeD K):=by
 subst hK
 intro pins s σ H x y v u Q I rx ry h
 obtain ⟨d,e,hx,hy,s1,s2,q⟩:=h
 obtain ⟨as,r1⟩:=I.reads hx rx
 obtain ⟨bs,r2⟩:=I.reads hy ry
 exact ne_dataH r1 r2 s1 s2 hu ⟨.bl _,H,I,rfl,q⟩
end
end L2
namespace L2
open PySem PySem.W PySem.Spec PyProof.Rows
section
variable {O:KeyOrd} {ky:Nat->O.α} {n:Nat} {cmp:Nat->Nat->(Bool->Shared->Prop)->Shared->Prop} {J:Shared->Prop}
noncomputable def kk (ky:Nat->O.α) (p:Array Nat) (i:Nat):O.α:=ky (p.getD i 0)
noncomputable def Srt (ky:Nat->O.α) (p:Array Nat) (m:Nat):Prop:=∀i j,i<=j->j < m->O.kle (kk ky p i) (kk ky p j)
noncomputable def Fal (ky:Nat->O.α) (p:Array Nat) (m:Nat):Prop:=∀i j,i<=j->j < m->O.kle (kk ky p j) (kk ky p i)
noncomputable def Prm (n:Nat) (p:Array Nat):Prop:=p.toList.Perm (List.range n)
noncomputable def Asks (O:KeyOrd) (ky:Nat->O.α) (n:Nat) (cmp:Nat->Nat->(Bool->Shared->Prop)->Shared->Prop) (J:Shared->Prop):Prop :=
 ∀i j (C:Bool->Shared->Prop) s,i < n->j < n->J s->(∀s',J s'->C (O.blt (ky i) (ky j)) s')->cmp i j C s
theorem Prm.size {p:Array Nat} (h:Prm n p):p.size=n:=by
 have:=h.length_eq
 rw [List.length_range] at this
 exact this
theorem Prm.lt {p:Array Nat} (h:Prm n p) {k:Nat} (hk:k < n):p.getD k 0 < n:=by
 have hz:=h.size
 have e:p.getD k 0=p[k]'(by omega):=by simp [Array.getD,hz,hk]
 rw [e]
 exact List.mem_range.mp (h.mem_iff.mp (by simp))
theorem Prm.rev {p:Array Nat} (h:Prm n p) (i j:Nat):Prm n (kas_rev p i j):=(mirror_perm p i j _).toList.trans h
theorem Prm.bub {p:Array Nat} (h:Prm n p) (k d:Nat):Prm n (bubble p k d):=(bubble_perm p k d).toList.trans h
theorem getD_of {p q:Array Nat} {i j:Nat} (e:p[i]?=q[j]?):p.getD i 0=q.getD j 0:=by
 rw [Array.getD_eq_getD_getElem?,Array.getD_eq_getD_getElem?,e]
theorem kk_rev {p:Array Nat} {i j:Nat} (hj:j<=p.size) (k:Nat):kk ky (kas_rev p i j) k=if i<=k/\k < j then kk ky p (i+j - 1 - k) else kk ky p k:=by
 have e:=getElem?_mirror_all (xs:=p) (i:=i) hj k
 unfold kk kas_rev
 by_cases c:i<=k/\k < j
 ·rw [if_pos c] at e ⊢
  rw [getD_of e]
 ·rw [if_neg c] at e ⊢
  rw [getD_of e]
theorem kk_bub {p:Array Nat} {src d:Nat} (hs:src < p.size) (hd:d<=src) (k:Nat) :
 kk ky (bubble p src d) k=if k=src - d then kk ky p src else if src - d < k/\k<=src then kk ky p (k - 1) else kk ky p k:=by
 have e:=getElem?_bubble hs d hd k
 unfold kk
 by_cases c:k=src - d
 ·rw [if_pos c] at e ⊢
  rw [getD_of e]
 ·rw [if_neg c] at e ⊢
  by_cases c2:src - d < k/\k<=src
  ·rw [if_pos c2] at e ⊢
   rw [getD_of e]
  ·rw [if_neg c2] at e ⊢
   rw [getD_of e]
theorem Srt.succ {p:Array Nat} {m:Nat} (h:Srt ky p m) (h1:1<=m) (c:O.kle (kk ky p (m - 1)) (kk ky p m)):Srt ky p (m+1):=fun i j hij hj=>by
 by_cases e:j=m
 ·subst e
  by_cases e2:i=j
  ·subst e2
   exact KeyOrd.kle_refl _
  ·exact KeyOrd.kle_trans (h i (j - 1) (by omega) (by omega)) c
 ·exact h i j hij (by omega)
theorem Fal.succ {p:Array Nat} {m:Nat} (h:Fal ky p m) (h1:1<=m) (c:O.kle (kk ky p m) (kk ky p (m - 1))):Fal ky p (m+1):=fun i j hij hj=>by
 by_cases e:j=m
 ·subst e
  by_cases e2:i=j
  ·subst e2
   exact KeyOrd.kle_refl _
  ·exact KeyOrd.kle_trans c (h i (j - 1) (by omega) (by omega))
 ·exact h i j hij (by omega)
theorem Srt.one {p:Array Nat}:Srt ky p 1:=fun i j hij hj=>by
 have:i=j:=by omega
 subst this
 exact KeyOrd.kle_refl _
theorem Fal.rev {p:Array Nat} {m:Nat} (hz:m<=p.size) (h:Fal ky p m):Srt ky (kas_rev p 0 m) m:=fun i j hij hj=>by
 rw [kk_rev hz,kk_rev hz,if_pos ⟨Nat.zero_le _,by omega⟩,if_pos ⟨Nat.zero_le _,hj⟩]
 exact h _ _ (by omega) (by omega)
theorem Fal.revEq {p:Array Nat} {i j m:Nat} (hz:j<=p.size) (hm:j<=m) (h:Fal ky p m) (eq:∀a b,i<=a->a < j->i<=b->b < j->O.kle (kk ky p a) (kk ky p b)):Fal ky (kas_rev p i j) m:=fun a b hab hb=>by
 rw [kk_rev hz,kk_rev hz]
 by_cases c1:i<=a/\a < j
 ·rw [if_pos c1]
  by_cases c2:i<=b/\b < j
  ·rw [if_pos c2]
   exact eq _ _ (by omega) (by omega) (by omega) (by omega)
  ·rw [if_neg c2]
   exact h _ _ (by omega) hb
 ·rw [if_neg c1]
  by_cases c2:i<=b/\b < j
  ·rw [if_pos c2]
   exact h _ _ (by omega) (by omega)
  ·rw [if_neg c2]
   exact h _ _ hab hb
theorem asc_ok (ac:Asks O ky n cmp J) {p:Array Nat} (hp:Prm n p) {R:Nat->Shared->Prop}:∀(f a:Nat) (s:Shared),1<=a->a+f<=n->Srt ky p a->J s ->
 (∀m s',a<=m->m<=a+f->Srt ky p m->(m < a+f->O.klt (kk ky p m) (kk ky p (m - 1)))->J s'->R m s')->(kas_asc p f a).kasWp cmp R s
 | 0,a,s,h1,hz,hs,hJ,k=>k a s (Nat.le_refl _) (Nat.le_refl _) hs (fun h=>absurd h (Nat.lt_irrefl _)) hJ
 | f+1,a,s,h1,hz,hs,hJ,k=>by
   refine ac _ _ _ s (hp.lt (by omega)) (hp.lt (by omega)) hJ fun s' hJ'=>?_
   cases e:O.blt (ky (p.getD a 0)) (ky (p.getD (a - 1) 0)) with
   | true =>
     dsimp only
     rw [if_pos rfl]
     exact k a s' (Nat.le_refl _) (by omega) hs (fun _=>e) hJ'
   | false =>
     dsimp only
     rw [if_neg Bool.false_ne_true]
     refine asc_ok ac hp f (a+1) s' (by omega) (by omega) (hs.succ h1 e) hJ' fun m s2 l1 l2 q1 q2 q3=>?_
     exact k m s2 (by omega) (by omega) q1 (fun h=>q2 (by omega)) q3
theorem desc_ok (ac:Asks O ky n cmp J) {R:Array Nat × Nat × Nat->Shared->Prop}:∀(f:Nat) (p:Array Nat) (m q:Nat) (s:Shared),Prm n p->q+1<=m->m+f<=n->Fal ky p m ->
 (∀a b,m - (q+1)<=a->a < m->m - (q+1)<=b->b < m->O.kle (kk ky p a) (kk ky p b))->J s ->
 (∀p' m' q' s',Prm n p'->q'+1<=m'->m<=m'->m'<=m+f->Fal ky p' m'->(∀a b,m' - (q'+1)<=a->a < m'->m' - (q'+1)<=b->b < m'->O.kle (kk ky p' a) (kk ky p' b))->J s'->R (p',m',q') s') ->
 (kas_desc f p m q).kasWp cmp R s
 | 0,p,m,q,s,hp,hq,hz,hf,he,hJ,k=>k p m q s hp hq (Nat.le_refl _) (Nat.le_refl _) hf he hJ
 | f+1,p,m,q,s,hp,hq,hz,hf,he,hJ,k=>by
   have hsz:=hp.size
   refine ac _ _ _ s (hp.lt (by omega)) (hp.lt (by omega)) hJ fun s' hJ'=>?_
   cases e:O.blt (ky (p.getD m 0)) (ky (p.getD (m - 1) 0)) with
   | true =>
     dsimp only
     rw [if_pos rfl]
     have hf':Fal ky p (m+1):=hf.succ (by omega) (KeyOrd.kle_of_klt e)
     have one:∀p':Array Nat,∀a b,m+1 - (0+1)<=a->a < m+1->m+1 - (0+1)<=b->b < m+1->O.kle (kk ky p' a) (kk ky p' b):=fun p' a b _ _ _ _=>by
      have:a=b:=by omega
      subst this
      exact KeyOrd.kle_refl _
     by_cases c:q > 0
     ·rw [if_pos c]
      refine desc_ok ac f (kas_rev p (m - (q+1)) m) (m+1) 0 s' (hp.rev _ _) (by omega) (by omega) (hf'.revEq (by omega) (by omega) he) (one _) hJ' fun p' m' q' s2 a1 a2 a3 a4 a5 a6 a7=>?_
      exact k p' m' q' s2 a1 a2 (by omega) (by omega) a5 a6 a7
     ·rw [if_neg c]
      refine desc_ok ac f p (m+1) 0 s' hp (by omega) (by omega) hf' (one _) hJ' fun p' m' q' s2 a1 a2 a3 a4 a5 a6 a7=>?_
      exact k p' m' q' s2 a1 a2 (by omega) (by omega) a5 a6 a7
   | false =>
     dsimp only
     rw [if_neg Bool.false_ne_true]
     refine ac _ _ _ s' (hp.lt (by omega)) (hp.lt (by omega)) hJ' fun s2 hJ2=>?_
     cases e2:O.blt (ky (p.getD (m - 1) 0)) (ky (p.getD m 0)) with
     | true =>
       dsimp only
       rw [if_pos rfl]
       exact k p m q s2 hp hq (Nat.le_refl _) (by omega) hf he hJ2
     | false =>
       dsimp only
       rw [if_neg Bool.false_ne_true]
       have g1:O.kle (kk ky p (m - 1)) (kk ky p m):=e
       have g2:O.kle (kk ky p m) (kk ky p (m - 1)):=e2
       refine desc_ok ac f p (m+1) (q+1) s2 hp (by omega) (by omega) (hf.succ (by omega) g2) (fun a b a1 a2 b1 b2=>?_) hJ2 fun p' m' q' s3 c1 c2 c3 c4 c5 c6 c7=>?_
       ·by_cases ea:a=m
        ·by_cases eb:b=m
         ·rw [ea,eb]
          exact KeyOrd.kle_refl _
         ·rw [ea]
          exact KeyOrd.kle_trans g2 (he (m - 1) b (by omega) (by omega) (by omega) (by omega))
        ·by_cases eb:b=m
         ·rw [eb]
          exact KeyOrd.kle_trans (he a (m - 1) (by omega) (by omega) (by omega) (by omega)) g1
         ·exact he a b (by omega) (by omega) (by omega) (by omega)
       ·exact k p' m' q' s3 c1 c2 (by omega) (by omega) c5 c6 c7
theorem tail3_ok (ac:Asks O ky n cmp J) {p:Array Nat} (hp:Prm n p) {m nrem:Nat} {R:Nat × Array Nat->Shared->Prop} {s:Shared} (h1:1<=m) (h2:m<=nrem) (h3:nrem<=n) (hf:Fal ky p m) (hJ:J s)
 (k:∀m' p' s',1<=m'->m'<=nrem->Prm n p'->Srt ky p' m'->J s'->R (m',p') s'):(kas_tail3 m nrem p).kasWp cmp R s:=by
 have hsz:=hp.size
 unfold kas_tail3
 rw [KasT.kasWp_bind]
 refine asc_ok ac (hp.rev 0 m) (nrem - m) m s h1 (by omega) (hf.rev (by omega)) hJ fun m' s' a1 a2 a3 _ a5=>?_
 exact k m' _ s' (by omega) (by omega) (hp.rev _ _) a3 a5
theorem descPart_ok (ac:Asks O ky n cmp J) {p:Array Nat} (hp:Prm n p) {m nrem:Nat} {R:Nat × Array Nat->Shared->Prop} {s:Shared} (h2:m+1<=nrem) (h3:nrem<=n) (hf:Fal ky p (m+1)) (hJ:J s)
 (k:∀m' p' s',1<=m'->m'<=nrem->Prm n p'->Srt ky p' m'->J s'->R (m',p') s'):(kas_descPart m nrem p).kasWp cmp R s:=by
 unfold kas_descPart
 rw [KasT.kasWp_bind]
 refine desc_ok ac (nrem - (m+1)) p (m+1) 0 s hp (by omega) (by omega) hf (fun a b _ _ _ _=>?_) hJ fun p' m' q' s' a1 a2 a3 a4 a5 a6 a7=>?_
 ·have:a=b:=by omega
  subst this
  exact KeyOrd.kle_refl _
 ·have hsz:=a1.size
  dsimp only
  by_cases c:q' > 0
  ·rw [if_pos c]
   exact tail3_ok ac (a1.rev _ _) (by omega) (by omega) h3 (a5.revEq (by omega) (Nat.le_refl _) a6) a7 k
  ·rw [if_neg c]
   exact tail3_ok ac a1 (by omega) (by omega) h3 a5 a7 k
theorem count_ok (ac:Asks O ky n cmp J) {p:Array Nat} (hp:Prm n p) {R:Nat × Array Nat->Shared->Prop} {s:Shared} (h1:1<=n) (hJ:J s)
 (k:∀m' p' s',1<=m'->m'<=n->Prm n p'->Srt ky p' m'->J s'->R (m',p') s'):(kas_count n p).kasWp cmp R s:=by
 have hsz:=hp.size
 unfold kas_count
 rw [KasT.kasWp_bind]
 refine asc_ok ac hp (n - 1) 1 s (Nat.le_refl _) (by omega) Srt.one hJ fun m s' a1 a2 a3 a4 a5=>?_
 by_cases c:m=n
 ·rw [if_pos (by simpa using c)]
  exact k m p s' a1 (by omega) hp a3 a5
 ·rw [if_neg (by simpa using c)]
  have lt:=a4 (by omega)
  by_cases c1:m > 1
  ·rw [if_pos c1]
   refine ac _ _ _ s' (hp.lt (by omega)) (hp.lt (by omega)) a5 fun s2 hJ2=>?_
   cases e:O.blt (ky (p.getD 0 0)) (ky (p.getD (m - 1) 0)) with
   | true =>
     dsimp only
     rw [if_pos rfl]
     exact k m p s2 a1 (by omega) hp a3 hJ2
   | false =>
     dsimp only
     rw [if_neg Bool.false_ne_true]
     have g:O.kle (kk ky p (m - 1)) (kk ky p 0):=e
     have eq:∀a b,a < m->b < m->O.kle (kk ky p a) (kk ky p b):=fun a b ha hb =>
      KeyOrd.kle_trans (a3 a (m - 1) (by omega) (by omega)) (KeyOrd.kle_trans g (a3 0 b (by omega) hb))
     refine descPart_ok ac (hp.rev 0 m) (by omega) (Nat.le_refl _) ?_ hJ2 k
     intro i j hij hj
     rw [kk_rev (by omega),kk_rev (by omega)]
     by_cases cj:j < m
     ·rw [if_pos ⟨Nat.zero_le _,cj⟩,if_pos ⟨Nat.zero_le _,by omega⟩]
      exact eq _ _ (by omega) (by omega)
     ·have ej:j=m:=by omega
      subst ej
      rw [if_neg (by omega)]
      by_cases ci:i < j
      ·rw [if_pos ⟨Nat.zero_le _,ci⟩]
       exact KeyOrd.kle_trans (KeyOrd.kle_of_klt lt) (eq _ _ (by omega) (by omega))
      ·rw [if_neg (by omega)]
       have:i=j:=by omega
       subst this
       exact KeyOrd.kle_refl _
  ·rw [if_neg c1]
   have em:m=1:=by omega
   subst em
   refine descPart_ok ac hp (by omega) (Nat.le_refl _) ?_ a5 k
   have f1:Fal ky p 1:=fun i j hij hj=>by
    have:i=j:=by omega
    subst this
    exact KeyOrd.kle_refl _
   exact f1.succ (Nat.le_refl _) (KeyOrd.kle_of_klt lt)
theorem place_ok (ac:Asks O ky n cmp J) {p:Array Nat} (hp:Prm n p) {t:Nat} (ht:t < n) {R:Nat->Shared->Prop}:∀(f l r:Nat) (s:Shared),l<=r->r<=t->r - l<=f->(∀i,i < l->O.kle (kk ky p i) (kk ky p t))->(∀i,r<=i->i < t->O.klt (kk ky p t) (kk ky p i)) ->
 Srt ky p t->J s->(∀l' s',l'<=t->(∀i,i < l'->O.kle (kk ky p i) (kk ky p t))->(∀i,l'<=i->i < t->O.klt (kk ky p t) (kk ky p i))->J s'->R l' s')->(kas_place p t f l r).kasWp cmp R s
 | 0,l,r,s,h1,h2,h3,h4,h5,_,hJ,k=>k l s (by omega) h4 (fun i a b=>h5 i (by omega) b) hJ
 | f+1,l,r,s,h1,h2,h3,h4,h5,hs,hJ,k=>by
   unfold kas_place
   by_cases c:l>=r
   ·rw [if_pos c]
    exact k l s (by omega) h4 (fun i a b=>h5 i (by omega) b) hJ
   ·rw [if_neg c]
    refine ac _ _ _ s (hp.lt ht) (hp.lt (by omega)) hJ fun s' hJ'=>?_
    cases e:O.blt (ky (p.getD t 0)) (ky (p.getD ((l+r) / 2) 0)) with
    | true =>
      dsimp only
      rw [if_pos rfl]
      have g:O.klt (kk ky p t) (kk ky p ((l+r) / 2)):=e
      exact place_ok ac hp ht f l ((l+r) / 2) s' (by omega) (by omega) (by omega) h4 (fun i a b=>KeyOrd.klt_of_klt_of_kle g (hs _ _ a b)) hs hJ' k
    | false =>
      dsimp only
      rw [if_neg Bool.false_ne_true]
      have g:O.kle (kk ky p ((l+r) / 2)) (kk ky p t):=e
      exact place_ok ac hp ht f ((l+r) / 2+1) r s' (by omega) h2 (by omega) (fun i a=>KeyOrd.kle_trans (hs i ((l+r) / 2) (by omega) (by omega)) g) h5 hs hJ' k
theorem bin_ok (ac:Asks O ky n cmp J) {R:Array Nat->Shared->Prop}:∀(f:Nat) (p:Array Nat) (t:Nat) (s:Shared),Prm n p->t+f=n->Srt ky p t->J s->(∀p' s',Prm n p'->Srt ky p' n->J s'->R p' s')->(kas_bin f p t).kasWp cmp R s
 | 0,p,t,s,hp,hz,hs,hJ,k=>k p s hp (by have:t=n:=by omega
                                       subst this;exact hs) hJ
 | f+1,p,t,s,hp,hz,hs,hJ,k=>by
   have hsz:=hp.size
   unfold kas_bin
   rw [KasT.kasWp_bind]
   refine place_ok ac hp (by omega) t 0 t s (Nat.zero_le _) (Nat.le_refl _) (by omega) (fun i h=>absurd h (Nat.not_lt_zero _)) (fun i a b=>absurd b (by omega)) hs hJ fun l s' a1 a2 a3 hJ'=>?_
   refine bin_ok ac f (bubble p t (t - l)) (t+1) s' (hp.bub _ _) (by omega) ?_ hJ' k
   intro i j hij hj
   have el:t - (t - l)=l:=by omega
   rw [kk_bub (by omega) (by omega),kk_bub (by omega) (by omega),el]
   by_cases ci:i=l
   ·rw [if_pos ci]
    by_cases cj:j=l
    ·rw [if_pos cj]
     exact KeyOrd.kle_refl _
    ·rw [if_neg cj,if_pos ⟨by omega,by omega⟩]
     exact KeyOrd.kle_of_klt (a3 _ (by omega) (by omega))
   ·rw [if_neg ci]
    by_cases ci2:l < i/\i<=t
    ·rw [if_pos ci2,if_neg (by omega),if_pos ⟨by omega,by omega⟩]
     exact hs _ _ (by omega) (by omega)
    ·rw [if_neg ci2]
     by_cases cj:j=l
     ·rw [if_pos cj]
      exact a2 _ (by omega)
     ·rw [if_neg cj]
      by_cases cj2:l < j/\j<=t
      ·rw [if_pos cj2]
       exact hs _ _ (by omega) (by omega)
      ·rw [if_neg cj2]
       exact hs _ _ hij (by omega)
theorem sort_ok (ac:Asks O ky n cmp J) {R:Array Nat->Shared->Prop} {s:Shared} (h1:1<=n) (hJ:J s) (k:∀p s',Prm n p->Srt ky p n->J s'->R p s'):(kas_sort n).kasWp cmp R s:=by
 unfold kas_sort
 rw [KasT.kasWp_bind]
 refine count_ok ac (List.Perm.refl _) h1 hJ fun m p s' a1 a2 a3 a4 a5=>?_
 dsimp only
 by_cases c:m < n
 ·rw [if_pos c]
  have e:max m 1=m:=by omega
  rw [e]
  exact bin_ok ac (n - m) p m s' a3 (by omega) a4 a5 k
 ·rw [if_neg c]
  have e:m=n:=by omega
  subst e
  exact k p s' a3 a4 a5
end
end L2
namespace L2
open PySem PySem.W PySem.Spec PyProof.Rows
theorem lex_dec:∀a b:List Int,HT.lexLt a b=decide (a < b)
 | [],[]=>by simp [HT.lexLt]
 | [],_ :: _=>by simp [HT.lexLt]
 | _ :: _,[]=>by simp [HT.lexLt]
 | x :: xs,y :: ys=>by
   rw [HT.lexLt_cons,lex_dec xs ys]
   by_cases e:x=y
   ·subst e
    rw [if_pos rfl]
    simp [List.cons_lt_cons_iff]
   ·rw [if_neg e]
    simp [List.cons_lt_cons_iff,e]
noncomputable def lexO:KeyOrd where
 α:=List Int
 blt a b:=HT.lexLt a b
 irrefl a:=by rw [lex_dec];simpa using List.lt_irrefl a
 trans a b c h1 h2:=by
  rw [lex_dec] at *
  simp only [decide_eq_true_eq] at *
  exact List.lt_trans h1 h2
 negTrans a b c h:=by
  rw [lex_dec] at h
  rw [lex_dec,lex_dec]
  simp only [decide_eq_true_eq] at *
  by_cases hab:a < b
  ·exact .inl hab
  ·exact .inr (List.lt_of_le_of_lt (List.not_lt.mp hab) h)
 total a b h1 h2:=by
  rw [lex_dec] at *
  simp only [decide_eq_false_iff_not] at *
  exact List.le_antisymm (List.not_lt.mp h2) (List.not_lt.mp h1)
noncomputable def IsRow (h:Heap) (v:Value) (ns:List Int):Prop:=∃a its,v=.ref a/\IsTup h a its/\IntsAre its.toList ns
section
variable {prog:Program} {w:World} {A:Around} {E:Value->Shared->Prop} {s:Shared} {Q:Bool->Shared->Prop}
theorem row_lex {fin bb:Bool}:∀{vs us:List Value} {ns ms:List Int} (i:Nat),IntsAre vs ns->IntsAre us ms->Q (HT.lexLt ns ms) s->fin=decide (vs.length < us.length)->KatLex prog w A bb fin Q (vs.zip us) i s
 | _,_,_,_,i,.nil,.nil,h,e=>by
   refine kat_nil ?_
   rw [e]
   exact h
 | _,_,_,_,i,.nil,.cons _ _ _,h,e=>by
   refine kat_nil ?_
   rw [e]
   simpa [HT.lexLt] using h
 | _,_,_,_,i,.cons _ _ _,.nil,h,e=>by
   refine kat_nil ?_
   rw [e]
   simpa [HT.lexLt] using h
 | _,_,_,_,i,.cons (vs:=vs) (ns:=ns) x t hv,.cons (vs:=us) (ns:=ms) y u hu,h,e=>by
   refine kat_cons (wpAny_eqBool_int (kat_go (fun c=>?_) (fun c=>?_)))
   ·have xy:x=y:=by simpa using c
    subst xy
    refine kat_yes (row_lex (i+1) hv hu ?_ ?_)
    ·simpa [HT.lexLt] using h
    ·rw [e]
     simp
   ·have xy:¬ x=y:=by simpa using c
    refine kat_no ?_
    have h':Q (decide (x < y)) s:=by simpa [HT.lexLt,xy] using h
    cases (bb && i == 0) with
    | true=>exact oneLt_int h'
    | false=>exact kat_one _ _ (lt_int h')
noncomputable def RowKind (κ:SortKind):Prop:=(∃b,κ=tuples' b)\/κ=general'\/κ=oneType'
theorem row_lt {κ:SortKind} {x y:Value} {ns ms:List Int} (hk:RowKind κ) (hx:IsRow s.heap x ns) (hy:IsRow s.heap y ms) (hu:A.units < cLine) (h:Q (HT.lexLt ns ms) s):wpAny (model prog w) A (keyLt' κ x y) Q E s:=by
 obtain ⟨a,its,rfl,ta,ia⟩:=hx
 obtain ⟨b,jts,rfl,tb,ib⟩:=hy
 rcases hk with ⟨bb,rfl⟩ | rfl | rfl
 ·obtain ⟨o,ho,hc,n,hd⟩:=ta
  obtain ⟨o2,ho2,hc2,n2,hd2⟩:=tb
  exact kat_lt ho hd ho2 hd2 (row_lex 0 ia ib h (by simp))
 ·exact kat_one _ _ (HT.lt_tupInts ta tb ia ib hu h)
 ·rw [keyLt'_oneType,oneLt'_eq]
  simp only [if_true]
  refine wpAny_bind (wpAny_cRoomFor hu ?_)
  obtain ⟨⟨cls,dd,data,sl⟩,ho,hc,n,hd⟩:=id ta
  obtain ⟨⟨cls2,dd2,data2,sl2⟩,ho2,hc2,n2,hd2⟩:=id tb
  simp only at hc hd hc2 hd2
  subst hc hd hc2 hd2
  refine wpAny_bind (wpAny_callSpecialIfBound?_slot (T:="tuple") ⟨_,ho,rfl⟩ PySem.F.slot_tuple_lt (call_meets PySem.F.slot_tuple_lt ⟨_,ho,rfl⟩ PySem.F.entry_tuple_lt (PySem.F.args_tuple_lt_2 _ _) (HT.tuple_lt_ints a b its jts n n2 dd dd2 sl sl2 ns ms ia ib) ⟨ho,ho2,?_⟩))
  exact wpAny_truthy_bool h
theorem ints_first:∀{l:List Value} {ns:List Int},IntsAre l ns->∀{v:Value},l[0]?=some v->∃n t,v=Value.int n t
 | _,_,.nil,v,e=>by simp at e
 | _,_,.cons n t _,v,e=>⟨n,t,by simpa using e.symm⟩
theorem mapM_any {α β:Type} {f:α->Sem β}:∀(l:List α) {R:List β->Shared->Prop},(∀v∈l,∀(Q':β->Shared->Prop),(∀r,Q' r s)->wpAny (model prog w) A (f v) Q' E s)->(∀rs,R rs s)->wpAny (model prog w) A (l.mapM f) R E s
 | [],_,_,h=>by
   rw [List.mapM_nil]
   exact wpAny_pure (h [])
 | x :: l,R,hf,h=>by
   rw [List.mapM_cons]
   exact wpAny_bind (hf x (.head _) _ fun r=>wpAny_bind (mapM_any l (R:=fun bs s'=>wpAny (model prog w) A (pure (r :: bs)) R E s') (fun v hv=>hf v (.tail _ hv)) fun rs=>wpAny_pure (h _)))
theorem one_type {l:List Value} {R:Option Value->Shared->Prop} (hf:∀v∈l,∀(Q':Value->Shared->Prop),(∀r,Q' r s)->wpAny (model prog w) A (typeOf v) Q' E s) (h:∀r,R r s):wpAny (model prog w) A (oneTypeOnly' l.toArray) R E s:=by
 rw [oneTypeOnly'_eq,List.mapM_toArray,map_eq_pure_bind]
 refine wpAny_bind (wpAny_bind (mapM_any l hf fun rs=>wpAny_pure ?_))
 cases rs.toArray[0]? with
 | none=>exact wpAny_pure (h _)
 | some t=>exact wpAny_pure (h _)
theorem row_firsts {rows:List (List Int)}:∀{vs:List Value},Paired (IsRow s.heap) vs rows->∀{R:List (Option Value)->Shared->Prop},(∀fs,fs.length=vs.length->(∀f∈fs,∀v,f=some v->∃n t,v=Value.int n t)->R fs s) ->
 wpAny (model prog w) A (vs.mapM firstOfTuple') R E s:=by
 intro vs hp
 induction hp with
 | nil =>
   intro R h
   rw [List.mapM_nil]
   exact wpAny_pure (h [] rfl (fun f m=>nomatch m))
 | cons hx hr ih =>
   intro R h
   obtain ⟨a,its,rfl,⟨o,ho,hc,n,hd⟩,ia⟩:=hx
   rw [List.mapM_cons]
   refine wpAny_bind ?_
   rw [kas_first_eq]
   refine wpAny_bind (Looks.here (show Looks (model prog w) s.heap (typeOf (.ref a)) o.cls from (Looks.ld ho).andThen .now) ?_)
   rw [hc,if_neg (by first | decide | simp)]
   refine wpAny_bind (listItems_at ho hd (wpAny_pure ?_))
   refine wpAny_bind (ih fun fs l1 l2=>wpAny_pure (h _ (by rw [List.length_cons,List.length_cons,l1]) fun f m v e=>?_))
   rcases List.mem_cons.mp m with m | m
   ·subst m
    have e':its.toList[0]?=some v:=by simpa using e
    exact ints_first ia e'
   ·exact l2 f m v e
theorem row_kind {vs:List Value} {rows:List (List Int)} (hp:Paired (IsRow s.heap) vs rows) {R:SortKind->Shared->Prop} (h:∀κ,RowKind κ->R κ s):wpAny (model prog w) A (keyKind' vs.toArray) R E s:=by
 rw [kat_kind_eq,List.mapM_toArray,map_eq_pure_bind]
 refine wpAny_bind (wpAny_bind (row_firsts hp fun fs l1 l2=>wpAny_pure ?_))
 by_cases c:(fs.toArray.all fun x=>x.isSome)=true
 ·rw [if_pos c]
  refine wpAny_bind (wpAny_rule ?_)
  have e:fs.toArray.filterMap id=(fs.filterMap id).toArray:=by simp
  rw [e]
  refine wpAny_bind (one_type (fun v hv Q' hq=>?_) fun r=>wpAny_pure (h _ (.inl ⟨_,rfl⟩)))
  obtain ⟨f,fm,fe⟩:=List.mem_filterMap.mp hv
  obtain ⟨n,t,rfl⟩:=l2 f fm v fe
  exact wpAny_of_eq (a:=Value.type "int") rfl (hq _)
 ·rw [if_neg c]
  by_cases c2:(fs.toArray[0]?.bind id).isSome=true
  ·rw [if_pos c2]
   exact wpAny_pure (h _ (.inr (.inl rfl)))
  ·rw [if_neg c2]
   refine wpAny_bind (one_type (fun v hv Q' hq=>?_) fun r=>?_)
   ·obtain ⟨ns,hr⟩:∃ns,IsRow s.heap v ns:=by
     clear l1 l2 c c2
     induction hp with
     | nil=>cases hv
     | cons hx _ ih =>
       rcases List.mem_cons.mp hv with m | m
       ·exact ⟨_,m ▸ hx⟩
       ·exact ih m
    obtain ⟨a,its,rfl,⟨o,ho,hc,n,hd⟩,ia⟩:=hr
    exact Looks.here (show Looks (model prog w) s.heap (typeOf (.ref a)) o.cls from (Looks.ld ho).andThen .now) (hq _)
   ·cases r with
    | none=>exact wpAny_pure (h _ (.inr (.inl rfl)))
    | some t=>exact wpAny_pure (h _ (.inr (.inr rfl)))
theorem paired_at {α β:Type} {R:α->β->Prop} (d:α) (e:β):∀{xs:List α} {ys:List β},Paired R xs ys->∀i,i < xs.length->R (xs.getD i d) (ys.getD i e)
 | _,_,.nil,i,h=>absurd h (Nat.not_lt_zero _)
 | _,_,.cons r _,0,_=>r
 | _,_,.cons _ t,i+1,h=>paired_at d e t i (by simpa using h)
theorem map_range_getD (vs:List Value):(List.range vs.length).map (fun i=>vs.getD i Value.none)=vs:=by
 apply List.ext_getElem
 ·simp
 ·intro i h1 h2
  simp [h2]
theorem IsRow.keep {h h':Heap} {v:Value} {ns:List Int} (x:IsRow h v ns) (k:∀b o,o.cls=.type "tuple"->h.get? b=some o->h'.get? b=some o):IsRow h' v ns:=by
 obtain ⟨a,its,rfl,⟨o,ho,hc,n,hd⟩,ia⟩:=x
 exact ⟨a,its,rfl,⟨o,k a o hc ho,hc,n,hd⟩,ia⟩
theorem row_sort {a:Addr} {vs:List Value} {rows:List (List Int)} {n:Nat} {P:PySem.Fin->Shared->Prop} (ho:s.heap.get? a=some (seqObj "list" vs.toArray n)) (hp:Paired (IsRow s.heap) vs rows) (h64:vs.length < 64) (hu:A.units < cLine)
 (h:∀p:Array Nat,Prm vs.length p->Srt (O:=lexO) (fun i=>rows.getD i []) p vs.length->P (.done (.ret .none)) { s with heap:=sortedHeap s.heap a vs (List.toArray (p.toList.map fun i=>vs.getD i Value.none)) }) :
 wpAny (model prog w) A (Builtin.«list.sort» ⟨[.ref a],[]⟩) P E s:=by
 rw [list_sort_plain]
 have ha:a < s.heap.objs.size:=Heap.lt_size ho
 refine wpAny_bind (listItems_at ho rfl ?_)
 refine wpAny_bind (listUpdate_at ho rfl ?_)
 obtain ⟨e1,ho1⟩:∃e1,(s.heap.update a (Obj.mapSeq fun _=>#[])).get? a=some (seqObj "list" #[] e1):=⟨_,get?_update_seq ho (fun _=>#[])⟩
 refine wpAny_bind (seqEpoch_at ho1 rfl ?_)
 refine wpAny_bind (wpAny_newTuple ?_)
 refine wpAny_bind (wpAny_newList ?_)
 refine wpAny_holding ?_
 have ho6:(((s.heap.update a (Obj.mapSeq fun _=>#[])).push (seqObj "tuple" vs.toArray 0)).push (seqObj "list" #[] 0)).get? a=some (seqObj "list" #[] e1):=by
  rw [Heap.get?_push_ne _ _ _ (by rw [size_push',Heap.size_update];exact Nat.ne_of_lt (Nat.lt_succ_of_lt ha)),Heap.get?_push_ne _ _ _ (by rw [Heap.size_update];exact Nat.ne_of_lt ha)]
  exact ho1
 have hp6:Paired (IsRow (((s.heap.update a (Obj.mapSeq fun _=>#[])).push (seqObj "tuple" vs.toArray 0)).push (seqObj "list" #[] 0))) vs rows:=Paired.mapP hp fun v ns x=>x.keep fun b o hc e=>by
  have hb:b≠a:=fun z=>by
   rw [z,ho] at e
   cases e
   exact absurd (show Value.type "list"=Value.type "tuple" from hc) (by decide)
  exact Heap.get?_push_of_some _ (Heap.get?_push_of_some _ ((Heap.get?_update_other _ _ (Ne.symm hb)).trans e))
 show wpAny (model prog w) A _ P E { s with heap:=((s.heap.update a (Obj.mapSeq fun _=>#[])).push (seqObj "tuple" vs.toArray 0)).push (seqObj "list" #[] 0) }
 dsimp only
 have hsz:vs.toArray.size=vs.length:=by simp
 by_cases h2:vs.toArray.size < 2
 ·rw [if_pos h2,if_pos h2]
  refine wpAny_bind (wpAny_pure ?_)
  rw [StateT.run_pure]
  refine wpAny_bind (wpAny_pure ?_)
  dsimp only
  refine wpAny_bind (seqEpoch_at ho6 rfl ?_)
  refine wpAny_bind (listUpdate_at ho6 rfl ?_ (hsz2:=by rw [Array.size_map];show (pairsOf vs).size<=_;rw [pairsOf_size,sizeLine_eq];omega))
  simp only [bne_self_eq_false,Bool.false_eq_true,if_false]
  have hh:=h (List.range vs.length).toArray (List.Perm.refl _) (fun i j hij hj=>by
   have:i=j:=by omega
   subst this
   exact KeyOrd.kle_refl _)
  rw [show (List.range vs.length).toArray.toList.map (fun i=>vs.getD i Value.none)=vs from map_range_getD vs] at hh
  have e:(arrOf (SortSt.mk' general' (vs.toArray.zip vs.toArray) #[] 7 none)).map (·.2)=vs.toArray:=by
   show (vs.toArray.zip vs.toArray).map (·.2)=vs.toArray
   apply Array.ext
   ·simp
   ·intro i h1 h2
    simp
  refine wpAny_pure ?_
  have hh':=hh
  rw [<- e] at hh'
  exact hh'
 ·rw [if_neg h2,if_neg h2]
  refine wpAny_bind (row_kind hp6 fun κ hκ=>?_)
  have ac:Asks lexO (fun i=>rows.getD i []) vs.length (kas_ask prog w A κ vs) (fun s'=>s'={ s with heap:=((s.heap.update a (Obj.mapSeq fun _=>#[])).push (seqObj "tuple" vs.toArray 0)).push (seqObj "list" #[] 0) }):=by
   intro i j C s' hi hj e k
   subst e
   exact row_lt hκ (paired_at Value.none [] hp6 i hi) (paired_at Value.none [] hp6 j hj) hu (k _ rfl)
  refine wpAny_bind (wpAny_mono (kat_run (ks:=vs) (vs:=vs) (Q:=fun st' s'=>∃p:Array Nat,arrOf st'=p.map (kas_item (vs.toArray.zip vs.toArray))/\failedOf st'=none/\s'={ s with heap:=((s.heap.update a (Obj.mapSeq fun _=>#[])).push (seqObj "tuple" vs.toArray 0)).push (seqObj "list" #[] 0) }/\Prm vs.length p/\Srt (O:=lexO) (fun i=>rows.getD i []) p vs.length)
   (G:=fun p s'=>s'={ s with heap:=((s.heap.update a (Obj.mapSeq fun _=>#[])).push (seqObj "tuple" vs.toArray 0)).push (seqObj "list" #[] 0) }/\Prm vs.length p/\Srt (O:=lexO) (fun i=>rows.getD i []) p vs.length)
   rfl (by omega) h64 (fun p st' s' _ a2 a3 g=>⟨p,a2,a3,g⟩) (sort_ok ac (by omega) rfl fun p s' q1 q2 e=>⟨e,q1,q2⟩)) ?_ fun _ _ e=>e)
  rintro ⟨⟨⟩,st'⟩ s' ⟨p,har,hf,rfl,q1,q2⟩
  dsimp only
  have hout:=kat_snds rfl har
  refine wpAny_bind (seqEpoch_at ho6 rfl ?_)
  rw [hout]
  refine wpAny_bind (listUpdate_at ho6 rfl ?_ (hsz2:=by rw [List.size_toArray,List.length_map,Array.length_toList,q1.size,sizeLine_eq];omega))
  rw [hf]
  simp only [bne_self_eq_false,Bool.false_eq_true,if_false]
  exact wpAny_pure (h p q1 q2)
end
section
variable {X:Cx}
theorem vals_refs:∀as:List Addr,Vals (as.map V.ref) (as.map Value.ref)
 | []=>.nil
 | a :: as=>.cons rfl (vals_refs as)
end
end L2
namespace L2
open PySem PySem.W PySem.Spec PyProof.Rows
noncomputable def RawAt (h:Heap) (d:Addr) (es:Array DictEntry) (ep:Nat):Prop:=∃o,h.get? d=some o/\o.ExactDict/\o.data=.dict es ep
theorem RawAt.at {h h':Heap} {d:Addr} {es:Array DictEntry} {ep:Nat} (x:RawAt h d es ep) (e:∀o,h.get? d=some o->h'.get? d=some o):RawAt h' d es ep:=let ⟨o,ho,r⟩:=x;⟨o,e _ ho,r⟩
theorem RawAt.lt {h:Heap} {d:Addr} {es:Array DictEntry} {ep:Nat} (x:RawAt h d es ep):d < h.objs.size:=let ⟨_,ho,_⟩:=x;Heap.lt_size ho
theorem RawAt.typeIs {s:Shared} {d:Addr} {es:Array DictEntry} {ep:Nat} (x:RawAt s.heap d es ep):s.TypeIs (.ref d) "dict":=let ⟨o,ho,hc,_⟩:=x;⟨o,ho,hc.1⟩
section
variable {prog:Program} {w:World} {A:Around} {E:Value->Shared->Prop} {s:Shared} {d:Addr} {es:Array DictEntry} {ep:Nat}
theorem raw_iter {Q:Value->Shared->Prop} (hd:(d == sysModules)=false) (hm:RawAt s.heap d es ep)
 (hQ:Q (.ref s.heap.objs.size) { s with heap:=s.heap.push { cls:=.type "dict_keyiterator",data:=.fields #[.ref d,.int 0 0,.int es.size 0,.int ep 0] } }):wpAny (model prog w) A (pyIter (.ref d)) Q E s:=by
 have hT:=hm.typeIs
 obtain ⟨o,ho,hc,hdat⟩:=id hm
 refine wpAny_pyIter_slot hT F.slot_dict_iter (wpAny_call_entry F.slot_dict_iter hT F.entry_dict_iter ?_ (F.args_dict_iter_1 _))
 unfold Builtin.«dict.__iter__»
 refine wpAny_bind ?_
 unfold Builtin.Dict.dictSlotNone
 refine wpAny_bind (wpAny_notOrdered_dict hT ?_)
 show wpAny _ _ (pure (Value.ref d)) _ _ s
 refine wpAny_pure ?_
 show wpAny _ _ (Builtin.Dict.showsAll d >>= _) _ _ s
 unfold Builtin.Dict.showsAll
 rw [if_neg (by rw [hd];exact Bool.false_ne_true)]
 refine wpAny_bind (wpAny_pure ?_)
 refine wpAny_bind (wpAny_dictEntries ho hdat ?_)
 refine wpAny_bind (wpAny_dictEpoch ho hdat ?_)
 refine wpAny_bind (wpAny_newObj_type (wpAny_pure ⟨_,rfl,"dict_keyiterator",_,⟨_,Heap.get?_push_size _ rfl,rfl⟩,F.slot_dict_keyiterator_next.lookup,?_⟩))
 simpa [rawInt] using hQ
theorem raw_next {it:Addr} {i:Nat} {e:DictEntry} {Q:Option Value->Shared->Prop} (hit:s.heap.IsKeyIter it d i es.size ep) (hm:RawAt s.heap d es ep) (hx:es[i]?=some e)
 (hQ:∀h',h'.IsKeyIter it d (i+1) es.size ep->Heap.SameBut it s.heap h'->Q (some e.key) { s with heap:=h' }):wpAny (model prog w) A (pyNext (.ref it)) Q E s:=by
 obtain ⟨o,ho,hc,hd⟩:=id hit
 obtain ⟨od,hod,hcd,hdd⟩:=id hm
 unfold pyNext
 refine wpAny_bind (wpAny_attempt (wpAny_callSpecial?_slot (name:=Str.ofString "__next__") hit.typeIs F.slot_dict_keyiterator_next
  (wpAny_call_entry F.slot_dict_keyiterator_next hit.typeIs F.entry_dict_keyiterator_next ?_ (F.args_dict_keyiterator_next_1 _))))
 refine wpAny_bind (wpAny_pure ?_)
 refine wpAny_bind ?_
 refine wpAny_bind ?_
 first | refine wpAny_bind (wpAny_typeNameOfWhole_keyiter hit.typeIs (wpAny_pure ?_)) | refine wpAny_bind (wpAny_typeNameOf_keyiter hit.typeIs (wpAny_pure ?_))
 refine wpAny_bind (wpAny_fieldsOf ho hd ?_)
 have hown:Builtin.Dict_items.ownsTuple "dict_keyiterator"=false:=by decide
 simp only [hown,Bool.false_eq_true,if_false]
 show wpAny _ _ (if (Value.ref d == Value.none)=true then _ else _) _ _ s
 rw [if_neg (show ¬ ((Value.ref d == Value.none)=true) from Bool.false_ne_true)]
 refine wpAny_bind (wpAny_pure ?_)
 refine wpAny_bind (wpAny_dictEntries hod hdd ?_)
 rw [if_neg (by simp)]
 refine wpAny_bind (wpAny_pure ?_)
 refine wpAny_bind (wpAny_dictEpoch hod hdd ?_)
 rw [if_neg (by simp)]
 refine wpAny_pure ?_
 simp only [show ¬ ((i:Int) < 0) from by omega,if_false,Int.toNat_natCast,hx]
 refine wpAny_bind ?_
 first | refine wpAny_bind (wpAny_typeNameOfWhole_keyiter hit.typeIs (wpAny_pure ?_)) | refine wpAny_bind (wpAny_typeNameOf_keyiter hit.typeIs (wpAny_pure ?_))
 refine wpAny_bind (wpAny_isOneOf_keyiter hit.typeIs ?_)
 show wpAny _ _ (setField (.ref it) 1 (rawInt ((i:Int)+1)) >>= _) _ _ s
 refine wpAny_bind (wpAny_setField ho hd (by simp) ?_)
 have hit':(s.heap.update it (Obj.mapFields (·.setIfInBounds 1 (rawInt ((i:Int)+1))))).IsKeyIter it d (i+1) es.size ep :=
  ⟨_,Heap.get?_update_self _ ho (Obj.isFreed_of_fields (Obj.data_mapFields hd _)),(Obj.cls_mapFields ..).trans hc,by rw [Obj.data_mapFields hd];simp [rawInt]⟩
 refine wpAny_bind (wpAny_holding ?_)
 refine wpAny_bind (wpAny_isOneOf_keyiter (s:={ s with heap:=s.heap.update it (Obj.mapFields (·.setIfInBounds 1 (rawInt ((i:Int)+1)))) }) hit'.typeIs ?_)
 show wpAny _ _ (pure e.key) _ _ _
 exact wpAny_pure (wpAny_pure ⟨_,rfl,wpAny_pure (hQ _ hit' (Heap.SameBut.update ..))⟩)
theorem raw_end {it:Addr} {i:Nat} {Q:Option Value->Shared->Prop} (hh:A.handled=none) (hit:s.heap.IsKeyIter it d i es.size ep) (hm:RawAt s.heap d es ep) (hx:es.size<=i)
 (hQ:∀h',Heap.ExtBut it s.heap h'->Q none { s with heap:=h' }):wpAny (model prog w) A (pyNext (.ref it)) Q E s:=by
 obtain ⟨o,ho,hc,hd⟩:=id hit
 obtain ⟨od,hod,hcd,hdd⟩:=id hm
 unfold pyNext
 refine wpAny_bind (wpAny_attempt (wpAny_callSpecial?_slot (name:=Str.ofString "__next__") hit.typeIs F.slot_dict_keyiterator_next
  (wpAny_call_entry F.slot_dict_keyiterator_next hit.typeIs F.entry_dict_keyiterator_next ?_ (F.args_dict_keyiterator_next_1 _))))
 refine wpAny_bind (wpAny_pure ?_)
 refine wpAny_bind ?_
 refine wpAny_bind ?_
 first | refine wpAny_bind (wpAny_typeNameOfWhole_keyiter hit.typeIs (wpAny_pure ?_)) | refine wpAny_bind (wpAny_typeNameOf_keyiter hit.typeIs (wpAny_pure ?_))
 refine wpAny_bind (wpAny_fieldsOf ho hd ?_)
 have hown:Builtin.Dict_items.ownsTuple "dict_keyiterator"=false:=by decide
 simp only [hown,Bool.false_eq_true,if_false]
 show wpAny _ _ (if (Value.ref d == Value.none)=true then _ else _) _ _ s
 rw [if_neg (show ¬ ((Value.ref d == Value.none)=true) from Bool.false_ne_true)]
 refine wpAny_bind (wpAny_pure ?_)
 refine wpAny_bind (wpAny_dictEntries hod hdd ?_)
 rw [if_neg (by simp)]
 refine wpAny_bind (wpAny_pure ?_)
 refine wpAny_bind (wpAny_dictEpoch hod hdd ?_)
 rw [if_neg (by simp)]
 refine wpAny_pure ?_
 simp only [show ¬ ((i:Int) < 0) from by omega,if_false,Int.toNat_natCast,Array.getElem?_eq_none hx]
 refine wpAny_bind ?_
 first | refine wpAny_bind (wpAny_typeNameOfWhole_keyiter hit.typeIs (wpAny_pure ?_)) | refine wpAny_bind (wpAny_typeNameOf_keyiter hit.typeIs (wpAny_pure ?_))
 show wpAny _ _ (setField (.ref it) 0 .none >>= _) _ _ s
 refine wpAny_bind (wpAny_setField ho hd (by simp) ?_)
 show wpAny _ _ (newExc (.type "StopIteration") [] >>= _) _ _ _
 refine wpAny_bind ?_
 simp only [newExc,newTuple]
 refine wpAny_bind (wpAny_newObj_type ?_ (by size_fits))
 refine wpAny_bind (m:=firstArgMember _ _) (wpAny_of_eq (a:=Value.none) (by first | rfl | (simp only [firstArgMember];rfl)) ?_)
 refine wpAny_newObj_type ?_ (by size_fits)
 simp only [raiseNew]
 refine wpAny_bind (wpAny_handled ?_)
 rw [show A.in1.handled=none from hh]
 refine wpAny_bind (wpAny_pure (wpAny_throw ?_))
 refine wpAny_bind (wpAny_isInstance (T:="StopIteration") (b:=true) ⟨_,Heap.get?_push_size _ rfl,rfl⟩ isSubtype_stop ?_)
 exact wpAny_pure (hQ _ (((Heap.SameBut.update ..).extBut.push _).push _))
theorem raw_walks (hh:A.handled=none) (I:Addr) (hne:d≠I):Walks prog w A I [I,d] [I] es.size (fun i v=>∃e,es[i]?=some e/\v=e.key) (fun i h=>h.IsKeyIter I d i es.size ep/\RawAt h d es ep) where
 sub:=fun b hb=>by simp at hb;simp [hb]
 frame:=fun _ _ _ st hk=>⟨st.1.at fun o e=>hk I (by simp) o e,st.2.at fun o e=>hk d (by simp) o e⟩
 item:=fun i s Q E hi st hQ=>by
  obtain ⟨e,hx⟩:∃e,es[i]?=some e:=⟨es[i],by simp [hi]⟩
  refine raw_next st.1 st.2 hx fun h' hit' hs'=>?_
  exact hQ e.key h' s.toks ⟨e,hx,rfl⟩ ⟨hit',st.2.at fun o q=>hs'.extBut d o hne q⟩ fun b o hb q=>hs'.extBut b o (fun h=>hb (by simp [h])) q
 done:=fun s Q E st hQ=>raw_end hh st.1 st.2 (Nat.le_refl _) fun h' he'=>hQ h' s.toks fun b o hb q=>he' b o (fun h=>hb (by simp [h])) q
 self:=fun _ _ _ _ st hQ=>wpAny_pyIter_keyiter st.1 hQ
theorem raw_src (lo:(d == sysModules)=false):KdlSrc prog w "dict" d d es.size (fun i v=>∃e,es[i]?=some e/\v=e.key) (fun h=>RawAt h d es ep) where
 type:=fun _ hm=>hm.typeIs
 there:=fun _ hm=>⟨hm.lt,hm.lt⟩
 keep:=fun _ _ hm hk=>hm.at fun o e=>hk d (.inl rfl) o e
 notList:=by decide
 notTuple:=by decide
 hint:=fun _ _ _ _ hm hq=>kdl_hint_dict hm.typeIs hq
 iter:=fun _ s hh hm=>⟨_,_,(fun _ _ hq=>raw_iter lo hm hq),raw_walks hh _ (Nat.ne_of_lt hm.lt),⟨⟨_,Heap.get?_push_size _ rfl,rfl,rfl⟩,hm.at fun o e=>Heap.get?_push_of_some _ e⟩⟩
theorem raw_keys {acc:Array Value} (h:ItemsOf (fun i v=>∃e,es[i]?=some e/\v=e.key) acc es.size):acc=es.map (·.key):=by
 obtain ⟨h1,h2⟩:=h
 apply Array.ext
 ·simpa using h1
 ·intro i hi hj
  obtain ⟨e,he,hk⟩:=h2 i acc[i] (by simp [hi])
  have hi':i < es.size:=by omega
  rw [Array.getElem?_eq_getElem hi'] at he
  rw [hk,Array.getElem_map,Option.some.inj he]
theorem raw_collect {R:List Value->Shared->Prop} (lo:(d == sysModules)=false) (hm:RawAt s.heap d es ep) (hh:A.handled=none) (hn:es.size<=sizeLine)
 (h:∀(h':Heap) (tk:Nat),(∀b o,s.heap.get? b=some o->h'.get? b=some o)->s.heap.objs.size < h'.objs.size->R (es.toList.map (·.key)) { s with heap:=h',toks:=tk }) :
 wpAny (model prog w) A (collect (.ref d)) R E s:=by
 have hlt:=hm.lt
 unfold collect
 refine wpAny_bind (wpAny_runValue (codeAny_builtin entry_proto_collect' ?_))
 rw [Around.under_plainId PySem.F.plain_proto_collect _]
 show wpAny _ A.in1 (newList [] >>= fun l=>again (.builtin "list.__iadd__" ⟨[l,.ref d],[]⟩)) _ _ s
 refine wpAny_bind (wpAny_newObj_type ?_)
 refine wpAny_pure ⟨plainId_quiet PySem.F.plain_list_iadd _,codeAny_builtin entry_list_iadd' ?_⟩
 rw [Around.under_plainId PySem.F.plain_list_iadd _]
 have hS₁:(s.heap.push { cls:=.type "list",data:=.seq ([]:List Value).toArray }).get? s.heap.objs.size=some { cls:=.type "list",data:=.seq #[] }:=Heap.get?_push_size _ rfl
 show wpAny _ A.in1 (Builtin.List.listExtendWith (.ref s.heap.objs.size) (.ref d) (.ref s.heap.objs.size)) _ _ _
 have key:=kdl_extend (A:=A) (s:={ s with heap:=s.heap.push { cls:=.type "list",data:=.seq ([]:List Value).toArray } })
  (R:=fun (q:Result) (s':Shared)=>∃(h':Heap) (tk c':Nat),q=.ok (.ret (.ref s.heap.objs.size))/\s'={ s with heap:=h',toks:=tk } /\
   (∀b o,s.heap.get? b=some o->h'.get? b=some o)/\h'.get? s.heap.objs.size=some { cls:=.type "list",dict:=none,data:=.seq (es.map (·.key)) c',slots:=#[] })
  (raw_src (prog:=prog) (w:=w) (es:=es) (ep:=ep) lo) hh (hm.at fun o e=>Heap.get?_push_of_some _ e) s.heap.objs.size (Nat.ne_of_gt hlt) (Nat.ne_of_gt hlt) (.ref s.heap.objs.size) 0 hS₁
  (fun h' tk acc' c' hk hS' hacc=>⟨h',tk,c',rfl,rfl,fun b o e=>hk b o (Nat.ne_of_lt (Heap.lt_size e)) (Heap.get?_push_of_some _ e),by rw [<- raw_keys hacc];exact hS'⟩) hn
 refine wpAny_mono key (fun fin s' x=>?_) fun e s' x=>?_
 ·cases fin with
  | done f =>
    obtain ⟨h',tk,c',e,rfl,hk,hS'⟩:=x
    cases e
    show wpAny _ A (load s.heap.objs.size >>= _) _ _ _
    refine wpAny_bind (wpAny_load hS' ?_)
    have:=h h' tk hk (Heap.lt_size hS')
    rw [<- Array.toList_map] at this
    exact wpAny_pure this
  | again c₁ =>
    refine ⟨x.1,codeAny_mono x.2 fun q s₂ y=>?_⟩
    obtain ⟨h',tk,c',rfl,rfl,hk,hS'⟩:=y
    show wpAny _ A (load s.heap.objs.size >>= _) _ _ _
    refine wpAny_bind (wpAny_load hS' ?_)
    have:=h h' tk hk (Heap.lt_size hS')
    rw [<- Array.toList_map] at this
    exact wpAny_pure this
 ·obtain ⟨_,_,_,e',_⟩:=x
  cases e'
theorem sorted_keys {vs:List Value} (lo:(d == sysModules)=false) (hm:RawAt s.heap d es ep) (hz:es.size < 64) (hh:A.handled=none) (hv:es.toList.map (·.key)=vs) {R:Value->Shared->Prop}
 (h:∀(h':Heap) (tk:Nat) (a:Addr),(∀b o,s.heap.get? b=some o->h'.get? b=some o/\b≠a)->s.heap.objs.size<=a->h'.get? a=some (seqObj "list" vs.toArray 0) ->
  wpAny (model prog w) A.in1.in1 (Builtin.«list.sort» ⟨[.ref a],[]⟩) (fun fin s'=>∃v,fin=.done (.ret v)/\R (.ref a) s') E { s with heap:=h',toks:=tk }) :
 wpAny (model prog w) A (call (.builtin "sorted") [.ref d]) R E s:=by
 refine Calls.call_function_entry kind_sorted plain_sorted entry_sorted (args_sorted1 _) ?_
 unfold Builtin.«sorted»
 refine wpAny_bind (m:=checkCount "sorted" 1 1 _) (wpAny_pure ?_)
 refine wpAny_bind (raw_collect (A:=A.in1) lo hm hh (by rw [sizeLine_eq];omega) fun h' tk hk ge=>?_)
 rw [hv]
 have hl:vs.length < 64:=by rw [<- hv,List.length_map,Array.length_toList];exact hz
 refine wpAny_bind (wpAny_newList ?_ (by rw [sizeLine_eq];omega))
 have ho:(h'.push (seqObj "list" vs.toArray 0)).get? h'.objs.size=some (seqObj "list" vs.toArray 0):=Heap.get?_push_size _ rfl
 refine wpAny_bind (wpAny_holding (wpAny_call_entry slot_list_sort ⟨_,ho,rfl⟩ entry_list_sort ?_ (args_list_sort _)))
 refine wpAny_mono (h _ tk h'.objs.size (fun b o e=>⟨Heap.get?_push_of_some _ (hk b o e),Nat.ne_of_lt (Heap.lt_size (hk b o e))⟩) (Nat.le_of_lt ge) ho) (fun fin s' x=>?_) fun _ _ x=>x
 obtain ⟨v,rfl,q⟩:=x
 exact ⟨_,rfl,wpAny_pure ⟨_,rfl,q⟩⟩
end
section
variable {X:Cx}
theorem kt_rows {H:Hp}:∀{kvs:List (List Key × V)} {xs:List (List Key × Addr × Value)} {ks:List (List Int)},KT H kvs xs->kvs.map (·.1)=ks.map (List.map Sum.inl) ->
 ∃qs:List (Addr × List Int),xs.map (fun x=>Value.ref x.2.1)=(qs.map (·.1)).map Value.ref/\qs.map (·.2)=ks/\∀q∈qs,H q.1=some (.tup (q.2.map V.int)):=by
 intro kvs xs ks r
 induction r generalizing ks with
 | nil =>
   intro e
   cases ks with
   | nil=>exact ⟨[],rfl,rfl,fun _ m=>nomatch m⟩
   | cons _ _=>cases e
 | @cons p q ps qr hq t ih =>
   intro e
   cases ks with
   | nil=>cases e
   | cons k ks =>
     injection e with e1 e2
     obtain ⟨qs,a1,a2,a3⟩:=ih e2
     refine ⟨(q.2.1,k) :: qs,?_,?_,fun x m=>?_⟩
     ·rw [List.map_cons,a1]
      rfl
     ·rw [List.map_cons,a2]
     ·rcases List.mem_cons.mp m with m | m
      ·subst m
       have h:=hq.2.1
       have e1':p.1=k.map Sum.inl:=e1
       rw [e1',List.map_map] at h
       exact h
      ·exact a3 x m
theorem call_sortedDT (hc:X.calm=true) (hu:X.A.units+64 < cLine):CallR X (.builtin "sorted") (fun xs H Q=>∃(d:Addr) (kvs:List (List Key × V)) (ks:List (List Int)),xs=[.ref d]/\Rd H d (.dT kvs)/\kvs.map (·.1)=ks.map (List.map Sum.inl)/\ks.length < 64 /\
 ∀(l:Addr) (rs:List (Addr × List Int)),(∀q∈rs,H q.1=some (.tup (q.2.map V.int)))->(rs.map (·.2)).Perm ks->rs.Pairwise (fun x y=>HT.lexLt y.2 x.2=false)->H l=none->Q (.ref l) (upd H l (.lst (rs.map fun q=>V.ref q.1)))):=by
 intro pins s σ H xs us Q I r h
 obtain ⟨d,kvs,ks,rfl,hd,hks,h64,q⟩:=h
 obtain ⟨u,rfl,rx⟩:=vals1 r
 cases rx
 obtain ⟨_,lo,xs,kt,o,es,ep,h1,h2,h3,h4,_,_⟩:=dt_rd I.hok hd
 obtain ⟨qs,b1,b2,b3⟩:=kt_rows kt hks
 have hv:es.toList.map (·.key)=(qs.map (·.1)).map Value.ref:=by
  rw [h4,List.map_map,<- b1]
  rfl
 have hql:qs.length=ks.length:=by rw [<- b2,List.length_map]
 have hes:es.size=qs.length:=by
  have:=congrArg List.length hv
  simpa using this
 have hp:Paired (IsRow s.heap) ((qs.map (·.1)).map Value.ref) (qs.map (·.2)):=by
  clear hv hql hes b1 b2
  induction qs with
  | nil=>exact .nil
  | cons q0 qr ih =>
    refine .cons ?_ (ih fun q m=>b3 q (List.mem_cons_of_mem _ m))
    obtain ⟨jts,rj,tj,_⟩:=I.tuple (SqT.of (b3 q0 (List.mem_cons_self ..)))
    exact ⟨q0.1,jts.toArray,rfl,tj,by simpa using intsAre_of rj⟩
 refine sorted_keys lo ⟨o,h1,h2,h3⟩ (by omega) (I.ok.hd hc) hv fun h' tk a kp ge ho=>?_
 have hp':Paired (IsRow h') ((qs.map (·.1)).map Value.ref) (qs.map (·.2)):=Paired.mapP hp fun v ns x=>x.keep fun b o _ e=>(kp b o e).1
 have ll:((qs.map (·.1)).map Value.ref).length=qs.length:=by rw [List.length_map,List.length_map]
 refine row_sort (s:={ s with heap:=h',toks:=tk }) ho hp' (by omega) (by show X.A.units+1+1 < cLine;omega) fun p a1 a2=>⟨_,rfl,?_⟩
 obtain ⟨e,he⟩:=sortedHeap_at (out:=List.toArray (p.toList.map fun i=>((qs.map (·.1)).map Value.ref).getD i Value.none)) ho
 have hfr:H a=none:=I.hok.fresh ge
 have hps:=a1.size
 have lt:∀i∈p.toList,i < qs.length:=fun i m=>by
  have:=List.mem_range.mp (a1.mem_iff.mp m)
  omega
 let rs:=p.toList.map fun i=>qs.getD i (0,[])
 have eo:(p.toList.map fun i=>((qs.map (·.1)).map Value.ref).getD i Value.none)=(rs.map (·.1)).map Value.ref:=by
  show _=((p.toList.map fun i=>qs.getD i (0,[])).map (·.1)).map Value.ref
  simp only [List.map_map]
  refine List.map_congr_left fun i m=>?_
  have hi:=lt i m
  simp [hi]
 rw [eo] at he ⊢
 have pm:rs.Perm qs:=by
  have e1:(List.range ((qs.map (·.1)).map Value.ref).length).map (fun i=>qs.getD i ((0:Addr),([]:List Int)))=qs:=by
   rw [ll]
   apply List.ext_getElem
   ·simp
   ·intro i h1 h2
    simp [h2]
  have:=List.Perm.map (fun i=>qs.getD i ((0:Addr),([]:List Int))) a1
  rw [e1] at this
  exact this
 refine ⟨.ref _,_,I.laid (t':=tk) (fun b o hb=>?_) ge (show ObjOk X.prog X.w _ _ _ (.lst (rs.map fun q=>V.ref q.1)) from ⟨?_,(rs.map (·.1)).map Value.ref,e,?_,he⟩),rfl,q _ rs (fun q m=>b3 q (pm.mem_iff.mp m)) (by rw [<- b2];exact pm.map _) ?_ hfr⟩
 ·obtain ⟨k1,k2⟩:=kp b o hb
  rw [sortedHeap_old k2 (Heap.lt_size k1)]
  exact k1
 ·rw [List.length_map,pm.length_eq,sizeLine_eq]
  omega
 ·have:=vals_refs (rs.map (·.1))
  rw [List.map_map] at this
  exact this
 ·rw [List.pairwise_iff_getElem]
  intro i j hi hj hij
  have hi':i < p.size:=by simpa [rs] using hi
  have hj':j < p.size:=by simpa [rs] using hj
  have g:=a2 i j (by omega) (by omega)
  have gi:(qs.map (·.2)).getD (p.getD i 0) []=(rs[i]).2:=by
   have l1:=lt p[i] (by simp)
   simp [rs,Array.getD,hi',l1]
  have gj:(qs.map (·.2)).getD (p.getD j 0) []=(rs[j]).2:=by
   have l1:=lt p[j] (by simp)
   simp [rs,Array.getD,hj',l1]
  have g2:HT.lexLt ((qs.map (·.2)).getD (p.getD j 0) []) ((qs.map (·.2)).getD (p.getD i 0) [])=false:=g
  rw [gi,gj] at g2
  exact g2
theorem int_keys {P:Program} {w:World} {kvs:List (Key × V)} {vs:List (Key × Value)} (r:KV kvs vs):∀{es:List DictEntry} {ns:List Int},Pairs (mixKind P w) es vs->kvs.map (·.1)=ns.map Sum.inl->IntsAre (es.map (·.key)) ns:=by
 intro es ns hp e
 rw [r.keys] at e
 clear r
 induction hp generalizing ns with
 | nil =>
   cases ns with
   | nil=>exact .nil
   | cons _ _=>cases e
 | @cons ent kv es' vs' h _ t ih =>
   cases ns with
   | nil=>cases e
   | cons n ns =>
     injection e with e1 e2
     have e1':kv.1=Sum.inl n:=e1
     have hk:=h
     rw [e1'] at hk
     rcases keyIs_shape (show keyIs (Sum.inl n) ent.key=true from hk) with ⟨i,t',a,b⟩ | ⟨x,t',a,_⟩
     ·cases a
      rw [List.map_cons,b]
      exact .cons n t' (ih e2)
     ·cases a
theorem call_sortedDI (hc:X.calm=true):CallR X (.builtin "sorted") (fun xs H Q=>∃(d:Addr) (kvs:List (Key × V)) (ns:List Int),xs=[.ref d]/\Rd H d (.dK kvs)/\kvs.map (·.1)=ns.map Sum.inl/\ns.length < 64 /\
 ∀(l:Addr) (ms:List Int),ms.Perm ns->ms.Pairwise (·<=·)->H l=none->Q (.ref l) (upd H l (.lst (ms.map V.int)))):=by
 intro pins s σ H xs us Q I r h
 obtain ⟨d,kvs,ns,rfl,hd,hks,h64,q⟩:=h
 obtain ⟨u,rfl,rx⟩:=vals1 r
 cases rx
 obtain ⟨_,lo,vs,kv,o,es,ep,h1,h2,h3,h4,h5,_⟩:=dk_rd I.hok hd
 have hi:=int_keys kv h5 hks
 have hl:=hi.length
 have hes:es.size=ns.length:=by simpa using hl
 refine sorted_keys lo ⟨o,h1,h2,h3⟩ (by omega) (I.ok.hd hc) rfl fun h' tk a kp ge ho=>?_
 refine list_sort_tree (s:={ s with heap:=h',toks:=tk }) ho hi (by rw [hl];exact h64) fun out ms i1 i2 i3=>⟨_,rfl,?_⟩
 obtain ⟨e,he⟩:=sortedHeap_at (out:=out) ho
 have hfr:H a=none:=I.hok.fresh ge
 refine ⟨.ref _,_,I.laid (t':=tk) (fun b o hb=>?_) ge (show ObjOk X.prog X.w _ _ _ (.lst (ms.map V.int)) from ⟨?_,out.toList,e,vals_ints i1,he⟩),rfl,q _ ms i2 i3 hfr⟩
 ·obtain ⟨k1,k2⟩:=kp b o hb
  rw [sortedHeap_old k2 (Heap.lt_size k1)]
  exact k1
 ·rw [List.length_map,i2.length_eq,sizeLine_eq]
  omega
end
end L2
namespace L2
open PySem
end L2
namespace L2
open PySem PySem.W PySem.Spec PyProof.Rows
section
variable {prog:Program} {w:World} {A:Around} {E:Value->Shared->Prop} {s:Shared}
end
section
variable {prog:Program} {w:World} {A:Around} {R:Result->Shared->Prop} {I:Addr} {fp wr:List Addr} {G:Array GenState->Array GenState->Prop} {n:Nat} {P:Nat->Value->Prop} {St:Nat->Shared->Prop}
end
section
variable {prog:Program} {w:World} {A:Around} {E:Value->Shared->Prop} {s:Shared}
set_option maxRecDepth 100000 in
set_option maxHeartbeats 3200000 in
end
end L2
namespace L2
open PySem PySem.W PySem.Spec PyProof.Rows
section
variable {prog:Program} {w:World} {A:Around} {E:Value->Shared->Prop} {s:Shared}
end
section
variable {prog:Program} {w:World} {A:Around} {E:Value->Shared->Prop} {s:Shared} {a:Addr} {es:Array (Int × Value)} {ep:Nat} {t:SetTable}
end
end L2
namespace L2
open PySem PySem.W PySem.Spec PyProof.Rows
section
variable {X:Cx} {e:Expr} {te:TE} {p p2 pos pos2:Pos}
end
end L2
namespace L2
open PySem PySem.Spec PyProof.Rows
section
variable {X:Cx} {pins:List (Addr × Obj)} {σ:St} {H:Hp} {s:Shared} {h':Heap}
theorem Inv.turnedAll {t':Nat} {fp:List Addr} (I:Inv X pins σ H s) (k:∀b o,b ∉ fp->s.heap.get? b=some o->h'.get? b=some o) (hf:∀b∈fp,FpOk X pins H b):Inv X pins σ H { s with heap:=h',toks:=t' }:=by
 have nin:∀b u,H b=some u->b ∉ fp:=fun b u e z=>by rw [(hf b z).1] at e;cases e
 refine I.step (g':=s.gens) (d':=s.drawn) (ch:=fp) (fun b hb=>?_) (fun b o _ _ hc e _=>k b o hc e) (fun b o _ _ hc e _=>⟨o.slots,k b o hc e⟩) (fun _ _ _ _ n=>n)
  (fun b o hc e=>⟨o,k b o hc e⟩) (fun _ _ e=>e) (fun _ _ _ e=>e) (fun b ps e=>⟨#[],by rw [e];simp⟩) (fun m hm=>?_) (fun b u e=>?_) I.bare
 ·obtain ⟨_,f1,_,f3,f4,f5⟩:=hf b hb
  exact ⟨f3,f1,f4,f5⟩
 ·obtain ⟨o,es,ep,ho,r⟩:=hm
  exact ⟨o,es,ep,k _ o (fun z=>(hf _ z).2.1 rfl) ho,r⟩
 ·refine (I.hok b u e).stay (fun c v hc q=>k c v ?_ q) (fun _ q=>q) fun _ _ q=>q
  rcases hc with z | z
  ·rw [z];exact nin b u e
  ·exact nin c _ z
theorem Inv.laidTurned {t':Nat} {fp:List Addr} {a:Addr} {o:HO} (I:Inv X pins σ H s) (k:∀b u,b ∉ fp->s.heap.get? b=some u->h'.get? b=some u) (hf:∀b∈fp,FpOk X pins H b) (hp:s.heap.objs.size<=a)
 (new:ObjOk X.prog X.w (upd H a o) h' a o):Inv X pins σ (upd H a o) { s with heap:=h',toks:=t' }:=by
 have nin:∀b u,H b=some u->b ∉ fp:=fun b u e z=>by rw [(hf b z).1] at e;cases e
 have hn:H a=none:=I.hok.fresh hp
 refine I.step (g':=s.gens) (d':=s.drawn) (ch:=fp) (fun b hb=>?_) (fun b o _ _ hc e _=>k b o hc e) (fun b o _ _ hc e _=>⟨o.slots,k b o hc e⟩)
  (fun b u _ q n=>by rw [upd_ne (Nat.ne_of_lt (Nat.lt_of_lt_of_le (Heap.lt_size q) hp))];exact n)
  (fun b o hc e=>⟨o,k b o hc e⟩) (fun b xs q=>by rw [upd_ne (ne_of_none q hn)];exact q) (fun b u xs q=>by rw [upd_ne (ne_of_none q hn)];exact q) (fun b ps q=>⟨#[],by rw [upd_ne (ne_of_none q hn),q];simp⟩) (fun m hm=>?_) (fun b u e=>?_) I.bare
 ·obtain ⟨_,f1,_,f3,f4,f5⟩:=hf b hb
  exact ⟨f3,f1,f4,f5⟩
 ·obtain ⟨o,es,ep,ho,r⟩:=hm
  exact ⟨o,es,ep,k _ o (fun z=>(hf _ z).2.1 rfl) ho,r⟩
 ·by_cases hb:b=a
  ·subst hb;rw [upd_same] at e;cases e;exact new
  ·rw [upd_ne hb] at e
   refine (I.hok b u e).stay (fun c v hc q=>k c v ?_ q) (fun c q=>by rw [upd_ne (ne_of_none q hn)];exact q) fun c xs q=>by rw [upd_ne (ne_of_none q hn)];exact q
   rcases hc with z | z
   ·rw [z];exact nin b u e
   ·exact nin c _ z
end
section
variable {X:Cx}
end
section
variable {X:Cx}
end
end L2
namespace L2
open PySem PySem.Spec PyProof.Rows
noncomputable def tCompT (n:Nat) (wi:TI) (g:TG) (tt:TT) (te:TE):TE:=fun σ H Q=>wi σ H fun J H1=>∀D,H1 D=none->∃W:Nat->Nat->List V->Hp->Prop,(∃m,W 0 m [] (upd H1 D (.lst [])))/\∀i m ys H2,W i m ys H2 ->
 H2 D=some (.lst ys)/\((J.stop i H2/\Q (.ref D) H2)\/(J.go i H2/\ys.length < sizeLine/\∀x H3,J.yld i H2 x H3->∀os:St,os.length=n->g x (σ++os) H3 fun σ4 H4=>(∃os':St,σ4=σ++os'/\os'.length=n)/\tt σ4 H4 fun b H5=>if b=true then te σ4 H5 fun y H6=>H6 D=some (.lst ys)/\∃m',m' < m/\W (i+1) m' (ys++[y]) (upd H6 D (.lst (ys++[y])))
  else ∃m',m' < m/\W (i+1) m' ys H5))
structure CompNs (N Nc:List Str) (xs:List Str) (sc fsc:Scope):Prop where
 kind:sc.kind=.function
 cell:∀y∈sc.names,y.2≠.cell
 nm:∀y∈sc.names,y.2=.local->sc.names.lookup y.1=some .local
 own:∀x∈xs,sc.names.lookup x=some .local
 fr:∀y∈sc.names,y.2=.free->fsc.names.lookup y.1=some .cell\/fsc.names.lookup y.1=some .free
 len:Nc.length=N.length+xs.length
 nd:Nc.Nodup
 last:Nc.drop N.length=xs
 slot:((List.range N.length).all fun i=>match Nc[i]? with
  | some y=>(match sc.names.lookup y with | some .free=>N[i]? == some y | some .local=>false | some .cell=>false | _=>true)
  | none=>true)=true
theorem CompNs.at {N Nc:List Str} {xs:List Str} {sc fsc:Scope} (C:CompNs N Nc xs sc fsc) {i:Nat} {y:Str} (hi:i < N.length) (h:Nc[i]?=some y):sc.names.lookup y≠some .local/\sc.names.lookup y≠some .cell/\(sc.names.lookup y=some .free->N[i]?=some y):=by
 have q:=List.all_eq_true.mp C.slot i (List.mem_range.mpr hi)
 rw [h] at q
 dsimp only at q
 cases e:sc.names.lookup y with
 | none=>exact ⟨fun z=>(nomatch z),fun z=>(nomatch z),fun z=>(nomatch z)⟩
 | some k =>
   rw [e] at q
   cases k with
   | «local»=>exact absurd (show false=true from q) Bool.false_ne_true
   | cell=>exact absurd (show false=true from q) Bool.false_ne_true
   | free=>exact ⟨fun z=>(nomatch z),fun z=>(nomatch z),fun _=>by simpa using q⟩
   | _=>exact ⟨fun z=>(nomatch z),fun z=>(nomatch z),fun z=>(nomatch z)⟩
theorem pgc_name {X:Cx} {N Nc xs:List Str} {sc fsc:Scope} {cl:List (Str × Addr)} {s:Shared} {H:Hp} {ex:List Addr} {x:Str} {px:Pos} {j n:Nat} (cn:CompNs N Nc xs sc fsc) (hj:xs[j]?=some x) (hn:n=N.length+j):PG (X.inComp Nc sc cl s H ex) (.Name x px) (gName n):=by
 have own:(relabel sc X.env).names.lookup x=some .local:=by
  have e:=lookup_relabel X.env sc.names x
  rw [cn.own x (List.mem_of_getElem? hj)] at e
  exact e
 refine pg_name (X:=X.inComp Nc sc cl s H ex) cn.nd ?_ (.inl own) (.inr own)
 show Nc[n]?=some x
 rw [hn,<- List.getElem?_drop,cn.last]
 exact hj
theorem loopT {prog:Program} {w:World} {A:Around} {R:Result->Shared->Prop} {s:Shared} {elt tg iter:Expr} {ifs:List Expr} {scope:Scope} {pos:Pos} {it acc:Value} {env:Env} (I:Nat->Shared->Prop)
 (turn:∀n s,I n s->wpAny (model prog w) A (pyNext it) (fun r s₁=>match r with
  | none=>R (.ok .next) s₁
  | some v=>wpAny (model prog w) A (letOwnedTupleGo tg it v) (fun _ z=>wpAny (model prog w) A (assign tg env v) (fun _ s₂ =>
   wpAny (model prog w) A (forIn ifs true fun c r=>if r=true then do let ok <- isTrue c env (eval c env);pure (ForInStep.yield ok) else pure (ForInStep.yield r)) (fun ok s₃ =>
    if ok=true then wpAny (model prog w) A (eval elt env) (fun x s₄=>wpAny (model prog w) A (call (.builtin "list.append") [acc,x]) (fun _ s₅=>∃m,m < n/\I m s₅) (fun _ _=>False) s₄) (fun _ _=>False) s₃
    else ∃m,m < n/\I m s₃) (fun _ _=>False) s₂) (fun _ _=>False) z) (fun _ _=>False) s₁) (fun _ _=>False) s)
 (n:Nat) (h:I n s):codeAny (model prog w) A (.compLoop (.ListComp elt [⟨tg,iter,ifs,0⟩] scope pos) 0 it acc env) R s:=by
 refine codeAny_loop rfl I (fun k z y=>?_) n h
 show wpAny _ A ((compTurn (.ListComp elt [⟨tg,iter,ifs,0⟩] scope pos) 0 it acc env).onRaise fun x=>do noteFrame x env;theTreesLotGoes x) _ _ z
 refine wpAny_noted ?_
 rw [compTurn_list]
 refine wpAny_bind (wpAny_standAt (wpAny_bind (thnF (turn k z y) fun r s₁ q1=>?_)))
 cases r with
 | none=>exact wpAny_pure q1
 | some v =>
   refine wpAny_bind (thnF q1 fun _ z q2=>wpAny_bind (thnF q2 fun _ s₂ q3=>wpAny_bind (thnF q3 fun ok s₃ q4=>?_)))
   cases ok with
   | false=>exact wpAny_pure ⟨rfl,q4⟩
   | true=>exact wpAny_bind (wpAny_bind (thnF q4 fun x s₄ q5=>wpAny_bind (thnF q5 fun _ s₅ q6=>wpAny_pure (wpAny_pure ⟨rfl,q6⟩))))
section
variable {X:Cx} {elt iter:Expr} {xs:List Str} {tg:Expr} {g:TG} {pos:Pos} {ifs:List Expr} {sc fsc:Scope} {N Nc:List Str} {wi:TI} {tt:TT} {te:TE}
theorem comp_coreT (hE:X.env.scope=fsc) (hXN:X.N=N) (cn:CompNs N Nc xs sc fsc) (hc:X.calm=true)
 (hg:∀cl s H ex,PG (X.inComp Nc sc cl s H ex) tg g) (ht:∀cl s H ex,PIfs (X.inComp Nc sc cl s H ex) ifs tt) (he:∀cl s H ex,PE (X.inComp Nc sc cl s H ex) elt te)
 {cl:List (Str × Addr)} (clS:∀y c,cl.lookup y=some c->X.env.cells.lookup y=some c) (clH:∀y∈sc.names,y.2=.free->∃c,cl.lookup y.1=some c)
 {pins:List (Addr × Obj)} {σ:St} {H2:Hp} {s2:Shared} {it:Addr} {fp:List Addr} {tn:Nat->Heap->Prop} {J:It} {Q:VK} {E:Value->Shared->Prop}
 (I2:Inv X pins σ H2 s2) (T:Turn X.prog X.w X.K tg J fp it tn) (st2:tn 0 s2.heap) (f2:∀b∈fp,FpOk X pins H2 b)
 (h2:∀D,H2 D=none->∃W:Nat->Nat->List V->Hp->Prop,(∃m,W 0 m [] (upd H2 D (.lst [])))/\∀i m ys H2,W i m ys H2 ->
  H2 D=some (.lst ys)/\((J.stop i H2/\Q (.ref D) H2)\/(J.go i H2/\ys.length < sizeLine/\∀x H3,J.yld i H2 x H3->∀os:St,os.length=xs.length->g x (σ++os) H3 fun σ4 H4=>(∃os':St,σ4=σ++os'/\os'.length=xs.length)/\tt σ4 H4 fun b H5=>if b=true then te σ4 H5 fun y H6=>H6 D=some (.lst ys)/\∃m',m' < m/\W (i+1) m' (ys++[y]) (upd H6 D (.lst (ys++[y])))
   else ∃m',m' < m/\W (i+1) m' ys H5))) :
 wpAny (model X.prog X.w) X.A (newList []) (fun acc s₃=>wpAny (model X.prog X.w) X.A (newFunctionEnv sc X.env.globals cl [] X.env.qual none .none (some X.env)) (fun cenv s₄ =>
  codeAny (model X.prog X.w) X.A (.compStart (.ListComp elt [⟨tg,iter,ifs,0⟩] sc pos) 0 (.ref it) acc { cenv with scope:=relabel sc X.env })
   (fun r s'=>r=.ok .next/\∃D H',acc=.ref D/\Inv X pins σ H' s'/\Q (.ref D) H'/\CLoc X pins H' cenv.locals/\∃m,s'.heap.Ns cenv.locals m) s₄) E s₃) E s2:=by
 refine wpAny_newObj_type (wpAny_newFunctionEnv cn.cell (by intro y hy;simp at hy) (fun h₁ hns₁ hsb₁=>?_) cn.kind)
 dsimp only at hns₁ hsb₁ ⊢
 have hD:H2 s2.heap.objs.size=none:=I2.hok.fresh (Nat.le_refl _)
 obtain ⟨W,⟨m0,w0⟩,turn⟩:=h2 s2.heap.objs.size hD
 have I3:Inv X pins σ (upd H2 s2.heap.objs.size (.lst [])) { s2 with heap:=s2.heap.push { cls:=.type "list",dict:=none,data:=.seq ([]:List Value).toArray } } :=
  I2.laid (t':=s2.toks) (fun b u e=>Heap.get?_push_of_some _ e) (Nat.le_refl _) ⟨Nat.zero_le _,[],0,.nil,Heap.get?_push_size _ rfl⟩
 generalize hs3:({ s2 with heap:=s2.heap.push { cls:=.type "list",dict:=none,data:=.seq ([]:List Value).toArray } }:Shared)=s3 at I3
 have eh:s3.heap=s2.heap.push { cls:=.type "list",dict:=none,data:=.seq ([]:List Value).toArray }:=by rw [<- hs3]
 have e2:({ s2 with heap:=h₁,toks:=s2.toks+([]:List (Str × Value)).length }:Shared)={ s3 with heap:=h₁,toks:=s3.toks }:=by rw [<- hs3];rfl
 generalize hH3:upd H2 s2.heap.objs.size (.lst [])=H3 at I3 w0
 rw [<- eh] at hns₁ hsb₁ ⊢
 rw [e2]
 have below2:∀b,b∈fp->b < s3.heap.objs.size:=fun b hb=>by
  obtain ⟨o,e,_⟩:=T.obj _ _ st2 b hb
  have:s2.heap.objs.size<=s3.heap.objs.size:=by rw [eh,Heap.size_push];exact Nat.le_succ _
  exact Nat.lt_of_lt_of_le (Heap.lt_size e) this
 have old:∀b o,s3.heap.get? b=some o->h₁.get? b=some o:=fun b o e=>(hsb₁.2 b (Nat.ne_of_lt (Heap.lt_size e))).trans (Heap.get?_push_of_some _ e)
 have old2:∀b o,s2.heap.get? b=some o->s3.heap.get? b=some o:=fun b o e=>by rw [eh];exact Heap.get?_push_of_some _ e
 have hsz3:s2.heap.objs.size < s3.heap.objs.size:=by rw [eh,Heap.size_push];exact Nat.lt_succ_self _
 have fpFree:∀b∈fp,H3 b=none:=fun b hb=>by
  rw [<- hH3,upd_ne (fun z=>?_)]
  ·exact (f2 b hb).1
  ·obtain ⟨o,e,_⟩:=T.obj _ _ st2 b hb
   have:=Heap.lt_size e
   rw [z] at this
   exact Nat.lt_irrefl _ this
 have rl:∀y,(relabel sc X.env).names.lookup y=(sc.names.lookup y).map fun k=>if (k == NameKind.free && X.env.scope.kind == .function && X.env.kindOf y == some .cell) then NameKind.cell else k:=fun y=>lookup_relabel X.env sc.names y
 have freeOf:∀y,sc.names.lookup y=some .free->∃c,cl.lookup y=some c:=fun y e=>clH (y,.free) (PySem.mem_of_lookup e) rfl
 have noCell:∀y,sc.names.lookup y≠some .cell:=fun y e=>cn.cell (y,.cell) (PySem.mem_of_lookup e) rfl
 have isFree:∀y,((relabel sc X.env).names.lookup y=some .cell\/(relabel sc X.env).names.lookup y=some .free)->sc.names.lookup y=some .free:=fun y h=>by
  rw [rl y] at h
  cases e:sc.names.lookup y with
  | none=>rw [e] at h;rcases h with z | z <;> exact absurd z (by simp)
  | some k =>
    rw [e] at h
    cases k with
    | free=>rfl
    | cell=>exact absurd e (noCell y)
    | «local»=>rcases h with z | z <;> exact absurd z (by simp)
    | _=>rcases h with z | z <;> exact absurd z (by simp)
 have exOk:∀b∈fp,b≠s3.heap.objs.size/\(∀y c,X.env.cells.lookup y=some c->c≠b)/\b ∉ frs X.stack:=fun b hb=>by
  obtain ⟨g0,g1,g2,g3,g4,g5⟩:=f2 b hb
  refine ⟨Nat.ne_of_lt (below2 b hb),g4,fun z=>?_⟩
  rcases List.mem_cons.mp (I2.stkSub b z) with z | z
  ·exact g1 z
  ·exact g2 z
 have hCnew:X.s₀.heap.objs.size<=s3.heap.objs.size:=I3.sz
 have hCcell:∀y c,X.env.cells.lookup y=some c->c≠s3.heap.objs.size:=fun y c e z=>by
  obtain ⟨v,q⟩:=I3.cell y c e
  have:=q.lt
  rw [z] at this
  exact Nat.lt_irrefl _ this
 have hCpin:∀p∈X.pn++pins,p.1≠s3.heap.objs.size:=fun p hp z=>by
  have:=Heap.lt_size (I3.pin p hp).1
  rw [z] at this
  exact Nat.lt_irrefl _ this
 have okc:(X.inComp Nc sc cl s3 H3 fp).Ok:=by
  refine ⟨I3.ok.mod,cn.kind,I3.ok.glob,I3.ok.blt,Nat.le_refl _,fun y z c h1 h2=>I3.ok.inj y z c (clS y c h1) (clS z c h2),fun y hy=>freeOf y (isFree y hy),fun y c hf=>absurd (show false=true from hf) Bool.false_ne_true,I3.ok.hd,I3.ok.frames,.inl rfl,
   fun b hb=>⟨(exOk b hb).1,fun y c e=>(exOk b hb).2.1 y c (clS y c e)⟩,fun b o e=>I3.bs b o e,Nat.le_trans I3.ok.bsz I3.sz,fun b o e hb=>?_,fun b hb=>(exOk b hb).2.2,I3.stack,I3.stkFree⟩
  obtain ⟨g0,g1,g2,g3,g4,g5⟩:=f2 b hb
  rcases g3 with z | z
  ·exact I3.ok.noex b o e z
  ·exact absurd (Heap.lt_size (I3.ok.bs b o e).1) (Nat.not_lt.mpr z)
 have hlen:σ.length=N.length:=by rw [I3.len,hXN]
 have Ic:Inv (X.inComp Nc sc cl s3 H3 fp) [] (σ++List.replicate xs.length none) H3 { s3 with heap:=h₁,toks:=s3.toks }:=by
  refine ⟨okc,rfl,I3.bare,Un.kept old,⟨_,hns₁,fun i y v h1 h2 h3=>?_⟩,fun y c e=>?_,I3.hok.fresh (Nat.le_refl _),fun y c e=>I3.freeC y c (clS y c e),fun p hp=>absurd (show p∈([]:List (Addr × Obj)) from hp) (by simp),I3.hok.kept old,?_⟩
  ·have hi:i < σ.length:=by
    by_cases hi:i < σ.length
    ·exact hi
    ·rw [List.getElem?_append_right (Nat.not_lt.mp hi)] at h2
     rw [List.getElem?_replicate] at h2
     split at h2 <;> cases h2
   rw [List.getElem?_append_left hi] at h2
   have hi':i < N.length:=by rw [<- hlen];exact hi
   obtain ⟨n1,n2,n3⟩:=cn.at hi' h1
   have hf:sc.names.lookup y=some .free:=by
    rcases h3 with z | z
    ·exfalso
     have z':(relabel sc X.env).names.lookup y=some .local:=z
     rw [rl y] at z'
     cases e:sc.names.lookup y with
     | none=>rw [e] at z';simp at z'
     | some k =>
       rw [e] at z'
       cases k with
       | «local»=>exact n1 e
       | cell=>exact n2 e
       | free =>
         simp only [Option.map_some,Option.some.injEq] at z'
         split at z' <;> cases z'
       | _=>simp at z'
    ·exact isFree y z
   have hN:X.N[i]?=some y:=by rw [hXN];exact n3 hf
   obtain ⟨m,hn,hl⟩:=I3.loc
   have hv:fsc.names.lookup y=some .cell\/fsc.names.lookup y=some .free:=cn.fr (y,.free) (PySem.mem_of_lookup hf) rfl
   have hv':X.env.scope.names.lookup y=some .cell\/X.env.scope.names.lookup y=some .free:=by rw [hE];exact hv
   obtain ⟨u,ru,lk⟩:=hl i y v hN h2 (.inr hv')
   refine ⟨u,ru,.inr ⟨?_,?_⟩⟩
   ·show (relabel sc X.env).names.lookup y=some .cell\/(relabel sc X.env).names.lookup y=some .free
    rw [rl y,hf]
    simp only [Option.map_some,Option.some.injEq]
    split
    ·exact .inl rfl
    ·exact .inr rfl
   ·rcases lk with ⟨kl,_⟩ | ⟨_,c,hc,hcell⟩
    ·exfalso
     have kl':X.env.scope.names.lookup y=some .local:=kl
     rw [kl'] at hv'
     rcases hv' with z | z <;> cases z
    ·obtain ⟨d,hd⟩:=freeOf y hf
     have ed:=clS y d hd
     rw [hc] at ed
     cases ed
     exact ⟨c,hd,hcell.keeps old⟩
  ·obtain ⟨v,q⟩:=I3.cell y c (clS y c e)
   exact ⟨v,q.keeps old⟩
  ·show (σ++List.replicate xs.length none).length=Nc.length
   rw [List.length_append,hlen,cn.len,List.length_replicate]
 have stc:tn 0 ({ s3 with heap:=h₁,toks:=s3.toks }:Shared).heap:=T.keep _ _ _ st2 fun b _ o e=>old b o (old2 b o e)
 have hDf:s2.heap.objs.size ∉ fp:=fun hm=>by
  obtain ⟨o,e,_⟩:=T.obj _ _ st2 _ hm
  exact Nat.lt_irrefl _ (Heap.lt_size e)
 have fpc:∀{pins':List (Addr × Obj)} {H':Hp},pins'=[]->(∀b∈fp,H' b=none)->∀b∈fp,FpOk (X.inComp Nc sc cl s3 H3 fp) pins' H' b:=fun {pins' H'} hp hn b hb=>by
  subst hp
  exact ⟨hn b hb,(exOk b hb).1,(exOk b hb).2.2,.inl hb,fun y c e=>(exOk b hb).2.1 y c (clS y c e),fun p hp=>absurd (show p∈([]:List (Addr × Obj)) from hp) (by simp)⟩
 have loop:∀s₄:Shared,s₄={ s3 with heap:=h₁,toks:=s3.toks } ->
  codeAny (model X.prog X.w) X.A (.compLoop (.ListComp elt [⟨tg,iter,ifs,0⟩] sc pos) 0 (.ref it) (.ref s2.heap.objs.size) (compEnvC sc cl s3.heap.objs.size X.env))
   (fun r s'=>r=.ok .next/\∃D H',(Value.ref s2.heap.objs.size)=.ref D/\Inv X pins σ H' s'/\Q (.ref D) H'/\CLoc X pins H' s3.heap.objs.size/\∃m,s'.heap.Ns s3.heap.objs.size m) s₄:=by
  rintro s₄ rfl
  refine loopT (fun n s'=>∃(i:Nat) (o:St) (H':Hp) (ys:List V),o.length=xs.length/\Inv (X.inComp Nc sc cl s3 H3 fp) [] (σ++o) H' s'/\tn i s'.heap/\(∀b∈fp,H' b=none)/\W i n ys H') ?_ m0 ⟨0,_,H3,[],List.length_replicate ..,Ic,stc,fpFree,w0⟩
  rintro n s' ⟨i,o,H',ys,lo,I',st',fr',w'⟩
  obtain ⟨hDl,tw⟩:=turn i n ys H' w'
  rcases tw with ⟨stop,q⟩ | ⟨go,hz,step⟩
  ·
   refine thn (T.done (X.inComp Nc sc cl s3 H3 fp) rfl rfl rfl hc i [] s' _ H' _ I' (fpc rfl fr') st' stop) fun r s5 ⟨hr,I5⟩=>?_
   subst hr
   have Ix:Inv X pins σ H' s5:=I3.call' (ch:=fp) I5.os I5.base I5.hok I5.bare fun b hb=>by
    obtain ⟨g0,g1,g2,g3,g4,g5⟩:=f2 b hb
    exact ⟨g3,g1,g4,g5⟩
   have hCf:H' s3.heap.objs.size=none:=I5.free
   obtain ⟨m,hn,_⟩:=I5.loc
   exact ⟨rfl,s2.heap.objs.size,H',rfl,Ix,q,⟨hCf,fun z=>Nat.lt_irrefl _ (by have:=I3.lt;rw [<- z] at this;exact this),hCnew,hCcell,hCpin⟩,m,hn⟩
  ·
   refine thn (T.item (X.inComp Nc sc cl s3 H3 fp) rfl rfl rfl hc i [] s' _ H' _ I' (fpc rfl fr') st' go) fun r s5 ⟨u,hr,h4⟩=>?_
   subst hr
   dsimp only
   refine thnF h4 fun _ s6 ⟨xv,H5,I5,r5,y5,st5,fr5⟩=>?_
   have I5':=I5.pinned (fpc rfl fr5) (T.obj _ _ st5)
   have again:∀{o':St} {H7:Hp} {s7:Shared} {m':Nat} {ys':List V},o'.length=xs.length->Inv (X.inComp Nc sc cl s3 H3 fp) ([]++pinsAt fp s6.heap) (σ++o') H7 s7->m' < n->W (i+1) m' ys' H7 ->
    ∃m,m < n/\∃(i:Nat) (o:St) (H':Hp) (ys:List V),o.length=xs.length/\Inv (X.inComp Nc sc cl s3 H3 fp) [] (σ++o) H' s7/\tn i s7.heap/\(∀b∈fp,H' b=none)/\W i m ys H':=fun {o' H7 s7 m' ys'} lo' I7 hm w7=>by
    refine ⟨m',hm,i+1,o',H7,ys',lo',I7.unpinned,T.keep _ _ _ st5 fun b hb o e=>(I7.pin (b,o) (List.mem_append_right _ (List.mem_append_right _ (mem_pinsAt hb e)))).1,fun b hb=>?_,w7⟩
    obtain ⟨o',e,d⟩:=T.obj _ _ st5 b hb
    exact (I7.pin (b,o') (List.mem_append_right _ (List.mem_append_right _ (mem_pinsAt hb e)))).2.1
   refine thnF (hg cl s3 H3 fp _ s6 _ H5 xv u _ I5' r5 (step xv _ y5 o lo)) fun _ s7 ⟨σ7,H7,I7,⟨o7,e7,lo7⟩,q7⟩=>?_
   subst e7
   refine thnF (ht cl s3 H3 fp _ s7 _ _ _ I7 q7) fun b s8 ⟨H8,I8,q8⟩=>?_
   cases b with
   | false =>
     rw [if_neg Bool.false_ne_true] at q8 ⊢
     obtain ⟨m',hm,w8⟩:=q8
     exact again lo7 I8 hm w8
   | true =>
     rw [if_pos rfl] at q8 ⊢
     refine thnF (he cl s3 H3 fp _ s8 _ H8 _ I8 q8) fun y s9 ⟨yv,H9,I9,r9,hD9,m',hm,w9⟩=>?_
     refine thnF (mt_append _ s9 _ H9 (.ref s2.heap.objs.size) [yv] (.ref s2.heap.objs.size) [y] (fun v H=>v=.non/\H=upd H9 s2.heap.objs.size (.lst (ys++[yv]))) I9 rfl (.cons r9 .nil) ⟨_,ys,yv,rfl,rfl,hD9,hz,rfl,rfl⟩) fun _ s10 ⟨v10,H10,I10,r10,e10,e11⟩=>?_
     subst e11
     exact again lo7 I10 hm w9
 exact codeAny_compStart_list (loop _ rfl) (T.self _ 0 _ _ _ stc (loop _ rfl))
theorem comp_hasT (I:∀y,(X.env.kindOf y=some .cell\/X.env.kindOf y=some .free)->∃c,X.env.cells.lookup y=some c) (hE:X.env.scope=fsc) (cn:CompNs N Nc xs sc fsc):∀y∈sc.names,y.2=.free->∃c,X.env.cells.lookup y.1=some c:=fun y hy hf=>by
 refine I y.1 ?_
 show X.env.scope.names.lookup y.1=some .cell\/X.env.scope.names.lookup y.1=some .free
 rw [hE]
 exact cn.fr y hy hf
theorem pe_compT (hE:X.env.scope=fsc) (hXN:X.N=N) (cn:CompNs N Nc xs sc fsc) (hc:X.calm=true) (hi:PI X tg iter wi)
 (hg:∀cl s H ex,PG (X.inComp Nc sc cl s H ex) tg g) (ht:∀cl s H ex,PIfs (X.inComp Nc sc cl s H ex) ifs tt) (he:∀cl s H ex,PE (X.inComp Nc sc cl s H ex) elt te)
 (hs:∀v,foldedSetIterable iter X.env v=pure v:=by intro _;rfl):PE X (.ListComp elt [⟨tg,iter,ifs,0⟩] sc pos) (tCompT xs.length wi g tt te):=by
 intro pins s σ H Q I h
 obtain ⟨cl,hcl,clS,clH⟩:=closure_ok (env:=X.env) (sc:=sc) (comp_hasT I.ok.has hE cn)
 rw [eval_ListComp]
 refine wpAny_comprehension_free (use:=none) rfl hs hcl cn.kind cn.nm (thn (hi pins s σ H _ I h) fun v s1 h1=>thn h1 fun itv s2 h2=>?_)
 obtain ⟨it,fp,tn,J,H2,rfl,I2,T,st2,f2,h2⟩:=h2
 refine thn (comp_coreT (pos:=pos) (iter:=iter) hE hXN cn hc hg ht he clS clH I2 T st2 f2 h2) fun acc s3 h3=>thn h3 fun cenv s4 h4=>codeAny_mono h4 fun r s' h5=>?_
 obtain ⟨rfl,D,H',rfl,I',q,cloc,m,hn⟩:=h5
 exact ⟨m,hn,fun h' k=>⟨.ref D,H',I'.sameBut cloc k,rfl,q⟩⟩
theorem ps_setCT {j:Nat} {y:Str} {py spos:Pos} (hE:X.env.scope=fsc) (hXN:X.N=N) (cn:CompNs N Nc xs sc fsc) (hc:X.calm=true) (hnd:X.N.Nodup) (hj:X.N[j]?=some y) (hy:X.env.scope.names.lookup y=some .local) (hi:PI X tg iter wi)
 (hg:∀cl s H ex,PG (X.inComp Nc sc cl s H ex) tg g) (ht:∀cl s H ex,PIfs (X.inComp Nc sc cl s H ex) ifs tt) (he:∀cl s H ex,PE (X.inComp Nc sc cl s H ex) elt te)
 (hsw:swapsWith (.ListComp elt [⟨tg,iter,ifs,0⟩] sc pos) (some (.Name y py)) spos.line X.env=pure true)
 (hs:∀v,foldedSetIterable iter X.env v=pure v:=by intro _;rfl):PS X (.Assign [.Name y py] (.ListComp elt [⟨tg,iter,ifs,0⟩] sc pos) spos) (tAsg (tCompT xs.length wi g tt te) (gName j)):=by
 intro pins s σ H D I h
 obtain ⟨cl,hcl,clS,clH⟩:=closure_ok (env:=X.env) (sc:=sc) (comp_hasT I.ok.has hE cn)
 rw [exec_Assign_Name_used _ _ _ _ hsw]
 refine wpAny_bind (wpAny_standAt (wpAny_bind ?_))
 show wpAny _ X.A (do let _ <- comprehension (.ListComp elt [⟨tg,iter,ifs,0⟩] sc pos) sc X.env _ (newList []) false (eval iter X.env) (some (assign (.Name y py) X.env))) _ _ s
 refine wpAny_bind (thn (wpAny_comprehension_free (Q:=fun _ s'=>SP X pins D .next s') rfl hs hcl cn.kind cn.nm (thn (hi pins s σ H _ I h) fun v s1 h1=>thn h1 fun itv s2 h2=>?_)) fun _ s' hq=>wpAny_pure (wpAny_pure hq))
 obtain ⟨it,fp,tn,J,H2,rfl,I2,T,st2,f2,h2⟩:=h2
 refine thn (comp_coreT (pos:=pos) (iter:=iter) (Q:=fun x H1=>gName j x σ H1 D.nx) hE hXN cn hc hg ht he clS clH I2 T st2 f2 h2) fun acc s3 h3=>thn h3 fun cenv s4 h4=>codeAny_mono h4 fun r s' h5=>?_
 obtain ⟨rfl,D',H',rfl,I',q,cloc,m,hn⟩:=h5
 refine wpAny_assign_Name (store_ok2 (v:=.ref D') I' hnd hj (.inl hy) rfl (fun s6 I6 sb=>?_) (.inr hy))
 obtain ⟨a,k,ha⟩:=sb
 refine ⟨m,hn.sameBut k (fun z=>?_),fun h' k'=>⟨_,H',I6.sameBut cloc k',q⟩⟩
 rcases ha with ha | ha
 ·exact cloc.ne (z.trans ha)
 ·exact cloc.cells _ _ ha z.symm
end
theorem comp_pairs {K:PySem.W.Frag} {a:Addr} {zs:List V} {tt:TT} {te:TE} {σ:St} {H1:Hp} {Q:Addr->Hp->Prop} {n m:Nat} (hn:n=σ.length) (hm:m=σ.length+1) (hz:zs.length<=sizeLine) (Pv:Addr->Nat->List V->Hp->Prop)
 (h0:∀D,H1 D=none->Pv D 0 [] (upd H1 D (.lst []))) (hD:∀D i ys H,Pv D i ys H->H D=some (.lst ys)/\ys.length<=i) (hl:∀D i ys H,H1 D=none->Pv D i ys H->SqL K H a zs)
 (hs:∀D i x ys H (K1:VK) (K2:Hp->Prop),H1 D=none->zs[i]?=some x->Pv D i ys H->(∀y H5,H5 D=some (.lst ys)->Pv D (i+1) (ys++[y]) (upd H5 D (.lst (ys++[y])))->K1 y H5)->(∀H4,Pv D (i+1) ys H4->K2 H4) ->
  ∃t v w,x=.ref t/\SqT K H t [v,w]/\tt (σ++[some v,some w]) H fun b H4=>if b=true then te (σ++[some v,some w]) H4 K1 else K2 H4)
 (hd:∀D ys H,H1 D=none->Pv D zs.length ys H->Q D H) :
 ∀D,H1 D=none->∃W:Nat->Nat->List V->Hp->Prop,(∃m,W 0 m [] (upd H1 D (.lst [])))/\∀i k ys H2,W i k ys H2 ->
  H2 D=some (.lst ys)/\(((Itl K a).stop i H2/\Q D H2)\/((Itl K a).go i H2/\ys.length < sizeLine/\∀x H3,(Itl K a).yld i H2 x H3->∀os:St,os.length=2->gTup K 2 (gCons (gName n) (gCons (gName m) gNil)) x (σ++os) H3 fun σ4 H4=>(∃os':St,σ4=σ++os'/\os'.length=2)/\tt σ4 H4 fun b H5=>if b=true then te σ4 H5 fun y H6=>H6 D=some (.lst ys)/\∃m',m' < k/\W (i+1) m' (ys++[y]) (upd H6 D (.lst (ys++[y])))
   else ∃m',m' < k/\W (i+1) m' ys H5)):=by
 intro D hDn
 subst hn hm
 refine ⟨fun i m ys H=>m=zs.length - i/\i<=zs.length/\Pv D i ys H,⟨zs.length,rfl,Nat.zero_le _,h0 D hDn⟩,?_⟩
 rintro i m ys H2 ⟨rfl,hi,p⟩
 obtain ⟨e,l⟩:=hD D i ys H2 p
 have q:=hl D i ys H2 hDn p
 refine ⟨e,?_⟩
 by_cases hlt:i < zs.length
 ·refine .inr ⟨⟨zs,zs[i],q,by simp [hlt]⟩,Nat.lt_of_le_of_lt l (Nat.lt_of_lt_of_le hlt hz),fun x H3 y os ho=>?_⟩
  obtain ⟨e1,y⟩:=y
  subst e1
  obtain ⟨t,v,w,rfl,ht,q5⟩:=hs D i x ys _ (fun y H6=>H6 D=some (.lst ys)/\∃m',m' < zs.length - i/\m'=zs.length - (i+1)/\i+1<=zs.length/\Pv D (i+1) (ys++[y]) (upd H6 D (.lst (ys++[y])))) (fun H5=>∃m',m' < zs.length - i/\m'=zs.length - (i+1)/\i+1<=zs.length/\Pv D (i+1) ys H5) hDn (y zs q) p (fun y H5 h5 p5=>⟨h5,zs.length - (i+1),by omega,rfl,hlt,p5⟩) fun H4 p4=>⟨zs.length - (i+1),by omega,rfl,hlt,p4⟩
  match os,ho with
  | [o1,o2],_ =>
    have e2:((σ++[o1,o2]).set σ.length (some v)).set (σ.length+1) (some w)=σ++[some v,some w]:=by
     rw [List.set_append_right _ _ (Nat.le_refl _),Nat.sub_self,List.set_append_right _ _ (Nat.le_succ _)]
     rw [show (List.length σ+1) - List.length σ=1 by omega]
     rfl
    refine ⟨t,[v,w],rfl,ht,rfl,v,[w],rfl,w,[],rfl,rfl,?_⟩
    refine ⟨⟨[some v,some w],e2,rfl⟩,?_⟩
    rw [e2]
    exact q5
 ·have ei:i=zs.length:=by omega
  subst ei
  exact .inl ⟨⟨zs,q,Nat.le_refl _⟩,hd D ys H2 hDn p⟩
section
variable {X:Cx} {elt iter:Expr} {x1 x2 x3:Str} {p1 p2 p3 pt pos:Pos} {k:Nat} {ifs:List Expr} {sc fsc:Scope} {N Nc:List Str} {wi:TI} {tt:TT} {te:TE}
theorem pe_comp2 (hE:X.env.scope=fsc) (hXN:X.N=N) (cn:CompNs N Nc [x1,x2] sc fsc) (hc:X.calm=true) (hi:PI X (.Tuple [.Name x1 p1,.Name x2 p2] k pt) iter wi)
 (ht:∀cl s H ex,PIfs (X.inComp Nc sc cl s H ex) ifs tt) (he:∀cl s H ex,PE (X.inComp Nc sc cl s H ex) elt te) (hs:∀v,foldedSetIterable iter X.env v=pure v:=by intro _;rfl) :
 PE X (.ListComp elt [⟨.Tuple [.Name x1 p1,.Name x2 p2] k pt,iter,ifs,0⟩] sc pos) (tCompT 2 wi (gTup X.K 2 (gCons (gName N.length) (gCons (gName (N.length+1)) gNil))) tt te) :=
 pe_compT hE hXN cn hc hi (fun cl s H ex=>pg_tup (X:=X.inComp Nc sc cl s H ex) hc (pgs_cons (pgc_name (j:=0) cn rfl rfl) (pgs_cons (pgc_name (j:=1) cn rfl rfl) pgs_nil))) ht he hs
theorem ps_setC2 {j:Nat} {y:Str} {py spos:Pos} (hE:X.env.scope=fsc) (hXN:X.N=N) (cn:CompNs N Nc [x1,x2] sc fsc) (hc:X.calm=true) (hnd:X.N.Nodup) (hj:X.N[j]?=some y) (hy:X.env.scope.names.lookup y=some .local) (hi:PI X (.Tuple [.Name x1 p1,.Name x2 p2] k pt) iter wi)
 (ht:∀cl s H ex,PIfs (X.inComp Nc sc cl s H ex) ifs tt) (he:∀cl s H ex,PE (X.inComp Nc sc cl s H ex) elt te)
 (hsw:swapsWith (.ListComp elt [⟨.Tuple [.Name x1 p1,.Name x2 p2] k pt,iter,ifs,0⟩] sc pos) (some (.Name y py)) spos.line X.env=pure true)
 (hs:∀v,foldedSetIterable iter X.env v=pure v:=by intro _;rfl) :
 PS X (.Assign [.Name y py] (.ListComp elt [⟨.Tuple [.Name x1 p1,.Name x2 p2] k pt,iter,ifs,0⟩] sc pos) spos) (tAsg (tCompT 2 wi (gTup X.K 2 (gCons (gName N.length) (gCons (gName (N.length+1)) gNil))) tt te) (gName j)) :=
 ps_setCT hE hXN cn hc hnd hj hy hi (fun cl s H ex=>pg_tup (X:=X.inComp Nc sc cl s H ex) hc (pgs_cons (pgc_name (j:=0) cn rfl rfl) (pgs_cons (pgc_name (j:=1) cn rfl rfl) pgs_nil))) ht he hsw hs
end
end L2
namespace L2
open PySem PySem.Spec PyProof.Rows
theorem CompN.ns {N Nc:List Str} {x:Str} {sc fsc:Scope} (c:CompN N Nc x sc fsc):CompNs N Nc [x] sc fsc:=⟨c.kind,c.cell,c.nm,fun y m=>by rw [List.mem_singleton.mp m];exact c.own,c.fr,c.len,c.nd,by
 have l:=c.len
 refine List.ext_getElem? fun i=>?_
 rw [List.getElem?_drop]
 cases i with
 | zero=>exact c.last
 | succ i=>rw [List.getElem?_eq_none (by omega),List.getElem?_eq_none (by show 1<=i+1;omega)],c.slot⟩
section
variable {X:Cx} {elt iter:Expr} {x:Str} {px pos:Pos} {ifs:List Expr} {sc fsc:Scope} {N Nc:List Str} {wi:TI} {tt:TT} {te:TE}
theorem comp_conv {J:It} {σ:St} {H1:Hp} {Q:VK} {n:Nat} (hn:n=σ.length) (h:∀D,H1 D=none->∃W:Nat->Nat->List V->Hp->Prop,(∃m,W 0 m [] (upd H1 D (.lst [])))/\∀i m ys H2,W i m ys H2 ->
 H2 D=some (.lst ys)/\((J.stop i H2/\Q (.ref D) H2)\/(J.go i H2/\ys.length < sizeLine/\∀x H3,J.yld i H2 x H3->tt (σ++[some x]) H3 fun b H4=>if b=true then te (σ++[some x]) H4 fun y H5=>H5 D=some (.lst ys)/\∃m',m' < m/\W (i+1) m' (ys++[y]) (upd H5 D (.lst (ys++[y])))
  else ∃m',m' < m/\W (i+1) m' ys H4))) :
 ∀D,H1 D=none->∃W:Nat->Nat->List V->Hp->Prop,(∃m,W 0 m [] (upd H1 D (.lst [])))/\∀i m ys H2,W i m ys H2 ->
  H2 D=some (.lst ys)/\((J.stop i H2/\Q (.ref D) H2)\/(J.go i H2/\ys.length < sizeLine/\∀x H3,J.yld i H2 x H3->∀os:St,os.length=1->gName n x (σ++os) H3 fun σ4 H4=>(∃os':St,σ4=σ++os'/\os'.length=1)/\tt σ4 H4 fun b H5=>if b=true then te σ4 H5 fun y H6=>H6 D=some (.lst ys)/\∃m',m' < m/\W (i+1) m' (ys++[y]) (upd H6 D (.lst (ys++[y])))
   else ∃m',m' < m/\W (i+1) m' ys H5)):=by
 intro D hD
 obtain ⟨W,w0,w1⟩:=h D hD
 refine ⟨W,w0,fun i m ys H2 w=>?_⟩
 obtain ⟨a,b⟩:=w1 i m ys H2 w
 refine ⟨a,b.imp id fun ⟨c,d,e⟩=>⟨c,d,fun x H3 y os ho=>?_⟩⟩
 match os,ho with
 | [o],_ =>
   have e2:(σ++[o]).set n (some x)=σ++[some x]:=by rw [hn];exact set_last
   show (∃os':St,(σ++[o]).set n (some x)=σ++os'/\os'.length=1)/\_
   rw [e2]
   exact ⟨⟨[some x],rfl,rfl⟩,e x H3 y⟩
theorem pe_comp (hE:X.env.scope=fsc) (hXN:X.N=N) (cn:CompN N Nc x sc fsc) (hc:X.calm=true) (hi:PI X (.Name x px) iter wi)
 (ht:∀cl s H ex,PIfs (X.inComp Nc sc cl s H ex) ifs tt) (he:∀cl s H ex,PE (X.inComp Nc sc cl s H ex) elt te)
 (hs:∀v,foldedSetIterable iter X.env v=pure v:=by intro _;rfl):PE X (.ListComp elt [⟨.Name x px,iter,ifs,0⟩] sc pos) (tComp wi tt te):=by
 intro pins s σ H Q I h
 obtain ⟨cl,hcl,clS,clH⟩:=closure_ok (env:=X.env) (sc:=sc) (comp_hasT I.ok.has hE cn.ns)
 rw [eval_ListComp]
 refine wpAny_comprehension_free (use:=none) rfl hs hcl cn.kind cn.nm (thn (hi pins s σ H _ I h) fun v s1 h1=>thn h1 fun itv s2 h2=>?_)
 obtain ⟨it,fp,tn,J,H2,rfl,I2,T,st2,f2,h2⟩:=h2
 refine thn (comp_coreT (pos:=pos) (iter:=iter) hE hXN cn.ns hc (fun cl s H ex=>pgc_name (j:=0) cn.ns rfl rfl) ht he clS clH I2 T st2 f2 (comp_conv (by rw [I2.len,hXN];rfl) h2)) fun acc s3 h3=>thn h3 fun cenv s4 h4=>codeAny_mono h4 fun r s' h5=>?_
 obtain ⟨rfl,D,H',rfl,I',q,cloc,m,hn⟩:=h5
 exact ⟨m,hn,fun h' k=>⟨.ref D,H',I'.sameBut cloc k,rfl,q⟩⟩
theorem ps_setC {j:Nat} {y:Str} {py spos:Pos} (hE:X.env.scope=fsc) (hXN:X.N=N) (cn:CompN N Nc x sc fsc) (hc:X.calm=true) (hnd:X.N.Nodup) (hj:X.N[j]?=some y) (hy:X.env.scope.names.lookup y=some .local) (hi:PI X (.Name x px) iter wi)
 (ht:∀cl s H ex,PIfs (X.inComp Nc sc cl s H ex) ifs tt) (he:∀cl s H ex,PE (X.inComp Nc sc cl s H ex) elt te)
 (hsw:swapsWith (.ListComp elt [⟨.Name x px,iter,ifs,0⟩] sc pos) (some (.Name y py)) spos.line X.env=pure true)
 (hs:∀v,foldedSetIterable iter X.env v=pure v:=by intro _;rfl):PS X (.Assign [.Name y py] (.ListComp elt [⟨.Name x px,iter,ifs,0⟩] sc pos) spos) (tAsg (tComp wi tt te) (gName j)):=by
 intro pins s σ H D I h
 obtain ⟨cl,hcl,clS,clH⟩:=closure_ok (env:=X.env) (sc:=sc) (comp_hasT I.ok.has hE cn.ns)
 rw [exec_Assign_Name_used _ _ _ _ hsw]
 refine wpAny_bind (wpAny_standAt (wpAny_bind ?_))
 show wpAny _ X.A (do let _ <- comprehension (.ListComp elt [⟨.Name x px,iter,ifs,0⟩] sc pos) sc X.env _ (newList []) false (eval iter X.env) (some (assign (.Name y py) X.env))) _ _ s
 refine wpAny_bind (thn (wpAny_comprehension_free (Q:=fun _ s'=>SP X pins D .next s') rfl hs hcl cn.kind cn.nm (thn (hi pins s σ H _ I h) fun v s1 h1=>thn h1 fun itv s2 h2=>?_)) fun _ s' hq=>wpAny_pure (wpAny_pure hq))
 obtain ⟨it,fp,tn,J,H2,rfl,I2,T,st2,f2,h2⟩:=h2
 refine thn (comp_coreT (pos:=pos) (iter:=iter) (Q:=fun x H1=>gName j x σ H1 D.nx) hE hXN cn.ns hc (fun cl s H ex=>pgc_name (j:=0) cn.ns rfl rfl) ht he clS clH I2 T st2 f2 (comp_conv (Q:=fun x H1=>gName j x σ H1 D.nx) (by rw [I2.len,hXN];rfl) h2)) fun acc s3 h3=>thn h3 fun cenv s4 h4=>codeAny_mono h4 fun r s' h5=>?_
 obtain ⟨rfl,D',H',rfl,I',q,cloc,m,hn⟩:=h5
 refine wpAny_assign_Name (store_ok2 (v:=.ref D') I' hnd hj (.inl hy) rfl (fun s6 I6 sb=>?_) (.inr hy))
 obtain ⟨a,k,ha⟩:=sb
 refine ⟨m,hn.sameBut k (fun z=>?_),fun h' k'=>⟨_,H',I6.sameBut cloc k',q⟩⟩
 rcases ha with ha | ha
 ·exact cloc.ne (z.trans ha)
 ·exact cloc.cells _ _ ha z.symm
end
end L2
namespace L2
open PySem PySem.Spec PyProof.Rows
noncomputable def Itz (K:PySem.W.Frag) (a b:Addr):It :=
 ⟨fun i H=>∃xs ys x y,SqL K H a xs/\SqL K H b ys/\xs[i]?=some x/\ys[i]?=some y,fun i H x H'=>∃T y z,x=.ref T/\H T=none/\H'=upd H T (.tup [y,z])/\(∀xs,SqL K H a xs->xs[i]?=some y)/\∀xs,SqL K H b xs->xs[i]?=some z,
  fun i H=>∃xs ys,SqL K H a xs/\SqL K H b ys/\(xs.length<=i\/ys.length<=i)⟩
theorem zip_apart {n a b:Nat} (ha:a < n) (hb:b < n):ZipApart (n+4) (n+2) (n+3) n (n+1) a b:=by
 constructor <;> (show @Ne Nat _ _) <;> omega
theorem zip_fp {z TO i1 i2 TI c:Addr} (h:c ∉ [z,TI,TO,i1,i2]):c≠z/\c≠TO/\c≠i1/\c≠i2 :=
 ⟨fun e=>h (by simp [e]),fun e=>h (by simp [e]),fun e=>h (by simp [e]),fun e=>h (by simp [e])⟩
theorem turn_zip {P:Program} {w:World} {K:PySem.W.Frag} {es:List Expr} {k:Nat} {pos:Pos} (a b z TI TO i1 i2:Addr) (D:ZipApart z TI TO i1 i2 a b) :
 Turn P w K (.Tuple es k pos) (Itz K a b) [z,TI,TO,i1,i2] z (fun i h=>IsZip h z TI TO .none/\IsPair h TI (.ref i1) (.ref i2)/\(∃u v,IsPair h TO u v)/\h.IsListIter i1 a i/\h.IsListIter i2 b i) where
 mem:=by simp
 obj:=fun i h st c hc=>by
  obtain ⟨hz,hTI,⟨u,v,hTO⟩,⟨o1,e1,c1,d1⟩,o2,e2,c2,d2⟩:=st
  simp only [List.mem_cons,List.not_mem_nil,or_false] at hc
  rcases hc with q | q | q | q | q <;> subst q
  ·exact ⟨_,hz,fun v z=>by cases (show Data.fields _=Data.cell v from z)⟩
  ·exact ⟨_,hTI,fun v z=>by cases (show Data.seq _ _=Data.cell v from z)⟩
  ·exact ⟨_,hTO,fun v z=>by cases (show Data.seq _ _=Data.cell v from z)⟩
  ·exact ⟨o1,e1,fun v z=>by rw [d1] at z;cases z⟩
  ·exact ⟨o2,e2,fun v z=>by rw [d2] at z;cases z⟩
 keep:=fun i h h' st kk=>by
  obtain ⟨hz,hTI,⟨u,v,hTO⟩,h1,h2⟩:=st
  exact ⟨kk z (by simp) _ hz,kk TI (by simp) _ hTI,⟨u,v,kk TO (by simp) _ hTO⟩,h1.at fun o q=>kk i1 (by simp) o q,h2.at fun o q=>kk i2 (by simp) o q⟩
 item:=by
  intro X hP hw hK hc i pins s σ H E I hf st hg
  subst hP hw hK
  obtain ⟨xs,ys,x,y,hx,hy,ex,ey⟩:=hg
  obtain ⟨its,rv,p,_⟩:=I.list hx
  obtain ⟨jts,rw',p',_⟩:=I.list hy
  obtain ⟨u,hu,ru⟩:=rv.get ex
  obtain ⟨v,hv,rv'⟩:=rw'.get ey
  obtain ⟨hz,hTI,⟨c,d,hTO⟩,h1,h2⟩:=st
  refine wpAny_pyNext_zip_item D hz hTI hTO h1 h2 p.isList p'.isList (x:=u) (y:=v) (by simpa using hu) (by simpa using hv) fun g1 z1 t1 a1 a2 nT hsz hk=>⟨_,rfl,?_⟩
  refine wpAny_letOwnedTupleGo_zip z1 fun g2 z2 sb=>?_
  have fr:H s.heap.objs.size=none:=I.hok.fresh (Nat.le_refl _)
  have lt:∀b∈[z,TI,TO,i1,i2],b < s.heap.objs.size:=fun b hb=>by
   obtain ⟨o1,e1,_⟩:=id h1
   obtain ⟨o2,e2,_⟩:=id h2
   simp only [List.mem_cons,List.not_mem_nil,or_false] at hb
   rcases hb with q | q | q | q | q <;> subst q
   ·exact Heap.lt_size hz
   ·exact Heap.lt_size hTI
   ·exact Heap.lt_size hTO
   ·exact Heap.lt_size e1
   ·exact Heap.lt_size e2
  refine ⟨.ref s.heap.objs.size,upd H s.heap.objs.size (.tup [x,y]),?_,rfl,⟨_,x,y,rfl,fr,rfl,fun l hl=>by rw [I.list_inj hl hx];exact ex,fun l hl=>by rw [I.list_inj hl hy];exact ey⟩,
   ⟨z2,(sb.2 TI D.TIz).trans (hk TI _ D.TIz D.TITO D.TIi1 D.TIi2 hTI),⟨u,v,(sb.2 TO D.TOz).trans t1⟩,a1.at fun o q=>(sb.2 i1 D.i1z).trans q,a2.at fun o q=>(sb.2 i2 D.i2z).trans q⟩,fun b hb=>?_⟩
  ·refine I.laidTurned (fp:=[z,TI,TO,i1,i2]) (t':=s.toks) (fun c o hc q=>?_) hf (Nat.le_refl _) ?_
   ·obtain ⟨n1,n2,n3,n4⟩:=zip_fp hc
    exact (sb.2 c n1).trans (hk c o n1 n2 n3 n4 q)
   ·exact ⟨by show 2<=sizeLine;decide,[u,v],.cons ru (.cons rv' .nil),⟨_,(sb.2 _ (Nat.ne_of_gt (lt z (by simp)))).trans nT,rfl,_,rfl⟩⟩
  ·rw [upd_ne (Nat.ne_of_lt (lt b hb))]
   exact (hf b hb).1
 done:=by
  intro X hP hw hK hc i pins s σ H E I hf st hg
  subst hP hw hK
  obtain ⟨xs,ys,hx,hy,en⟩:=hg
  obtain ⟨its,rv,p,_⟩:=I.list hx
  obtain ⟨jts,rw',p',_⟩:=I.list hy
  obtain ⟨hz,hTI,⟨c,d,hTO⟩,h1,h2⟩:=st
  have l1:=rv.length
  have l2:=rw'.length
  refine wpAny_pyNext_zip_end (I.ok.hd hc) D hz hTI hTO h1 h2 p.isList p'.isList ?_ fun h' hk=>⟨rfl,I.turnedAll (fp:=[z,TI,TO,i1,i2]) (t':=s.toks) (fun c o hc q=>?_) hf⟩
  ·rcases en with q | q
   ·exact .inl (by simp;omega)
   ·exact .inr (by simp;omega)
  ·obtain ⟨n1,n2,n3,n4⟩:=zip_fp hc
   exact hk c o n1 n2 n3 n4 q
 self:=fun _ _ _ _ _ st h=>wpAny_pyIter_zip st.1 h
section
variable {X:Cx}
noncomputable def iZip (K:PySem.W.Frag) (ta:TA):TI:=fun σ H R=>ta σ H fun vs H1=>∃a b,vs=[.ref a,.ref b]/\(∃xs,SqL K H1 a xs)/\(∃ys,SqL K H1 b ys)/\R (Itz K a b) H1
theorem pi_zip {l m:Expr} {ta:TA} {p pos pt:Pos} {es:List Expr} {k:Nat} (hg:Gl X "zip") (hm:X.mg "zip"=none) (ha:PA X [l,m] ta) (hs:starEach [l,m] X.env=[(false,eval l X.env),(false,eval m X.env)]:=by rfl) (hs2:starEach [m] X.env=[(false,eval m X.env)]:=by rfl) :
 PI X (.Tuple es k pt) (.Call (.Name "zip" p) [l,m] [] pos) (iZip X.K ta):=by
 intro pins s σ H R I h
 refine Call_ (ld_blt I hg hm boot_zip (PyProof.Rows.callWith_type1 (thn (ha pos pins s σ H _ I h) fun us s1 ⟨vs,H1,I1,r1,q1⟩=>?_) (by rw [hs,hs2]) (by rw [hs2];rfl)))
 obtain ⟨a,b,e,⟨xs,hx⟩,⟨ys,hy⟩,q⟩:=q1
 subst e
 cases r1 with
 | cons r rr =>
   cases rr with
   | cons r' rr =>
     cases rr
     cases r
     cases r'
     obtain ⟨its,rv,p1,_⟩:=I1.list hx
     obtain ⟨jts,rw',p2,_⟩:=I1.list hy
     have lta:a < s1.heap.objs.size:=by obtain ⟨o,q,_⟩:=p1.isList;exact Heap.lt_size q
     have ltb:b < s1.heap.objs.size:=by obtain ⟨o,q,_⟩:=p2.isList;exact Heap.lt_size q
     refine call_zip_2 p1.isList p2.isList fun h' hz hTI hTO h1 h2 hsz hk=>?_
     refine wpAny_pyIter_zip (s:={ s1 with heap:=h' }) hz ?_
     have D:ZipApart (s1.heap.objs.size+4) (s1.heap.objs.size+2) (s1.heap.objs.size+3) s1.heap.objs.size (s1.heap.objs.size+1) a b:=zip_apart lta ltb
     refine ⟨s1.heap.objs.size+4,[s1.heap.objs.size+4,s1.heap.objs.size+2,s1.heap.objs.size+3,s1.heap.objs.size,s1.heap.objs.size+1],_,_,H1,rfl,I1.kept (t':=s1.toks) hk,turn_zip a b _ _ _ _ _ D,⟨hz,hTI,⟨_,_,hTO⟩,h1,h2⟩,fun c hc=>?_,q⟩
     have ge:s1.heap.objs.size<=c:=by
      simp only [List.mem_cons,List.not_mem_nil,or_false] at hc
      rcases hc with q | q | q | q | q <;> rw [q] <;> first | exact Nat.le_refl _ | exact Nat.le_add_right _ _
     exact I1.fpOk ge (I1.hok.fresh ge)
end
theorem for_zip {K:PySem.W.Frag} {a b:Addr} {xs ys:List V} {g:TG} {tb:TS} {D:Ends} {σ:St} {H:Hp} (hxy:xs.length=ys.length) (Pv:Nat->St->Hp->Prop) (h0:Pv 0 σ H) (hl:∀i σ H,i<=xs.length->Pv i σ H->SqL K H a xs/\SqL K H b ys)
 (hs:∀i x y T σ H,xs[i]?=some x->ys[i]?=some y->Pv i σ H->H T=none->g (.ref T) σ (upd H T (.tup [x,y])) fun σ2 H2=>tb { D with nx:=Pv (i+1),ct:=Pv (i+1),bk:=D.nx } σ2 H2) (hd:∀σ H,Pv xs.length σ H->D.nx σ H) :
 ∃W:Nat->Nat->St->Hp->Prop,(∃m,W 0 m σ H)/\∀i m σ H,W i m σ H ->
  ((Itz K a b).stop i H/\D.nx σ H)\/((Itz K a b).go i H/\∃N:St->Hp->Prop,(∀σ' H',N σ' H'->∃m',m' < m/\W (i+1) m' σ' H')/\∀x H',(Itz K a b).yld i H x H'->g x σ H' fun σ2 H2=>tb { D with nx:=N,ct:=N,bk:=D.nx } σ2 H2):=by
 refine ⟨fun i m σ H=>m=xs.length - i/\i<=xs.length/\Pv i σ H,⟨xs.length,by simp,Nat.zero_le _,h0⟩,?_⟩
 rintro i m σ H ⟨rfl,hi,p⟩
 obtain ⟨q1,q2⟩:=hl i σ H hi p
 by_cases hlt:i < xs.length
 ·have hlt':i < ys.length:=by omega
  refine .inr ⟨⟨xs,ys,xs[i],ys[i],q1,q2,by simp [hlt],by simp [hlt']⟩,Pv (i+1),fun σ' H' p'=>⟨xs.length - (i+1),by omega,rfl,hlt,p'⟩,fun x H' y=>?_⟩
  obtain ⟨T,y,z,rfl,hT,rfl,hy,hz⟩:=y
  exact hs i y z T σ H (hy xs q1) (hz ys q2) p hT
 ·have e:i=xs.length:=by omega
  subst e
  exact .inl ⟨⟨xs,ys,q1,q2,.inl (Nat.le_refl _)⟩,hd σ H p⟩
section
variable {X:Cx}
end
theorem eqv_ints:∀ns ms:List Int,PyData.eqvAll (ns.map .int) (ms.map .int)=decide (ns=ms)
 | [],[]=>rfl
 | [],_ :: _=>rfl
 | _ :: _,[]=>rfl
 | n :: ns,m :: ms=>by
   show ((n == m) && PyData.eqvAll (ns.map .int) (ms.map .int))=_
   rw [eqv_ints ns ms]
   by_cases h:n=m
   ·by_cases k:ns=ms
    ·subst h;subst k;simp
    ·simp [h,k]
   ·simp [h]
theorem lay_ints:∀ns:List Int,PyData.canLayAll0 (ns.map .int)=true/\PyData.depthAll (ns.map .int)<=0
 | []=>⟨rfl,Nat.le_refl _⟩
 | n :: ns=>by
   obtain ⟨h1,h2⟩:=lay_ints ns
   refine ⟨?_,?_⟩
   ·show (true && PyData.canLayAll0 (ns.map .int))=true
    rw [h1];rfl
   ·show max 0 (PyData.depthAll (ns.map .int))<=0
    omega
theorem shape_ints (ns:List Int):SeqAt.shaped (.tuple (ns.map .int))=true/\SeqAt.shaped (.list (ns.map .int))=true:=by
 obtain ⟨h1,h2⟩:=lay_ints ns
 constructor
 ·unfold SeqAt.shaped
  rw [Bool.and_eq_true]
  refine ⟨h1,decide_eq_true ?_⟩
  show PyData.depthAll (ns.map .int)+1<=64
  omega
 ·unfold SeqAt.shaped
  rw [Bool.and_eq_true]
  refine ⟨h1,decide_eq_true ?_⟩
  show PyData.depthAll (ns.map .int)+1<=64
  omega
section
variable {X:Cx}
end
end L2
namespace L2
open PySem PySem.Spec PyProof.Rows
namespace CutT
open HT
section
variable {prog:Program} {w:World} {A:Around} {E:Value->Shared->Prop} {s:Shared}
end
end CutT
end L2
namespace L2
open PySem PySem.Spec PyProof.Rows
section
variable {prog:Program} {w:World} {A:Around} {E:Value->Shared->Prop} {s:Shared}
end
section
variable {M:Model} {A:Around} {E:Value->Shared->Prop} {s:Shared} {env:Env}
end
section
variable {X:Cx}
end
end L2
namespace L2
open PySem PySem.Spec PyProof.Rows
section
variable {X:Cx}
end
theorem vals_get:∀{xs:List V} {us:List Value},xs.length=us.length->(∀(i:Nat) x u,xs[i]?=some x->us[i]?=some u->RelV x u)->Vals xs us
 | [],[],_,_=>.nil
 | [],_ :: _,h,_=>by cases h
 | _ :: _,[],h,_=>by cases h
 | x :: xs,u :: us,h,k=>.cons (k 0 x u rfl rfl) (vals_get (Nat.succ.inj h) fun i y v h1 h2=>k (i+1) y v h1 h2)
section
variable {X:Cx} {e:Expr} {te:TE} {p p2 pos pos2:Pos}
noncomputable def tLRange (te:TE):TE:=fun σ H Q=>te σ H fun x H1=>∃n:Nat,x=.int (n:Int)/\n < 1000/\∀l,H1 l=none->Q (.ref l) (upd H1 l (.lst ((List.range n).map fun i:Nat=>V.int (i:Int))))
theorem pe_listrange (hc:X.calm=true) (hg:Gl X "list") (hm:X.mg "list"=none) (hg2:Gl X "range") (hm2:X.mg "range"=none) (he:PE X e te)
 (hs:starEach [e] X.env=[(false,eval e X.env)]:=by rfl)
 (hs2:starEach [(.Call (.Name "range" p2) [e] [] pos2:Expr)] X.env=[(false,eval (.Call (.Name "range" p2) [e] [] pos2) X.env)]:=by rfl) :
 PE X (.Call (.Name "list" p) [.Call (.Name "range" p2) [e] [] pos2] [] pos) (tLRange te):=by
 intro pins s σ H Q I h
 refine wpAny_Call_Name_kw (ld_blt I hg hm boot_list ?_ (by decide) (by decide))
 refine callWith_type1 ?_ hs2 rfl
 rw [hs2]
 refine Calls.spliced_cons ?_
 refine wpAny_Call_Name_kw (ld_blt I hg2 hm2 boot_range ?_ (by decide) (by decide))
 refine callWith_type1 ?_ hs rfl
 rw [hs]
 refine Calls.spliced_cons (thn (he pins s σ H _ I h) fun u s1 ⟨x,H1,I1,r1,n,hx,hn,q⟩=>?_)
 subst hx
 obtain ⟨t,rfl⟩:=r1
 refine Calls.spliced_nil ?_
 refine call_range_1 ?_
 refine Calls.spliced_nil ?_
 refine call_list_range (n:=n) (I1.ok.hd hc) (IsRange.new ..) (small_one (by omega) (by omega) (by omega) (by omega)) (by rw [rangeSize_one];split <;> omega) (by omega) fun h' tk acc c' kp eS it=>?_
 have kp':∀b o,s1.heap.get? b=some o->h'.get? b=some o:=fun b o e=>kp b o (Heap.get?_push_of_some _ e)
 have hp:s1.heap.objs.size<=(s1.heap.push { cls:=.type "range",data:=.fields #[.int 0 s1.toks,.int (n:Int) t,.int 1 (s1.toks+1)] }).objs.size:=by simp [Heap.push]
 have rv:Vals ((List.range n).map fun i:Nat=>V.int (i:Int)) acc.toList:=by
  refine vals_get (by simp [it.1]) fun i x u hx hu=>?_
  rw [List.getElem?_map] at hx
  obtain ⟨t',e⟩:=it.2 i u (by simpa using hu)
  have hi:i < n:=by
   have:=(List.getElem?_eq_some_iff.mp hu).1
   rw [Array.length_toList,it.1] at this
   exact this
  rw [List.getElem?_range hi] at hx
  have hx':x=V.int (i:Int):=(Option.some.inj hx).symm
  subst hx'
  exact ⟨t',by rw [e];simp⟩
 have hz:((List.range n).map fun i:Nat=>V.int (i:Int)).length<=sizeLine:=by rw [List.length_map,List.length_range];exact Nat.le_of_lt (small1000 (by omega))
 exact ⟨.ref _,_,I1.laid (t':=tk) kp' hp (show ObjOk X.prog X.w _ h' _ (.lst ((List.range n).map fun i:Nat=>V.int (i:Int))) from ⟨hz,acc.toList,c',rv,by simpa using eS⟩),rfl,q _ (I1.hok.fresh hp)⟩
end
section
variable {prog:Program} {w:World} {A:Around} {E:Value->Shared->Prop} {s:Shared}
end
section
variable {X:Cx}
end
end L2
namespace L2
open PySem PySem.Spec PyProof.Rows
section
variable {P:Program} {w:World} {K:PySem.W.Frag} {mg:Str->Option Value} {base:Heap}
end
section
variable {X:Cx} {k:Nat} {f:Addr} {fd:FuncData} {ps:List Str} {sp:Sp} {x:Str} {p pos:Pos} {e:Expr} {es:List Expr} {t:TA}
end
section
variable {X:Cx}
end
end L2
namespace L2
open PySem PySem.Spec PyProof.Rows
section
variable {prog:Program} {w:World} {A:Around} {E:Value->Shared->Prop} {s:Shared}
end
section
variable {X:Cx} {pins:List (Addr × Obj)} {σ:St} {H:Hp}
end
end L2
namespace L2
open PySem PySem.Spec PyProof.Rows
section
variable {prog:Program} {w:World} {A:Around} {E:Value->Shared->Prop} {s:Shared}
end
abbrev hoF (d:Addr) (ob:Obj):HO:=.ext fun h=>h.get? d=some ob
theorem paired_get {α β:Type} {R:α->β->Prop}:∀{xs:List α} {ys:List β} {i:Nat} {x:α},Paired R xs ys->xs[i]?=some x->∃y,ys[i]?=some y/\R x y
 | _,_,_,_,.nil,h=>by cases h
 | _,_,0,_,.cons r t,h=>⟨_,rfl,by cases Option.some.inj h;exact r⟩
 | _,_,i+1,_,.cons _ t,h=>paired_get (i:=i) t h
section
variable {X:Cx}
theorem Inv.held {pins:List (Addr × Obj)} {σ:St} {H:Hp} {s:Shared} {d:Addr} {ob:Obj} (I:Inv X pins σ H s) (e:H d=some (hoF d ob)):s.heap.get? d=some ob:=by
 obtain ⟨z,_⟩:=(show ObjOk X.prog X.w H s.heap d (hoF d ob) from I.hok d _ e)
 exact z
end
end L2
namespace L2
open PySem PySem.Spec PyProof.Rows
section
variable {P:Program} {w:World} {K:PySem.W.Frag} {mg:Str->Option Value} {base:Heap}
end
section
variable {X:Cx} {CX:CXT} {W:St->XK} {k:Nat} {f C:Addr} {fd:FuncData} {ps:List Str} {sp:Sp} {dvs:List V} {ds:List Value} {E:XK} {x m:Str} {p pos apos:Pos} {e o:Expr} {es:List Expr} {ta:TE} {t:TA}
end
end L2
namespace L2
open PySem PySem.Spec PyProof.Rows
noncomputable def Cx.inCompC (X:Cx) (Nc:List Str) (sc:Scope) (x:Str) (cl:List (Str × Addr)) (s:Shared) (H:Hp) (ex:List Addr):Cx :=
 { X with N:=Nc,s₀:=s,H₀:=H,env:=compEnvC sc ((x,s.heap.objs.size+1) :: cl) s.heap.objs.size X.env,outer:=X.stack,stack:=X.stack,ex:=ex,fn:=fun y=>decide (y=x),pn:=[],xe:=fun _ _=>False }
structure CompNC (N Nc:List Str) (x:Str) (sc fsc:Scope):Prop where
 kind:sc.kind=.function
 one:(sc.names.filter fun y=>y.2 == .cell)=[(x,.cell)]
 nm:∀y∈sc.names,y.2=.local->sc.names.lookup y.1=some .local
 own:sc.names.lookup x=some .cell
 fr:∀y∈sc.names,y.2=.free->fsc.names.lookup y.1=some .cell\/fsc.names.lookup y.1=some .free
 len:Nc.length=N.length+1
 nd:Nc.Nodup
 last:Nc[N.length]?=some x
 slot:((List.range N.length).all fun i=>match Nc[i]? with
  | some y=>(match sc.names.lookup y with | some .free=>N[i]? == some y | some .local=>false | some .cell=>false | _=>true)
  | none=>true)=true
theorem CompNC.at {N Nc:List Str} {x:Str} {sc fsc:Scope} (C:CompNC N Nc x sc fsc) {i:Nat} {y:Str} (hi:i < N.length) (h:Nc[i]?=some y):sc.names.lookup y≠some .local/\sc.names.lookup y≠some .cell/\(sc.names.lookup y=some .free->N[i]?=some y):=by
 have q:=List.all_eq_true.mp C.slot i (List.mem_range.mpr hi)
 rw [h] at q
 dsimp only at q
 cases e:sc.names.lookup y with
 | none=>exact ⟨fun z=>(nomatch z),fun z=>(nomatch z),fun z=>(nomatch z)⟩
 | some k =>
   rw [e] at q
   cases k with
   | «local»=>exact absurd (show false=true from q) Bool.false_ne_true
   | cell=>exact absurd (show false=true from q) Bool.false_ne_true
   | free=>exact ⟨fun z=>(nomatch z),fun z=>(nomatch z),fun _=>by simpa using q⟩
   | _=>exact ⟨fun z=>(nomatch z),fun z=>(nomatch z),fun z=>(nomatch z)⟩
theorem cellsFrom_filter:∀(names:List (Str × NameKind)) (n:Nat) (acc:List (Str × Addr)),cellsFrom n names acc=cellsFrom n (names.filter fun y=>y.2 == .cell) acc
 | [],_,_=>rfl
 | (y,k) :: r,n,acc=>by
   rw [List.filter_cons]
   cases e:k == NameKind.cell with
   | true=>simp only [if_true,cellsFrom,e];exact cellsFrom_filter r _ _
   | false=>simp only [Bool.false_eq_true,if_false,cellsFrom,e];exact cellsFrom_filter r _ _
theorem pushCells_filter:∀(names:List (Str × NameKind)) (h:Heap),pushCells h names=pushCells h (names.filter fun y=>y.2 == .cell)
 | [],_=>rfl
 | (y,k) :: r,h=>by
   rw [List.filter_cons]
   cases e:k == NameKind.cell with
   | true=>simp only [if_true,pushCells,e];exact pushCells_filter r _
   | false=>simp only [Bool.false_eq_true,if_false,pushCells,e];exact pushCells_filter r _
theorem wpAny_newEnvC {M:Model} {A:Around} {E:Value->Shared->Prop} {s:Shared} {scope:Scope} {globals:Addr} {closure:List (Str × Addr)} {qual:Str} {outer:Env} {x:Str} {Q:Env->Shared->Prop}
 (one:(scope.names.filter fun y=>y.2 == .cell)=[(x,.cell)])
 (hQ:Q (newEnv scope s.heap.objs.size globals ((x,s.heap.objs.size+1) :: closure) qual none .none (some outer) builtinsNs) { s with heap:=(s.heap.push { cls:=.type "dict",data:=.dict #[] }).push { cls:=.type "cell",data:=.cell none } }) :
 wpAny M A (newFunctionEnv scope globals closure [] qual none .none (some outer)) Q E s:=by
 simp only [newFunctionEnv,Option.isSome_some,if_true]
 refine wpAny_bind (wpAny_alloc ?_)
 refine wpAny_bind (wpAny_layCells _ (fun name kind cells=>by cases hkc:kind == NameKind.cell <;> simp [hkc]) _ _ _ _ ?_)
 rw [cellsFrom_filter,pushCells_filter,one]
 rw [show ({ s with heap:=s.heap.push { cls:=.type "dict",data:=.dict #[] } }:Shared).heap.objs.size=s.heap.objs.size+1 from Heap.size_push ..]
 rw [List.forIn_nil]
 exact wpAny_bind (wpAny_pure (wpAny_pure hQ))
section
variable {X:Cx} {elt iter:Expr} {x:Str} {px pos:Pos} {ifs:List Expr} {sc fsc:Scope} {N Nc:List Str} {wi:TI} {tt:TT} {te:TE}
theorem comp_coreC (hE:X.env.scope=fsc) (hXN:X.N=N) (cn:CompNC N Nc x sc fsc) (hc:X.calm=true)
 (ht:∀cl s H ex,PIfs (X.inCompC Nc sc x cl s H ex) ifs tt) (he:∀cl s H ex,PE (X.inCompC Nc sc x cl s H ex) elt te)
 {cl:List (Str × Addr)} (clS:∀y c,cl.lookup y=some c->X.env.cells.lookup y=some c) (clH:∀y∈sc.names,y.2=.free->∃c,cl.lookup y.1=some c)
 {pins:List (Addr × Obj)} {σ:St} {H2:Hp} {s2:Shared} {it:Addr} {fp:List Addr} {tn:Nat->Heap->Prop} {J:It} {Q:VK} {E:Value->Shared->Prop}
 (I2:Inv X pins σ H2 s2) (T:Turn X.prog X.w X.K (.Name x px) J fp it tn) (st2:tn 0 s2.heap) (f2:∀b∈fp,FpOk X pins H2 b)
 (h2:∀D,H2 D=none->∃W:Nat->Nat->List V->Hp->Prop,(∃m,W 0 m [] (upd H2 D (.lst [])))/\∀i m ys H2,W i m ys H2 ->
  H2 D=some (.lst ys)/\((J.stop i H2/\Q (.ref D) H2)\/(J.go i H2/\ys.length < sizeLine/\∀x H3,J.yld i H2 x H3->tt (σ++[some x]) H3 fun b H4=>if b=true then te (σ++[some x]) H4 fun y H5=>H5 D=some (.lst ys)/\∃m',m' < m/\W (i+1) m' (ys++[y]) (upd H5 D (.lst (ys++[y])))
   else ∃m',m' < m/\W (i+1) m' ys H4))) :
 wpAny (model X.prog X.w) X.A (newList []) (fun acc s₃=>wpAny (model X.prog X.w) X.A (newFunctionEnv sc X.env.globals cl [] X.env.qual none .none (some X.env)) (fun cenv s₄ =>
  codeAny (model X.prog X.w) X.A (.compStart (.ListComp elt [⟨.Name x px,iter,ifs,0⟩] sc pos) 0 (.ref it) acc { cenv with scope:=relabel sc X.env })
   (fun r s'=>r=.ok .next/\∃D H',acc=.ref D/\Inv X pins σ H' s'/\Q (.ref D) H'/\CLoc X pins H' cenv.locals/\∃m,s'.heap.Ns cenv.locals m) s₄) E s₃) E s2:=by
 refine wpAny_newObj_type (wpAny_newEnvC cn.one ?_)
 dsimp only
 have hD:H2 s2.heap.objs.size=none:=I2.hok.fresh (Nat.le_refl _)
 obtain ⟨W,⟨m0,w0⟩,turn⟩:=h2 s2.heap.objs.size hD
 have I3:Inv X pins σ (upd H2 s2.heap.objs.size (.lst [])) { s2 with heap:=s2.heap.push { cls:=.type "list",dict:=none,data:=.seq ([]:List Value).toArray } } :=
  I2.laid (t':=s2.toks) (fun b u e=>Heap.get?_push_of_some _ e) (Nat.le_refl _) ⟨Nat.zero_le _,[],0,.nil,Heap.get?_push_size _ rfl⟩
 generalize hs3:({ s2 with heap:=s2.heap.push { cls:=.type "list",dict:=none,data:=.seq ([]:List Value).toArray } }:Shared)=s3 at I3
 have eh:s3.heap=s2.heap.push { cls:=.type "list",dict:=none,data:=.seq ([]:List Value).toArray }:=by rw [<- hs3]
 generalize hH3:upd H2 s2.heap.objs.size (.lst [])=H3 at I3 w0
 rw [<- eh]
 have hns₁:((s3.heap.push { cls:=.type "dict",data:=.dict #[] }).push { cls:=.type "cell",data:=.cell none }).Ns s3.heap.objs.size (fun _=>none):=(Heap.Ns.new s3.heap (.type "dict")).keeps fun b o e=>Heap.get?_push_of_some _ e
 have hcell₁:((s3.heap.push { cls:=.type "dict",data:=.dict #[] }).push { cls:=.type "cell",data:=.cell none }).IsCell (s3.heap.objs.size+1) none:=by
  refine ⟨{ cls:=.type "cell",data:=.cell none },?_,rfl⟩
  have:=Heap.get?_push_size (s3.heap.push { cls:=.type "dict",data:=.dict #[] }) (o:={ cls:=.type "cell",data:=.cell none }) rfl
  rw [Heap.size_push] at this
  exact this
 have old:∀b o,s3.heap.get? b=some o->((s3.heap.push { cls:=.type "dict",data:=.dict #[] }).push { cls:=.type "cell",data:=.cell none }).get? b=some o:=fun b o e=>Heap.get?_push_of_some _ (Heap.get?_push_of_some _ e)
 have e2:({ s2 with heap:=(s3.heap.push { cls:=.type "dict",data:=.dict #[] }).push { cls:=.type "cell",data:=.cell none } }:Shared)={ s3 with heap:=(s3.heap.push { cls:=.type "dict",data:=.dict #[] }).push { cls:=.type "cell",data:=.cell none },toks:=s3.toks }:=by rw [<- hs3]
 rw [e2]
 generalize (s3.heap.push { cls:=.type "dict",data:=.dict #[] }).push { cls:=.type "cell",data:=.cell none }=h₁ at hns₁ hcell₁ old ⊢
 have below2:∀b,b∈fp->b < s3.heap.objs.size:=fun b hb=>by
  obtain ⟨o,e,_⟩:=T.obj _ _ st2 b hb
  have:s2.heap.objs.size<=s3.heap.objs.size:=by rw [eh,Heap.size_push];exact Nat.le_succ _
  exact Nat.lt_of_lt_of_le (Heap.lt_size e) this
 have old2:∀b o,s2.heap.get? b=some o->s3.heap.get? b=some o:=fun b o e=>by rw [eh];exact Heap.get?_push_of_some _ e
 have hsz3:s2.heap.objs.size < s3.heap.objs.size:=by rw [eh,Heap.size_push];exact Nat.lt_succ_self _
 have fpFree:∀b∈fp,H3 b=none:=fun b hb=>by
  rw [<- hH3,upd_ne (fun z=>?_)]
  ·exact (f2 b hb).1
  ·obtain ⟨o,e,_⟩:=T.obj _ _ st2 b hb
   have:=Heap.lt_size e
   rw [z] at this
   exact Nat.lt_irrefl _ this
 have rl:∀y,(relabel sc X.env).names.lookup y=(sc.names.lookup y).map fun k=>if (k == NameKind.free && X.env.scope.kind == .function && X.env.kindOf y == some .cell) then NameKind.cell else k:=fun y=>lookup_relabel X.env sc.names y
 have freeOf:∀y,sc.names.lookup y=some .free->∃c,cl.lookup y=some c:=fun y e=>clH (y,.free) (PySem.mem_of_lookup e) rfl
 have onlyX:∀y,sc.names.lookup y=some .cell->y=x:=fun y e=>by
  have m:(y,NameKind.cell)∈sc.names.filter fun y=>y.2 == .cell:=List.mem_filter.mpr ⟨PySem.mem_of_lookup e,rfl⟩
  rw [cn.one] at m
  exact (Prod.mk.inj (List.mem_singleton.mp m)).1
 have clD:∀y c,((x,s3.heap.objs.size+1) :: cl).lookup y=some c->(y=x/\c=s3.heap.objs.size+1)\/(y≠x/\cl.lookup y=some c):=fun y c e=>by
  rw [List.lookup_cons] at e
  cases hb:y == x with
  | true=>rw [hb] at e;exact .inl ⟨by simpa using hb,(Option.some.inj e).symm⟩
  | false=>rw [hb] at e;exact .inr ⟨by simpa using hb,e⟩
 have clN:∀y c,y≠x->cl.lookup y=some c->((x,s3.heap.objs.size+1) :: cl).lookup y=some c:=fun y c n e=>by
  rw [List.lookup_cons,show (y == x)=false by simpa using n]
  exact e
 have clX:((x,s3.heap.objs.size+1) :: cl).lookup x=some (s3.heap.objs.size+1):=by rw [List.lookup_cons,show (x == x)=true by simp]
 have isFree:∀y,((relabel sc X.env).names.lookup y=some .cell\/(relabel sc X.env).names.lookup y=some .free)->(sc.names.lookup y=some .free\/y=x):=fun y h=>by
  rw [rl y] at h
  cases e:sc.names.lookup y with
  | none=>rw [e] at h;rcases h with z | z <;> exact absurd z (by simp)
  | some k =>
    rw [e] at h
    cases k with
    | free=>exact .inl rfl
    | cell=>exact .inr (onlyX y e)
    | «local»=>rcases h with z | z <;> exact absurd z (by simp)
    | _=>rcases h with z | z <;> exact absurd z (by simp)
 have ownC:(relabel sc X.env).names.lookup x=some .cell:=by rw [rl x,cn.own];rfl
 have exOk:∀b∈fp,b≠s3.heap.objs.size/\(∀y c,X.env.cells.lookup y=some c->c≠b)/\b ∉ frs X.stack:=fun b hb=>by
  obtain ⟨g0,g1,g2,g3,g4,g5⟩:=f2 b hb
  refine ⟨Nat.ne_of_lt (below2 b hb),g4,fun z=>?_⟩
  rcases List.mem_cons.mp (I2.stkSub b z) with z | z
  ·exact g1 z
  ·exact g2 z
 have hCnew:X.s₀.heap.objs.size<=s3.heap.objs.size:=I3.sz
 have hCcell:∀y c,X.env.cells.lookup y=some c->c≠s3.heap.objs.size:=fun y c e z=>by
  obtain ⟨v,q⟩:=I3.cell y c e
  have:=q.lt
  rw [z] at this
  exact Nat.lt_irrefl _ this
 have hCpin:∀p∈X.pn++pins,p.1≠s3.heap.objs.size:=fun p hp z=>by
  have:=Heap.lt_size (I3.pin p hp).1
  rw [z] at this
  exact Nat.lt_irrefl _ this
 have ltC:∀y c,X.env.cells.lookup y=some c->c < s3.heap.objs.size:=fun y c e=>by
  obtain ⟨v,q⟩:=I3.cell y c e
  exact q.lt
 have injC:∀y z c,((x,s3.heap.objs.size+1) :: cl).lookup y=some c->((x,s3.heap.objs.size+1) :: cl).lookup z=some c->y=z:=fun y z c h1 h2=>by
  rcases clD y c h1 with ⟨e1,e2⟩ | ⟨_,e2⟩ <;> rcases clD z c h2 with ⟨f1,f2'⟩ | ⟨_,f2'⟩
  ·rw [e1,f1]
  ·exact absurd (ltC z c (clS z c f2')) (by rw [e2];exact Nat.not_lt.mpr (Nat.le_succ _))
  ·exact absurd (ltC y c (clS y c e2)) (by rw [f2'];exact Nat.not_lt.mpr (Nat.le_succ _))
  ·exact I3.ok.inj y z c (clS y c e2) (clS z c f2')
 have hasC:∀y,((relabel sc X.env).names.lookup y=some .cell\/(relabel sc X.env).names.lookup y=some .free)->∃c,((x,s3.heap.objs.size+1) :: cl).lookup y=some c:=fun y hy=>by
  by_cases e:y=x
  ·exact ⟨_,by rw [e];exact clX⟩
  ·rcases isFree y hy with f | f
   ·obtain ⟨c,hc⟩:=freeOf y f
    exact ⟨c,clN y c e hc⟩
   ·exact absurd f e
 have exC:∀b∈fp,∀y c,((x,s3.heap.objs.size+1) :: cl).lookup y=some c->c≠b:=fun b hb y c h=>by
  rcases clD y c h with ⟨_,e2⟩ | ⟨_,e2⟩
  ·exact fun z=>absurd (below2 b hb) (by rw [<- z,e2];exact Nat.not_lt.mpr (Nat.le_succ _))
  ·exact (exOk b hb).2.1 y c (clS y c e2)
 have okc:(X.inCompC Nc sc x cl s3 H3 fp).Ok:=by
  refine ⟨I3.ok.mod,cn.kind,I3.ok.glob,I3.ok.blt,Nat.le_refl _,injC,hasC,fun y c hf e=>?_,I3.ok.hd,I3.ok.frames,.inl rfl,
   fun b hb=>⟨(exOk b hb).1,exC b hb⟩,fun b o e=>I3.bs b o e,Nat.le_trans I3.ok.bsz I3.sz,fun b o e hb=>?_,fun b hb=>(exOk b hb).2.2,I3.stack,I3.stkFree⟩
  ·have ey:y=x:=of_decide_eq_true hf
   rcases clD y c e with ⟨_,e2⟩ | ⟨n,_⟩
   ·show s3.heap.objs.size<=c
    omega
   ·exact absurd ey n
  obtain ⟨g0,g1,g2,g3,g4,g5⟩:=f2 b hb
  rcases g3 with z | z
  ·exact I3.ok.noex b o e z
  ·exact absurd (Heap.lt_size (I3.ok.bs b o e).1) (Nat.not_lt.mpr z)
 have hlen:σ.length=N.length:=by rw [I3.len,hXN]
 have Ic:Inv (X.inCompC Nc sc x cl s3 H3 fp) [] (σ++[none]) H3 { s3 with heap:=h₁,toks:=s3.toks }:=by
  refine ⟨okc,rfl,I3.bare,Un.kept old,⟨_,hns₁,fun i y v h1 h2 h3=>?_⟩,fun y c e=>?_,I3.hok.fresh (Nat.le_refl _),fun y c e=>?_,fun p hp=>absurd (show p∈([]:List (Addr × Obj)) from hp) (by simp),I3.hok.kept old,?_⟩
  ·have hi:i < σ.length:=by
    by_cases hi:i < σ.length
    ·exact hi
    ·rw [List.getElem?_append_right (Nat.not_lt.mp hi)] at h2
     cases e:i - σ.length with
     | zero=>rw [e] at h2;cases h2
     | succ k=>rw [e] at h2;simp at h2
   rw [List.getElem?_append_left hi] at h2
   have hi':i < N.length:=by rw [<- hlen];exact hi
   obtain ⟨n1,n2,n3⟩:=cn.at hi' h1
   have hf:sc.names.lookup y=some .free:=by
    rcases h3 with z | z
    ·exfalso
     have z':(relabel sc X.env).names.lookup y=some .local:=z
     rw [rl y] at z'
     cases e:sc.names.lookup y with
     | none=>rw [e] at z';simp at z'
     | some k =>
       rw [e] at z'
       cases k with
       | «local»=>exact n1 e
       | cell=>exact n2 e
       | free =>
         simp only [Option.map_some,Option.some.injEq] at z'
         split at z' <;> cases z'
       | _=>simp at z'
    ·rcases isFree y z with f | f
     ·exact f
     ·exact absurd (by rw [f];exact cn.own) n2
   have hN:X.N[i]?=some y:=by rw [hXN];exact n3 hf
   obtain ⟨m,hn,hl⟩:=I3.loc
   have hv:fsc.names.lookup y=some .cell\/fsc.names.lookup y=some .free:=cn.fr (y,.free) (PySem.mem_of_lookup hf) rfl
   have hv':X.env.scope.names.lookup y=some .cell\/X.env.scope.names.lookup y=some .free:=by rw [hE];exact hv
   obtain ⟨u,ru,lk⟩:=hl i y v hN h2 (.inr hv')
   refine ⟨u,ru,.inr ⟨?_,?_⟩⟩
   ·show (relabel sc X.env).names.lookup y=some .cell\/(relabel sc X.env).names.lookup y=some .free
    rw [rl y,hf]
    simp only [Option.map_some,Option.some.injEq]
    split
    ·exact .inl rfl
    ·exact .inr rfl
   ·rcases lk with ⟨kl,_⟩ | ⟨_,c,hc,hcell⟩
    ·exfalso
     have kl':X.env.scope.names.lookup y=some .local:=kl
     rw [kl'] at hv'
     rcases hv' with z | z <;> cases z
    ·obtain ⟨d,hd⟩:=freeOf y hf
     have ed:=clS y d hd
     rw [hc] at ed
     cases ed
     exact ⟨c,clN y c (fun z=>n2 (by rw [z];exact cn.own)) hd,hcell.keeps old⟩
  ·rcases clD y c e with ⟨_,e2⟩ | ⟨_,e2⟩
   ·exact ⟨none,by rw [e2];exact hcell₁⟩
   ·obtain ⟨v,q⟩:=I3.cell y c (clS y c e2)
    exact ⟨v,q.keeps old⟩
  ·rcases clD y c e with ⟨_,e2⟩ | ⟨_,e2⟩
   ·exact I3.hok.fresh (by omega)
   ·exact I3.freeC y c (clS y c e2)
  ·show (σ++[none]).length=Nc.length
   rw [List.length_append,hlen,cn.len]
   rfl
 have stc:tn 0 ({ s3 with heap:=h₁,toks:=s3.toks }:Shared).heap:=T.keep _ _ _ st2 fun b _ o e=>old b o (old2 b o e)
 have hDf:s2.heap.objs.size ∉ fp:=fun hm=>by
  obtain ⟨o,e,_⟩:=T.obj _ _ st2 _ hm
  exact Nat.lt_irrefl _ (Heap.lt_size e)
 have fpc:∀{pins':List (Addr × Obj)} {H':Hp},pins'=[]->(∀b∈fp,H' b=none)->∀b∈fp,FpOk (X.inCompC Nc sc x cl s3 H3 fp) pins' H' b:=fun {pins' H'} hp hn b hb=>by
  subst hp
  exact ⟨hn b hb,(exOk b hb).1,(exOk b hb).2.2,.inl hb,exC b hb,fun p hp=>absurd (show p∈([]:List (Addr × Obj)) from hp) (by simp)⟩
 have hg:PG (X.inCompC Nc sc x cl s3 H3 fp) (.Name x px) (gName σ.length):=pg_name (X:=X.inCompC Nc sc x cl s3 H3 fp) cn.nd (by show Nc[σ.length]?=some x;rw [hlen];exact cn.last) (.inr ownC) (.inl (decide_eq_true rfl))
 have loop:∀s₄:Shared,s₄={ s3 with heap:=h₁,toks:=s3.toks } ->
  codeAny (model X.prog X.w) X.A (.compLoop (.ListComp elt [⟨.Name x px,iter,ifs,0⟩] sc pos) 0 (.ref it) (.ref s2.heap.objs.size) (compEnvC sc ((x,s3.heap.objs.size+1) :: cl) s3.heap.objs.size X.env))
   (fun r s'=>r=.ok .next/\∃D H',(Value.ref s2.heap.objs.size)=.ref D/\Inv X pins σ H' s'/\Q (.ref D) H'/\CLoc X pins H' s3.heap.objs.size/\∃m,s'.heap.Ns s3.heap.objs.size m) s₄:=by
  rintro s₄ rfl
  refine codeAny_compLoop_tests (fun n s'=>∃(i:Nat) (o:Option V) (H':Hp) (ys:List V),Inv (X.inCompC Nc sc x cl s3 H3 fp) [] (σ++[o]) H' s'/\tn i s'.heap/\(∀b∈fp,H' b=none)/\W i n ys H') ?_ m0 ⟨0,none,H3,[],Ic,stc,fpFree,w0⟩
  rintro n s' ⟨i,o,H',ys,I',st',fr',w'⟩
  obtain ⟨hDl,tw⟩:=turn i n ys H' w'
  rcases tw with ⟨stop,q⟩ | ⟨go,hz,step⟩
  ·
   refine thn (T.done (X.inCompC Nc sc x cl s3 H3 fp) rfl rfl rfl hc i [] s' _ H' _ I' (fpc rfl fr') st' stop) fun r s5 ⟨hr,I5⟩=>?_
   subst hr
   have Ix:Inv X pins σ H' s5:=I3.call' (ch:=fp) I5.os I5.base I5.hok I5.bare fun b hb=>by
    obtain ⟨g0,g1,g2,g3,g4,g5⟩:=f2 b hb
    exact ⟨g3,g1,g4,g5⟩
   have hCf:H' s3.heap.objs.size=none:=I5.free
   obtain ⟨m,hn,_⟩:=I5.loc
   exact ⟨rfl,s2.heap.objs.size,H',rfl,Ix,q,⟨hCf,fun z=>Nat.lt_irrefl _ (by have:=I3.lt;rw [<- z] at this;exact this),hCnew,hCcell,hCpin⟩,m,hn⟩
  ·
   refine thn (T.item (X.inCompC Nc sc x cl s3 H3 fp) rfl rfl rfl hc i [] s' _ H' _ I' (fpc rfl fr') st' go) fun r s5 ⟨u,hr,h4⟩=>?_
   subst hr
   dsimp only
   have e0:letOwnedTupleGo (.Name x px) (.ref it) u=pure ():=rfl
   have e1:(letOwnedTupleGo (.Name x px) (.ref it) u >>= fun _=>assign (.Name x px) (compEnvC sc ((x,s3.heap.objs.size+1) :: cl) s3.heap.objs.size X.env) u)=assign (.Name x px) (compEnvC sc ((x,s3.heap.objs.size+1) :: cl) s3.heap.objs.size X.env) u:=by rw [e0,pure_bind]
   rw [<- e1]
   refine wpAny_bind (thn h4 fun _ s6 ⟨xv,H5,I5,r5,y5,st5,fr5⟩=>?_)
   have I5':=I5.pinned (fpc rfl fr5) (T.obj _ _ st5)
   have again:∀{H7:Hp} {s7:Shared} {m':Nat} {ys':List V},Inv (X.inCompC Nc sc x cl s3 H3 fp) ([]++pinsAt fp s6.heap) (σ++[some xv]) H7 s7->m' < n->W (i+1) m' ys' H7 ->
    ∃m,m < n/\∃(i:Nat) (o:Option V) (H':Hp) (ys:List V),Inv (X.inCompC Nc sc x cl s3 H3 fp) [] (σ++[o]) H' s7/\tn i s7.heap/\(∀b∈fp,H' b=none)/\W i m ys H':=fun {H7 s7 m' ys'} I7 hm w7=>by
    refine ⟨m',hm,i+1,some xv,H7,ys',I7.unpinned,T.keep _ _ _ st5 fun b hb o e=>(I7.pin (b,o) (List.mem_append_right _ (List.mem_append_right _ (mem_pinsAt hb e)))).1,fun b hb=>?_,w7⟩
    obtain ⟨o',e,d⟩:=T.obj _ _ st5 b hb
    exact (I7.pin (b,o') (List.mem_append_right _ (List.mem_append_right _ (mem_pinsAt hb e)))).2.1
   refine thnF (hg _ s6 _ H5 xv u (fun σ' H''=>σ'=σ++[some xv]/\H''=H5) I5' r5 ⟨set_last,rfl⟩) fun _ s7 ⟨σ7,H7,I7,e7,e7'⟩=>?_
   subst e7
   subst e7'
   refine thnF (ht cl s3 H3 fp _ s7 _ _ _ I7 (step xv _ y5)) fun b s8 ⟨H8,I8,q8⟩=>?_
   cases b with
   | false =>
     rw [if_neg Bool.false_ne_true] at q8 ⊢
     obtain ⟨m',hm,w8⟩:=q8
     exact again I8 hm w8
   | true =>
     rw [if_pos rfl] at q8 ⊢
     refine thnF (he cl s3 H3 fp _ s8 _ H8 _ I8 q8) fun y s9 ⟨yv,H9,I9,r9,hD9,m',hm,w9⟩=>?_
     refine thnF (mt_append _ s9 _ H9 (.ref s2.heap.objs.size) [yv] (.ref s2.heap.objs.size) [y] (fun v H=>v=.non/\H=upd H9 s2.heap.objs.size (.lst (ys++[yv]))) I9 rfl (.cons r9 .nil) ⟨_,ys,yv,rfl,rfl,hD9,hz,rfl,rfl⟩) fun _ s10 ⟨v10,H10,I10,r10,e10,e11⟩=>?_
     subst e11
     exact again I10 hm w9
 exact codeAny_compStart_list (loop _ rfl) (T.self _ 0 _ _ _ stc (loop _ rfl))
theorem comp_hasC (I:∀y,(X.env.kindOf y=some .cell\/X.env.kindOf y=some .free)->∃c,X.env.cells.lookup y=some c) (hE:X.env.scope=fsc) (cn:CompNC N Nc x sc fsc):∀y∈sc.names,y.2=.free->∃c,X.env.cells.lookup y.1=some c:=fun y hy hf=>by
 refine I y.1 ?_
 show X.env.scope.names.lookup y.1=some .cell\/X.env.scope.names.lookup y.1=some .free
 rw [hE]
 exact cn.fr y hy hf
theorem pe_compC (hE:X.env.scope=fsc) (hXN:X.N=N) (cn:CompNC N Nc x sc fsc) (hc:X.calm=true) (hi:PI X (.Name x px) iter wi)
 (ht:∀cl s H ex,PIfs (X.inCompC Nc sc x cl s H ex) ifs tt) (he:∀cl s H ex,PE (X.inCompC Nc sc x cl s H ex) elt te)
 (hs:∀v,foldedSetIterable iter X.env v=pure v:=by intro _;rfl):PE X (.ListComp elt [⟨.Name x px,iter,ifs,0⟩] sc pos) (tComp wi tt te):=by
 intro pins s σ H Q I h
 obtain ⟨cl,hcl,clS,clH⟩:=closure_ok (env:=X.env) (sc:=sc) (comp_hasC I.ok.has hE cn)
 rw [eval_ListComp]
 refine wpAny_comprehension_free (use:=none) rfl hs hcl cn.kind cn.nm (thn (hi pins s σ H _ I h) fun v s1 h1=>thn h1 fun itv s2 h2=>?_)
 obtain ⟨it,fp,tn,J,H2,rfl,I2,T,st2,f2,h2⟩:=h2
 refine thn (comp_coreC (pos:=pos) (iter:=iter) hE hXN cn hc ht he clS clH I2 T st2 f2 h2) fun acc s3 h3=>thn h3 fun cenv s4 h4=>codeAny_mono h4 fun r s' h5=>?_
 obtain ⟨rfl,D,H',rfl,I',q,cloc,m,hn⟩:=h5
 exact ⟨m,hn,fun h' k=>⟨.ref D,H',I'.sameBut cloc k,rfl,q⟩⟩
end
noncomputable def relab (sc fsc:Scope):Scope:={ sc with names:=sc.names.map fun (n,k)=>if (k == .free && fsc.kind == .function && fsc.names.lookup n == some .cell) then (n,.cell) else (n,k) }
theorem relab_eq {X:Cx} {sc fsc:Scope} (h:X.env.scope=fsc):relabel sc X.env=relab sc fsc:=by
 subst h
 rfl
section
variable {X:Cx} {elt iter:Expr} {x y:Str} {py pos:Pos} {ifs:List Expr} {sc sc2 fsc:Scope} {Nc Nd:List Str} {wi:TI} {tt:TT} {te:TE} {cl:List (Str × Addr)} {s:Shared} {H:Hp} {ex:List Addr}
theorem pe_compIn (hE:X.env.scope=fsc) (cn:CompN Nc Nd y sc2 (relab sc fsc)) (hc:X.calm=true) (hi:PI (X.inCompC Nc sc x cl s H ex) (.Name y py) iter wi)
 (ht:∀cl' s' H' ex',PIfs ((X.inCompC Nc sc x cl s H ex).inComp Nd sc2 cl' s' H' ex') ifs tt) (he:∀cl' s' H' ex',PE ((X.inCompC Nc sc x cl s H ex).inComp Nd sc2 cl' s' H' ex') elt te)
 (hs:∀v,foldedSetIterable iter (X.inCompC Nc sc x cl s H ex).env v=pure v:=by intro _;rfl):PE (X.inCompC Nc sc x cl s H ex) (.ListComp elt [⟨.Name y py,iter,ifs,0⟩] sc2 pos) (tComp wi tt te) :=
 pe_comp (X:=X.inCompC Nc sc x cl s H ex) (fsc:=relab sc fsc) (N:=Nc) (relab_eq hE) rfl cn hc hi ht he hs
theorem pe_compIn0 (hE:X.env.scope=fsc) (cn:CompN Nc Nd y sc2 (relab sc fsc)) (hc:X.calm=true) (hi:PI (X.inComp Nc sc cl s H ex) (.Name y py) iter wi)
 (ht:∀cl' s' H' ex',PIfs ((X.inComp Nc sc cl s H ex).inComp Nd sc2 cl' s' H' ex') ifs tt) (he:∀cl' s' H' ex',PE ((X.inComp Nc sc cl s H ex).inComp Nd sc2 cl' s' H' ex') elt te)
 (hs:∀v,foldedSetIterable iter (X.inComp Nc sc cl s H ex).env v=pure v:=by intro _;rfl):PE (X.inComp Nc sc cl s H ex) (.ListComp elt [⟨.Name y py,iter,ifs,0⟩] sc2 pos) (tComp wi tt te) :=
 pe_comp (X:=X.inComp Nc sc cl s H ex) (fsc:=relab sc fsc) (N:=Nc) (relab_eq hE) rfl cn hc hi ht he hs
end
theorem pi_listK {X:Cx} {tg e:Expr} {te:TE} (K:PySem.W.Frag) (he:PE X e te) (h:X.K=K:=by rfl):PI X tg e (iList K te):=by
 subst h
 exact pi_list he
end L2
namespace L2
open PySem PySem.W PySem.Spec PyProof.Rows
section
variable {X:Cx} {pins:List (Addr × Obj)} {σ:St} {H:Hp} {s:Shared} {c P:Addr} {pos:Pos} {params:Arguments} {body:Expr} {sc:Scope} {cl:List (Str × Addr)} {q:Str} {M:Model} {A:Around} {E:Value->Shared->Prop} {Q:Value->Shared->Prop}
end
section
variable {X:Cx} {pins:List (Addr × Obj)} {σ:St} {H:Hp} {s:Shared} {params:Arguments} {body:Expr} {sc fsc:Scope} {cl:List (Str × Addr)} {q x:Str} {A:Around} {N Nc:List Str} {f c':Addr} {te:TE} {E:Value->Shared->Prop}
end
section
variable {X:Cx} {pins:List (Addr × Obj)} {σ:St} {H:Hp}
variable {xs:List V} {l f I S:Addr}
end
section
variable {M:Model} {A:Around} {E:Value->Shared->Prop} {s:Shared} {env:Env}
theorem with_kwB {pos:Pos} {T:String} {e:Expr} {kws:List Keyword} {Q:Value->Shared->Prop}
 (h:wpAny M A (spliced (backTo pos (starEach [e] env))) (fun vs z=>wpAny M A (evalAll ((backToKw pos (keywordEach kws env)).map (·.2))) (fun us y=>wpAny M A (call (.builtin T) vs (((backToKw pos (keywordEach kws env)).filterMap (·.1)).zip us)) Q E y) E z) E s)
 (he:backTo pos (starEach [e] env)=(false,eval e env) :: backTo pos (starEach [] env)) (hp:(backTo pos (starEach [e] env)).any (·.1)=false)
 (ha:(backToKw pos (keywordEach kws env)).all (·.1.isSome)=true) (hk:(backToKw pos (keywordEach kws env)).any (·.1.isNone)=false) :
 wpAny M A (callWith pos (.builtin T) [] (backTo pos (starEach [e] env)) (backToKw pos (keywordEach kws env))) Q E s:=by
 unfold callWith
 have y:wpAny M A (evalArgs (.builtin T) true (backTo pos (starEach [e] env)) (backToKw pos (keywordEach kws env))) (fun a z=>wpAny M A (call (.builtin T) ([]++a.pos) a.kw) Q E z) E s:=by
  rw [he] at h ⊢
  exact evalArgs_kwB ha h
 refine wpAny_bind (wpAny_holding (wpAny_mono y (fun a z q=>wpAny_bind (wpAny_standAt ?_)) fun _ _ x=>x))
 simp only [hp,hk,Bool.or_false]
 refine wpAny_bind (wpAny_pure (wpAny_bind ?_))
 exact wpAny_mono q (fun r z hr=>wpAny_bind (wpAny_holding (wpAny_point (wpAny_pure hr)))) fun _ _ x=>x
end
section
variable {X:Cx} {c P:Addr} {e body:Expr} {tl tb:TE} {sc fsc:Scope} {N Nc:List Str} {x:Str} {params:Arguments} {lpos kp p pos:Pos}
end
end L2
namespace L2
open PySem PySem.W PySem.Spec PyProof.Rows
section
variable {prog:Program} {w:World} {A:Around} {E:Value->Shared->Prop} {s:Shared}
end
section
variable {prog:Program} {w:World} {A:Around} {E:Value->Shared->Prop} {s:Shared}
end
section
variable {X:Cx} {e e2:Expr} {te te2:TE} {p p2 p3 pos pos2 pos3 pos4:Pos}
end
end L2
namespace L2
open PySem PySem.W PySem.Spec PyProof.Rows
section
variable {prog:Program} {w:World} {A:Around} {E:Value->Shared->Prop} {s:Shared} {Q:Bool->Shared->Prop}
end
section
variable {X:Cx}
end
end L2
namespace L2
open PySem PySem.Spec PyProof.Rows
theorem comp_zip {K:PySem.W.Frag} {a b:Addr} {xs zs:List V} {tt:TT} {te:TE} {σ:St} {H1:Hp} {Q:Addr->Hp->Prop} {n m:Nat} (hn:n=σ.length) (hm:m=σ.length+1) (hxz:xs.length=zs.length) (hz:xs.length<=sizeLine) (Pv:Addr->Nat->List V->Hp->Prop)
 (h0:∀D,H1 D=none->Pv D 0 [] (upd H1 D (.lst []))) (hD:∀D i ys H,Pv D i ys H->H D=some (.lst ys)/\ys.length<=i) (hl:∀D i ys H,H1 D=none->Pv D i ys H->SqL K H a xs/\SqL K H b zs)
 (hs:∀D i x z T ys H (K1:VK) (K2:Hp->Prop),H1 D=none->xs[i]?=some x->zs[i]?=some z->Pv D i ys H->H T=none->(∀y H5,H5 D=some (.lst ys)->Pv D (i+1) (ys++[y]) (upd H5 D (.lst (ys++[y])))->K1 y H5)->(∀H4,Pv D (i+1) ys H4->K2 H4) ->
  tt (σ++[some x,some z]) (upd H T (.tup [x,z])) fun b H4=>if b=true then te (σ++[some x,some z]) H4 K1 else K2 H4)
 (hd:∀D ys H,H1 D=none->Pv D xs.length ys H->Q D H) :
 ∀D,H1 D=none->∃W:Nat->Nat->List V->Hp->Prop,(∃m,W 0 m [] (upd H1 D (.lst [])))/\∀i k ys H2,W i k ys H2 ->
  H2 D=some (.lst ys)/\(((Itz K a b).stop i H2/\Q D H2)\/((Itz K a b).go i H2/\ys.length < sizeLine/\∀x H3,(Itz K a b).yld i H2 x H3->∀os:St,os.length=2->gTup K 2 (gCons (gName n) (gCons (gName m) gNil)) x (σ++os) H3 fun σ4 H4=>(∃os':St,σ4=σ++os'/\os'.length=2)/\tt σ4 H4 fun b H5=>if b=true then te σ4 H5 fun y H6=>H6 D=some (.lst ys)/\∃m',m' < k/\W (i+1) m' (ys++[y]) (upd H6 D (.lst (ys++[y])))
   else ∃m',m' < k/\W (i+1) m' ys H5)):=by
 intro D hDn
 subst hn hm
 refine ⟨fun i m ys H=>m=xs.length - i/\i<=xs.length/\Pv D i ys H,⟨xs.length,rfl,Nat.zero_le _,h0 D hDn⟩,?_⟩
 rintro i m ys H2 ⟨rfl,hi,p⟩
 obtain ⟨e,l⟩:=hD D i ys H2 p
 obtain ⟨q1,q2⟩:=hl D i ys H2 hDn p
 refine ⟨e,?_⟩
 by_cases hlt:i < xs.length
 ·have hlt':i < zs.length:=by omega
  refine .inr ⟨⟨xs,zs,xs[i],zs[i],q1,q2,by simp [hlt],by simp [hlt']⟩,Nat.lt_of_le_of_lt l (Nat.lt_of_lt_of_le hlt hz),fun x H3 y os ho=>?_⟩
  obtain ⟨T,v,w,rfl,hT,rfl,hy,hw⟩:=y
  have q5:=hs D i v w T ys H2 (fun y H6=>H6 D=some (.lst ys)/\∃m',m' < xs.length - i/\m'=xs.length - (i+1)/\i+1<=xs.length/\Pv D (i+1) (ys++[y]) (upd H6 D (.lst (ys++[y])))) (fun H5=>∃m',m' < xs.length - i/\m'=xs.length - (i+1)/\i+1<=xs.length/\Pv D (i+1) ys H5) hDn (hy xs q1) (hw zs q2) p hT (fun y H5 h5 p5=>⟨h5,xs.length - (i+1),by omega,rfl,hlt,p5⟩) fun H4 p4=>⟨xs.length - (i+1),by omega,rfl,hlt,p4⟩
  match os,ho with
  | [o1,o2],_ =>
    have e2:((σ++[o1,o2]).set σ.length (some v)).set (σ.length+1) (some w)=σ++[some v,some w]:=by
     rw [List.set_append_right _ _ (Nat.le_refl _),Nat.sub_self,List.set_append_right _ _ (Nat.le_succ _)]
     rw [show (List.length σ+1) - List.length σ=1 by omega]
     rfl
    refine ⟨T,[v,w],rfl,SqT.of upd_same,rfl,v,[w],rfl,w,[],rfl,rfl,?_⟩
    refine ⟨⟨[some v,some w],e2,rfl⟩,?_⟩
    rw [e2]
    exact q5
 ·have ei:i=xs.length:=by omega
  subst ei
  exact .inl ⟨⟨xs,zs,q1,q2,.inl (Nat.le_refl _)⟩,hd D ys H2 hDn p⟩
section
variable {prog:Program} {w:World} {A:Around} {E:Value->Shared->Prop} {s:Shared} {d:Addr} {es:Array DictEntry} {ep:Nat}
theorem sorted_keys_rev {vs:List Value} (lo:(d == sysModules)=false) (hm:RawAt s.heap d es ep) (hz:es.size < 64) (hh:A.handled=none) (hv:es.toList.map (·.key)=vs) {b:Bool} {R:Value->Shared->Prop}
 (h:∀(h':Heap) (tk:Nat) (a:Addr),(∀b o,s.heap.get? b=some o->h'.get? b=some o/\b≠a)->s.heap.objs.size<=a->h'.get? a=some (seqObj "list" vs.toArray 0) ->
  wpAny (model prog w) A.in1.in1 (Builtin.«list.sort» ⟨[.ref a],[(Str.ofString "reverse",.bool b)]⟩) (fun fin s'=>∃v,fin=.done (.ret v)/\R (.ref a) s') E { s with heap:=h',toks:=tk }) :
 wpAny (model prog w) A (call (.builtin "sorted") [.ref d] [(Str.ofString "reverse",.bool b)]) R E s:=by
 refine call_function_entry_kw kind_sorted plain_sorted entry_sorted (args_sorted_rev _ _) ?_
 unfold Builtin.«sorted»
 refine wpAny_bind (m:=checkCount "sorted" 1 1 _) (wpAny_pure ?_)
 refine wpAny_bind (raw_collect (A:=A.in1) lo hm hh (by rw [sizeLine_eq];omega) fun h' tk hk ge=>?_)
 rw [hv]
 have hl:vs.length < 64:=by rw [<- hv,List.length_map,Array.length_toList];exact hz
 refine wpAny_bind (wpAny_newList ?_ (by rw [sizeLine_eq];omega))
 have ho:(h'.push (seqObj "list" vs.toArray 0)).get? h'.objs.size=some (seqObj "list" vs.toArray 0):=Heap.get?_push_size _ rfl
 refine wpAny_bind (wpAny_holding (wpAny_call_entry_kw slot_list_sort ⟨_,ho,rfl⟩ entry_list_sort ?_ (args_list_sort_rev _ _)))
 refine wpAny_mono (h _ tk h'.objs.size (fun b o e=>⟨Heap.get?_push_of_some _ (hk b o e),Nat.ne_of_lt (Heap.lt_size (hk b o e))⟩) (Nat.le_of_lt ge) ho) (fun fin s' x=>?_) fun _ _ x=>x
 obtain ⟨v,rfl,q⟩:=x
 exact ⟨_,rfl,wpAny_pure ⟨_,rfl,q⟩⟩
end
section
variable {X:Cx}
noncomputable def tSortR (te:TE):TE:=fun σ H Q=>te σ H fun x H1=>∃(d:Addr) (kvs:List (Key × V)) (ns:List Int),x=.ref d/\Rd H1 d (.dK kvs)/\kvs.map (·.1)=ns.map Sum.inl/\ns.length < 64 /\
 ∀(l:Addr) (ms:List Int),ms.Perm ns->ms.Pairwise (·>=·)->H1 l=none->Q (.ref l) (upd H1 l (.lst (ms.map V.int)))
theorem pe_sortR {e:Expr} {te:TE} {p pos kp pc:Pos} {jj} (hc:X.calm=true) (hg:Gl X "sorted") (hm:X.mg "sorted"=none) (he:PE X e te)
 (h1:backTo pos (starEach [e] X.env)=(false,eval e X.env) :: backTo pos (starEach [] X.env):=by rfl) (h2:(backTo pos (starEach [e] X.env)).any (·.1)=false:=by rfl)
 (h3:(backToKw pos (keywordEach [⟨some "reverse",.Constant (.bool true) jj pc,kp⟩] X.env)).all (·.1.isSome)=true:=by rfl) (h4:(backToKw pos (keywordEach [⟨some "reverse",.Constant (.bool true) jj pc,kp⟩] X.env)).any (·.1.isNone)=false:=by rfl)
 (h5:(backToKw pos (keywordEach [⟨some "reverse",.Constant (.bool true) jj pc,kp⟩] X.env)).filterMap (·.1)=[("reverse":Str)]:=by rfl) :
 PE X (.Call (.Name "sorted" p) [e] [⟨some "reverse",.Constant (.bool true) jj pc,kp⟩] pos) (tSortR te):=by
 intro pins s σ H Q I h
 refine wpAny_Call_Name_kw (ld_blt I hg hm boot_sorted ?_ (by decide) (by decide))
 refine with_kwB ?_ h1 h2 h3 h4
 rw [h1]
 refine Calls.spliced_cons (thn (he pins s σ H _ I h) fun u s1 ⟨x,H1,I1,r1,d,kvs,ns,hx,hd,hks,h64,q⟩=>?_)
 subst hx
 cases r1
 refine Calls.spliced_nil ?_
 refine kws_cons (wpAny_Constant_bool (kws_nil ?_))
 rw [h5]
 show wpAny (model X.prog X.w) X.A (call (.builtin "sorted") [.ref d] [(Str.ofString "reverse",.bool true)]) _ _ s1
 obtain ⟨_,lo,vs,kv,o,es,ep,g1,g2,g3,g4,g5,_⟩:=dk_rd I1.hok hd
 have hi:=int_keys kv g5 hks
 have hl:=hi.length
 have hes:es.size=ns.length:=by simpa using hl
 refine sorted_keys_rev lo ⟨o,g1,g2,g3⟩ (by omega) (I1.ok.hd hc) rfl fun h' tk a kp ge ho=>?_
 refine list_sort_tree_rev (s:={ s1 with heap:=h',toks:=tk }) ho hi (by rw [hl];exact h64) fun out ms i1 i2 i3=>⟨_,rfl,?_⟩
 obtain ⟨e,he⟩:=sortedHeap_at (out:=out) ho
 have hfr:H1 a=none:=I1.hok.fresh ge
 refine ⟨.ref _,_,I1.laid (t':=tk) (fun b o hb=>?_) ge (show ObjOk X.prog X.w _ _ _ (.lst (ms.map V.int)) from ⟨?_,out.toList,e,vals_ints i1,he⟩),rfl,q _ ms i2 i3 hfr⟩
 ·obtain ⟨k1,k2⟩:=kp b o hb
  rw [sortedHeap_old k2 (Heap.lt_size k1)]
  exact k1
 ·rw [List.length_map,i2.length_eq,sizeLine_eq]
  omega
end
abbrev hoI (v d:Addr):HO:=.ext fun h=>h.IsItemsView v d
noncomputable def FrK (P:Program) (w:World) (d:Addr) (ob:Obj) (kvs:List (Key × V)):Prop :=
 kvs.length<=sizeLine/\(d == sysModules)=false/\∃vs,KV kvs vs/\∃es ep,ob.ExactDict/\ob.data=.dict es ep/\KeysOf (mixKind P w) es/\Pairs (mixKind P w) es.toList vs/\(vs.map (·.1)).Nodup
noncomputable def Iti (d:Addr) (ob:Obj) (kvs:List (Key × V)):It :=
 ⟨fun i H=>H d=some (hoF d ob)/\i < kvs.length,fun i H x H'=>∃T k v,x=.ref T/\H T=none/\kvs[i]?=some (k,v)/\H'=upd H T (.tup [kV k,v]),fun i H=>H d=some (hoF d ob)/\i=kvs.length⟩
theorem rel_key {P:Program} {w:World} {k:Key} {u:Value} (h:(mixKind P w).is k u=true):RelV (kV k) u:=by
 rcases keyIs_shape (show keyIs k u=true from h) with ⟨i,t',a,b⟩ | ⟨x,t',a,b⟩
 ·subst a b
  exact ⟨_,rfl⟩
 ·subst a b
  exact ⟨_,rfl⟩
theorem FrK.of {P:Program} {w:World} {H:Hp} {h:Heap} {d:Addr} {kvs:List (Key × V)} (x:ObjOk P w H h d (.dK kvs)):∃ob,h.get? d=some ob/\FrK P w d ob kvs:=by
 obtain ⟨a,b,vs,c,o,es,ep,e,r⟩:=x
 exact ⟨o,e,a,b,vs,c,es,ep,r⟩
theorem FrK.to {P:Program} {w:World} {H:Hp} {h:Heap} {d:Addr} {ob:Obj} {kvs:List (Key × V)} (x:FrK P w d ob kvs) (e:h.get? d=some ob):ObjOk P w H h d (.dK kvs):=by
 obtain ⟨a,b,vs,c,es,ep,r⟩:=x
 exact ⟨a,b,vs,c,ob,es,ep,e,r⟩
section
variable {prog:Program} {w:World} {A:Around} {E:Value->Shared->Prop} {s:Shared}
theorem it_call {d:Addr} {Q:Value->Shared->Prop} (ty:s.TypeIs (.ref d) "dict") (hd:(d == sysModules)=false)
 (q:Q (.ref s.heap.objs.size) { s with heap:=s.heap.push { cls:=.type "dict_items",data:=.fields #[.ref d] } }):wpAny (model prog w) A (call (.builtin "dict.items") [.ref d]) Q E s:=by
 refine wpAny_call_entry F.slot_dict_items ty F.entry_dict_items ?_ (F.args_dict_items_1 _)
 unfold Builtin.«dict.items»;refine wpAny_bind ?_
 unfold Builtin.Dict.noArgs;refine wpAny_bind (wpAny_notOrdered_dict ty ?_)
 show wpAny _ _ (pure d) _ _ s;refine wpAny_pure ?_
 show wpAny _ _ (Builtin.Dict.showsAll d >>= _) _ _ s;unfold Builtin.Dict.showsAll
 rw [if_neg (by rw [hd];exact Bool.false_ne_true)];refine wpAny_bind (wpAny_pure (wpAny_bind (wpAny_newObj_type (wpAny_pure ⟨_,rfl,q⟩))))
end
section
variable {X:Cx}
theorem mt_items:MtR X "dict.items" (fun x vs H Q=>∃(d:Addr) (kvs:List (Key × V)),x=.ref d/\vs=[]/\H d=some (.dK kvs)/\∀v,H v=none->Q (.ref v) (upd H v (hoI v d))):=by
 intro pins s σ H x vs v us Q I rx rv h
 obtain ⟨d,kvs,rfl,rfl,e,q⟩:=h
 cases rx
 have hus:=rv.zero
 subst hus
 obtain ⟨_,hd,vs,_,o,es,ep,h1,h2,h3⟩:=(show ObjOk X.prog X.w H s.heap d (.dK kvs) from I.hok d _ e)
 refine it_call ⟨o,h1,h2.1⟩ hd ?_
 refine ⟨.ref s.heap.objs.size,_,I.laid (t':=s.toks) (fun b u z=>Heap.get?_push_of_some _ z) (Nat.le_refl _) ?_,rfl,q _ (I.hok.fresh (Nat.le_refl _))⟩
 refine ⟨⟨_,Heap.get?_push_size _ rfl,rfl,rfl⟩,⟨_,Heap.get?_push_size _ rfl⟩,fun g1 g2 ⟨o,z,r⟩ k=>⟨o,k o z,r⟩⟩
theorem turn_items {P:Program} {w:World} {K:PySem.W.Frag} {xs:List Expr} {k:Nat} {pos:Pos} {d it:Addr} {ob:Obj} {kvs:List (Key × V)} {vs:List (Key × Value)} (kv:KV kvs vs) {es:Array DictEntry} {ep:Nat} (fr:ob.ExactDict/\ob.data=.dict es ep/\KeysOf (mixKind P w) es/\Pairs (mixKind P w) es.toList vs/\(vs.map (·.1)).Nodup) :
 Turn P w K (.Tuple xs k pos) (Iti d ob kvs) [it] it (fun i h=>i<=kvs.length/\∃ok ov,IsItemIter h it d i vs.length ep ok ov) where
 mem:=by simp
 obj:=fun i h st b hb=>by
  have e:b=it:=by simpa using hb
  subst e
  obtain ⟨_,ok,ov,e⟩:=st
  exact ⟨_,e,fun v z=>by cases (show Data.fields _=Data.cell v from z)⟩
 keep:=fun i h h' ⟨a,ok,ov,e⟩ k=>⟨a,ok,ov,k it (by simp) _ e⟩
 item:=by
  intro X hP hw hK hc i pins s σ H E I hf st hg
  subst hP hw hK
  obtain ⟨hd,hi⟩:=hg
  obtain ⟨_,ok,ov,st⟩:=st
  obtain ⟨p,hp⟩:∃p,kvs[i]?=some p:=⟨_,List.getElem?_eq_getElem hi⟩
  obtain ⟨q,hq,r1,r2⟩:=paired_get kv hp
  have lt:it < s.heap.objs.size:=Heap.lt_size st
  refine wpAny_pyNext_items_item st ⟨ob,es,I.held hd,fr⟩ (k:=q.1) (v:=q.2) hq fun key h' hk out nT hsz keep=>⟨_,rfl,?_⟩
  refine wpAny_letOwnedTupleGo_items out fun g2 z2 sb=>?_
  have fr0:H s.heap.objs.size=none:=I.hok.fresh (Nat.le_refl _)
  refine ⟨.ref s.heap.objs.size,upd H s.heap.objs.size (.tup [kV p.1,p.2]),?_,rfl,⟨_,p.1,p.2,rfl,fr0,hp,rfl⟩,⟨by omega,_,_,z2⟩,fun b hb=>?_⟩
  ·refine I.laidTurned (fp:=[it]) (t':=s.toks) (fun c o hc z=>?_) hf (Nat.le_refl _) ?_
   ·have n1:c≠it:=fun e=>hc (by simp [e])
    exact (sb.2 c n1).trans (keep c o n1 z)
   ·exact ⟨by show 2<=sizeLine;decide,[key,q.2],.cons (by rw [r1];exact rel_key hk) (.cons r2 .nil),⟨_,(sb.2 _ (Nat.ne_of_gt lt)).trans nT,rfl,_,rfl⟩⟩
  ·have e:b=it:=by simpa using hb
   subst e
   rw [upd_ne (Nat.ne_of_lt lt)]
   exact (hf b hb).1
 done:=by
  intro X hP hw hK hc i pins s σ H E I hf st hg
  subst hP hw hK
  obtain ⟨hd,hi⟩:=hg
  obtain ⟨_,ok,ov,st⟩:=st
  obtain ⟨f0,f1,f2,f3,f4,f5⟩:=hf it (by simp)
  have hx:vs[i]?=none:=List.getElem?_eq_none (by have:=KV.length kv;omega)
  exact wpAny_pyNext_items_end (I.ok.hd hc) st ⟨ob,es,I.held hd,fr⟩ hx fun h' eb=>⟨rfl,I.turned (t':=s.toks) (fun b o hb e=>eb b o hb e) f0 f1 f3 f4 f5⟩
 self:=fun _ _ _ _ _ st h=>let ⟨_,_,_,e⟩:=st;PySem.W.kcp_self e h
noncomputable def iItems (P:Program) (w:World) (te:TE):TI:=fun σ H R=>te σ H fun x H1=>∃(v d:Addr) (kvs:List (Key × V)),x=.ref v/\H1 v=some (hoI v d)/\H1 d=some (.dK kvs)/\∀ob,FrK P w d ob kvs->R (Iti d ob kvs) (upd H1 d (hoF d ob))
theorem pi_items {e:Expr} {es:List Expr} {k:Nat} {pt:Pos} {te:TE} (he:PE X e te):PI X (.Tuple es k pt) e (iItems X.prog X.w te):=by
 intro pins s σ H R I h
 refine thn (he pins s σ H _ I h) fun u s1 ⟨x,H1,I1,r1,v,d,kvs,ex,ev,ed,q⟩=>?_
 subst ex
 cases r1
 obtain ⟨vw,_,_⟩:=(show ObjOk X.prog X.w H1 s1.heap v (hoI v d) from I1.hok v _ ev)
 obtain ⟨ob,eo,f⟩:=FrK.of (show ObjOk X.prog X.w H1 s1.heap d (.dK kvs) from I1.hok d _ ed)
 obtain ⟨_,_,vs,kv,es',ep,fr⟩:=id f
 refine wpAny_pyIter_items (knd:=mixKind X.prog X.w) vw ⟨ob,es',eo,fr⟩ ?_
 have I2:Inv X pins σ (upd H1 d (hoF d ob)) s1:=d_write (t':=s1.toks) I1 (by rw [ed];exact True.intro) (Heap.SameBut.refl d s1.heap) ⟨ob,eo⟩ ⟨eo,⟨ob,eo⟩,fun _ _ z k=>k _ z⟩
 refine ⟨s1.heap.objs.size,[s1.heap.objs.size],_,_,_,rfl,I2.kept (t':=s1.toks) fun b o e=>Heap.get?_push_of_some _ e,turn_items kv fr,⟨Nat.zero_le _,_,_,Heap.get?_push_size _ rfl⟩,fun b hb=>?_,q ob f⟩
 have e:b=s1.heap.objs.size:=by simpa using hb
 subst e
 exact I2.fpOk (Nat.le_refl _) (I2.hok.fresh (Nat.le_refl _))
noncomputable def tThawK (P:Program) (w:World) (te:TE):TE:=fun σ H Q=>te σ H fun v H'=>∃(d:Addr) (ob:Obj) (kvs:List (Key × V)),H' d=some (hoF d ob)/\FrK P w d ob kvs/\Q v (upd H' d (.dK kvs))
theorem pe_thawK {e:Expr} {te:TE} (he:PE X e te):PE X e (tThawK X.prog X.w te):=by
 intro pins s σ H Q I h
 refine thn (he pins s σ H _ I h) fun u s1 ⟨x,H1,I1,r1,d,ob,kvs,ed,f,q⟩=>?_
 have eo:=I1.held ed
 exact ⟨x,_,d_write (t':=s1.toks) I1 (by rw [ed];exact True.intro) (Heap.SameBut.refl d s1.heap) ⟨ob,eo⟩ (f.to eo),r1,q⟩
end
theorem comp_items {K:PySem.W.Frag} {d:Addr} {ob:Obj} {kvs:List (Key × V)} {tt:TT} {te:TE} {σ:St} {H1:Hp} {Q:Addr->Hp->Prop} {n m:Nat} (hn:n=σ.length) (hm:m=σ.length+1) (hz:kvs.length<=sizeLine) (Pv:Addr->Nat->List V->Hp->Prop)
 (h0:∀D,H1 D=none->Pv D 0 [] (upd H1 D (.lst []))) (hD:∀D i ys H,Pv D i ys H->H D=some (.lst ys)/\ys.length<=i) (hl:∀D i ys H,H1 D=none->Pv D i ys H->H d=some (hoF d ob))
 (hs:∀D i k v T ys H (K1:VK) (K2:Hp->Prop),H1 D=none->kvs[i]?=some (k,v)->Pv D i ys H->H T=none->(∀y H5,H5 D=some (.lst ys)->Pv D (i+1) (ys++[y]) (upd H5 D (.lst (ys++[y])))->K1 y H5)->(∀H4,Pv D (i+1) ys H4->K2 H4) ->
  tt (σ++[some (kV k),some v]) (upd H T (.tup [kV k,v])) fun b H4=>if b=true then te (σ++[some (kV k),some v]) H4 K1 else K2 H4)
 (hd:∀D ys H,H1 D=none->Pv D kvs.length ys H->Q D H) :
 ∀D,H1 D=none->∃W:Nat->Nat->List V->Hp->Prop,(∃m,W 0 m [] (upd H1 D (.lst [])))/\∀i k ys H2,W i k ys H2 ->
  H2 D=some (.lst ys)/\(((Iti d ob kvs).stop i H2/\Q D H2)\/((Iti d ob kvs).go i H2/\ys.length < sizeLine/\∀x H3,(Iti d ob kvs).yld i H2 x H3->∀os:St,os.length=2->gTup K 2 (gCons (gName n) (gCons (gName m) gNil)) x (σ++os) H3 fun σ4 H4=>(∃os':St,σ4=σ++os'/\os'.length=2)/\tt σ4 H4 fun b H5=>if b=true then te σ4 H5 fun y H6=>H6 D=some (.lst ys)/\∃m',m' < k/\W (i+1) m' (ys++[y]) (upd H6 D (.lst (ys++[y])))
   else ∃m',m' < k/\W (i+1) m' ys H5)):=by
 intro D hDn
 subst hn hm
 refine ⟨fun i m ys H=>m=kvs.length - i/\i<=kvs.length/\Pv D i ys H,⟨kvs.length,rfl,Nat.zero_le _,h0 D hDn⟩,?_⟩
 rintro i m ys H2 ⟨rfl,hi,p⟩
 obtain ⟨e,l⟩:=hD D i ys H2 p
 have q1:=hl D i ys H2 hDn p
 refine ⟨e,?_⟩
 by_cases hlt:i < kvs.length
 ·refine .inr ⟨⟨q1,hlt⟩,Nat.lt_of_le_of_lt l (Nat.lt_of_lt_of_le hlt hz),fun x H3 y os ho=>?_⟩
  obtain ⟨T,k,v,rfl,hT,hy,rfl⟩:=y
  have q5:=hs D i k v T ys H2 (fun y H6=>H6 D=some (.lst ys)/\∃m',m' < kvs.length - i/\m'=kvs.length - (i+1)/\i+1<=kvs.length/\Pv D (i+1) (ys++[y]) (upd H6 D (.lst (ys++[y])))) (fun H5=>∃m',m' < kvs.length - i/\m'=kvs.length - (i+1)/\i+1<=kvs.length/\Pv D (i+1) ys H5) hDn hy p hT (fun y H5 h5 p5=>⟨h5,kvs.length - (i+1),by omega,rfl,hlt,p5⟩) fun H4 p4=>⟨kvs.length - (i+1),by omega,rfl,hlt,p4⟩
  match os,ho with
  | [o1,o2],_ =>
    have e2:((σ++[o1,o2]).set σ.length (some (kV k))).set (σ.length+1) (some v)=σ++[some (kV k),some v]:=by
     rw [List.set_append_right _ _ (Nat.le_refl _),Nat.sub_self,List.set_append_right _ _ (Nat.le_succ _)]
     rw [show (List.length σ+1) - List.length σ=1 by omega]
     rfl
    refine ⟨T,[kV k,v],rfl,SqT.of upd_same,rfl,kV k,[v],rfl,v,[],rfl,rfl,?_⟩
    refine ⟨⟨[some (kV k),some v],e2,rfl⟩,?_⟩
    rw [e2]
    exact q5
 ·have ei:i=kvs.length:=by omega
  subst ei
  exact .inl ⟨⟨q1,rfl⟩,hd D ys H2 hDn p⟩
end L2
namespace PySem
open Sem (wp)
section
variable {prog:Program} {w:World} {K:Type} [DecidableEq K] (knd:KeyKind prog w K)
inductive RefsAre (h:Heap):List (List K)->List Value->Prop
 | nil:RefsAre h [] []
 | cons {k:List K} {a:Addr} {ks:List (List K)} {vs:List Value}:IsTupleKey knd h k a->RefsAre h ks vs->RefsAre h (k :: ks) (.ref a :: vs)
noncomputable def IsNestKey (h:Heap) (ks:List (List K)) (a:Addr):Prop:=∃o items n,h.get? a=some o/\o.cls=.type "tuple"/\o.data=.seq items n/\RefsAre knd h ks items.toList
variable {knd}
theorem RefsAre.inj {h:Heap} {x y:List (List K)} {vs:List Value} (hx:RefsAre knd h x vs) (hy:RefsAre knd h y vs):x=y:=by
 induction hx generalizing y with
 | nil=>cases hy;rfl
 | cons h1 _ ih =>
   cases hy with
   | cons h2 t2=>rw [h1.inj h2,ih t2]
theorem IsNestKey.typeIs {s:Shared} {ks:List (List K)} {a:Addr} (x:IsNestKey knd s.heap ks a):s.TypeIs (.ref a) "tuple":=let ⟨o,_,_,ho,hc,_⟩:=x;⟨o,ho,hc⟩
theorem IsNestKey.inj {h:Heap} {a:Addr} {x y:List (List K)} (hx:IsNestKey knd h x a) (hy:IsNestKey knd h y a):x=y:=by
 obtain ⟨o,items,n,ho,_,hd,hi⟩:=hx
 obtain ⟨o',items',n',ho',_,hd',hi'⟩:=hy
 obtain rfl:o=o':=Option.some.inj (ho.symm.trans ho')
 rw [hd] at hd'
 injection hd' with h1 _
 subst h1
 exact hi.inj hi'
theorem RefsAre.keeps {h h':Heap} {ks:List (List K)} {vs:List Value} {d:Addr} {o:Obj} {es ep} (x:RefsAre knd h ks vs) (ho:h.get? d=some o) (hd:o.data=.dict es ep) (hs:Heap.SameBut d h h'):RefsAre knd h' ks vs:=by
 induction x with
 | nil=>exact .nil
 | cons h1 _ ih=>exact .cons (h1.keeps ho hd hs) ih
theorem IsNestKey.keeps {h h':Heap} {ks:List (List K)} {a d:Addr} {o:Obj} {es ep} (x:IsNestKey knd h ks a) (ho:h.get? d=some o) (hd:o.data=.dict es ep) (hs:Heap.SameBut d h h') :
 IsNestKey knd h' ks a:=by
 obtain ⟨o',items,n,ho',hc,hd',hi⟩:=x
 have hne:a≠d:=by
  rintro rfl
  obtain rfl:o'=o:=Option.some.inj (ho'.symm.trans ho)
  rw [hd] at hd';exact nomatch hd'
 exact ⟨o',items,n,(hs.2 a hne).trans ho',hc,hd',hi.keeps ho hd hs⟩
noncomputable def nestHash (knd:KeyKind prog w K) (ks:List (List K)):Int:=reduceHash (Builtin.Tuple.tupleHashOf (ks.map (tupleKeyHash knd)))
noncomputable def nestDraws (ks:List (List K)):Nat:=(ks.map fun k=>k.length+1).sum+1
variable {A:Around} {E:Value->Shared->Prop} {s:Shared}
theorem wpAny_pyHash_nest {ks:List (List K)} {a:Addr} {Q:Int->Shared->Prop} (hu:A.units+1 < cLine) (hk:IsNestKey knd s.heap ks a) (h:Q (nestHash knd ks) { s with toks:=s.toks+nestDraws ks }) :
 wpAny (model prog w) A (pyHash (.ref a)) Q E s:=by
 have hT:=hk.typeIs
 obtain ⟨o,items,n,ho,_,hd,hi⟩:=hk
 unfold pyHash
 first | unfold pyHashByItsType | skip
 first | refine wpAny_bind (wpAny_cRoomFor_or (.inr (Nat.lt_of_succ_lt hu)) ?_) | skip
 refine wpAny_bind (wpAny_specialOf hT F.slot_tuple_hash.lookup ?_)
 show wpAny _ _ (if (some (Value.builtin "tuple.__hash__") == some Value.none)=true then _ else _) Q E s
 rw [if_neg (by rw [beq_builtin_none];exact Bool.false_ne_true)]
 refine wpAny_bind (wpAny_specialOf hT F.slot_tuple_hash.lookup ?_)
 show wpAny _ _ (callSpecialIfBoundUnlessNone? (.ref a) "__hash__" _ >>= _) Q E s
 refine wpAny_bind (wpAny_callSpecialIfBoundUnlessNone?_slot hT F.slot_tuple_hash (wpAny_call_entry F.slot_tuple_hash hT F.entry_tuple_hash ?_ (F.args_tuple_hash_1 _)))
 show wpAny _ _ (Builtin.Tuple.tupleItemsOf (.ref a) >>= _) _ _ s
 refine wpAny_bind (wpAny_tupleItemsOf ho hd ?_)
 refine wpAny_bind ?_
 rw [<- Array.forIn_toList]
 refine wpAny_forIn_list _
  (fun rest (b:Array Int) s'=>∃done left,ks=done++left/\RefsAre knd s.heap left rest/\b.toList=done.map (tupleKeyHash knd)/\s'={ s with toks:=s.toks+(done.map fun k=>k.length+1).sum })
  _ ?_ ?_ _ _ ⟨[],ks,rfl,hi,rfl,rfl⟩
 ·rintro x rest b s' ⟨done,left,rfl,hl,hb,rfl⟩
  cases hl with
  | @cons k _ ks' _ h1 hl' =>
    refine wpAny_bind (wpAny_pyHash_tuple (knd:=knd) hu h1 ?_)
    first
     | exact wpAny_pure ⟨done++[k],ks',by simp,hl',by simp [hb],by simp [Nat.add_assoc]⟩
     | exact wpAny_bind (wpAny_pure (wpAny_pure ⟨done++[k],ks',by simp,hl',by simp [hb],by simp [Nat.add_assoc]⟩))
 ·rintro b s' ⟨done,left,rfl,hl,hb,rfl⟩
  cases hl
  rw [List.append_nil] at h
  show wpAny _ _ (retInt (Builtin.Tuple.tupleHashOf b.toList)) _ _ _
  rw [hb]
  refine wpAny_ret_mkInt ?_
  show wpAny _ _ (if (decide (-(2:Int) ^ 63<=Builtin.Tuple.tupleHashOf (done.map (tupleKeyHash knd))) && decide (Builtin.Tuple.tupleHashOf (done.map (tupleKeyHash knd)) < 2 ^ 63))=true then _ else _) Q E _
  unfold nestHash reduceHash nestDraws at h
  by_cases hr:(decide (-(2:Int) ^ 63<=Builtin.Tuple.tupleHashOf (done.map (tupleKeyHash knd))) && decide (Builtin.Tuple.tupleHashOf (done.map (tupleKeyHash knd)) < 2 ^ 63))=true
  ·rw [if_pos hr]
   rw [if_pos hr] at h
   exact wpAny_pure (by simpa [Nat.add_assoc] using h)
  ·rw [if_neg hr]
   rw [if_neg hr] at h
   exact wpAny_bind (wpAny_rule (wpAny_pure (by simpa [Nat.add_assoc] using h)))
theorem nest_eq_tree {x y:List (List K)} {a b:Addr} {P:Fin->Shared->Prop} (hu:A.units < cLine) (hx:IsNestKey knd s.heap x a) (hy:IsNestKey knd s.heap y b) (h:P (.done (.ret (.bool (decide (x=y))))) s) :
 wpAny (model prog w) A (Builtin.«tuple.__eq__» ⟨[.ref a,.ref b],[]⟩) P E s:=by
 have hTb:=hy.typeIs
 obtain ⟨oa,xs,na,hoa,_,hda,hia⟩:=hx
 obtain ⟨ob,ys,nb,hob,_,hdb,hib⟩:=hy
 show wpAny _ _ (isInstance (.ref b) (.type "tuple") >>= _) _ _ s
 refine wpAny_bind (wpAny_isInstance hTb isSubtype_tuple_tuple ?_)
 simp only [Bool.not_true,Bool.false_eq_true,if_false]
 refine wpAny_bind (wpAny_tupleItemsOf hoa hda ?_)
 refine wpAny_bind (wpAny_tupleItemsOf hob hdb ?_)
 refine wpAny_bind ?_
 refine wpAny_forIn_list _
  (fun rest r s'=>r.1=none/\s'=s/\∃x' y' xs' ys',rest=List.zip xs' ys'/\RefsAre knd s.heap x' xs'/\RefsAre knd s.heap y' ys'/\decide (x'=y')=decide (x=y)/\(xs'.length == ys'.length)=(xs.size == ys.size))
  _ ?_ ?_ _ _ ⟨rfl,rfl,x,y,xs.toList,ys.toList,rfl,hia,hib,rfl,by simp⟩
 ·rintro ⟨u,v⟩ rest r s' ⟨hr,rfl,x',y',xs',ys',hz,hx',hy',hdec,hlen⟩
  cases hx' with
  | nil=>simp at hz
  | @cons k1 u' x'' xs'' h1 hx'' =>
    cases hy' with
    | nil=>simp at hz
    | @cons k2 v' y'' ys'' h2 hy'' =>
      simp only [List.zip_cons_cons,List.cons.injEq,Prod.mk.injEq] at hz
      obtain ⟨⟨rfl,rfl⟩,rfl⟩:=hz
      refine wpAny_bind (wpAny_eqBool_tuple (x:=k1) (y:=k2) hu h1 h2 ?_)
      by_cases hk:k1=k2
      ·subst hk
       rw [decide_eq_true rfl]
       simp only [Bool.not_true,Bool.false_eq_true,if_false]
       refine wpAny_pure ⟨rfl,rfl,x'',y'',xs'',ys'',rfl,hx'',hy'',?_,by simpa using hlen⟩
       rw [<- hdec]
       by_cases hxy:x''=y''
       ·simp [hxy]
       ·simp [hxy]
      ·rw [decide_eq_false hk]
       simp only [Bool.not_false,if_true]
       have hf:decide (x=y)=false:=by rw [<- hdec];simp [hk]
       rw [hf] at h
       exact wpAny_bind (wpAny_pure (wpAny_pure (wpAny_pure h)))
 ·rintro ⟨r1,r2⟩ s' ⟨hr,rfl,x',y',xs',ys',hz,hx',hy',hdec,hlen⟩
  simp only at hr
  subst hr
  refine wpAny_pure ?_
  have hfin:(xs.size == ys.size)=decide (x=y):=by
   rw [<- hdec,<- hlen]
   cases hx' with
   | nil =>
     cases hy' with
     | nil=>simp
     | cons _ _=>simp
   | cons _ _ =>
     cases hy' with
     | nil=>simp
     | cons _ _=>simp at hz
  show P (.done (.ret (.bool (xs.size == ys.size)))) s'
  rw [hfin];exact h
theorem wpAny_eqBool_nest {x y:List (List K)} {a b:Addr} {Q:Bool->Shared->Prop} (hu:A.units+1 < cLine) (hx:IsNestKey knd s.heap x a) (hy:IsNestKey knd s.heap y b) (h:Q (decide (x=y)) s) :
 wpAny (model prog w) A (eqBool (.ref a) (.ref b)) Q E s:=by
 unfold eqBool
 try with_reducible refine wpAny_holding ?_
 show wpAny _ _ (if (Value.ref a == Value.ref b)=true then _ else _) Q E s
 by_cases hab:(Value.ref a == Value.ref b)=true
 ·rw [if_pos hab]
  have e:a=b:=by have:=eq_of_beq hab;injection this
  subst e
  obtain rfl:=hx.inj hy
  exact wpAny_bind (wpAny_rule (wpAny_pure (by simpa using h)))
 ·rw [if_neg hab]
  exact wpAny_bind (wpAny_richCompare_same_room (op:=.Eq) hx.typeIs hy.typeIs F.slot_tuple_eq
   (wpAny_call_entry F.slot_tuple_eq hx.typeIs F.entry_tuple_eq (nest_eq_tree hu hx hy ⟨_,rfl,(fun e=>nomatch e),wpAny_truthy_bool h⟩) (F.args_tuple_eq_2 _ _)) (Nat.lt_of_succ_lt hu))
theorem wpAny_quiet_n {ks:List K} {a:Addr} {Q:Bool->Shared->Prop} (n:Nat) (hk:IsTupleKey knd s.heap ks a) (h:Q true s):wpAny (model prog w) A (eqIsQuiet (n+1) (.ref a)) Q E s:=by
 have hT:=hk.typeIs
 obtain ⟨o,items,m,ho,_,hd,hi⟩:=hk
 unfold eqIsQuiet
 refine wpAny_bind (wpAny_specialOf hT F.slot_tuple_eq.lookup ?_)
 show wpAny _ _ (isInstance (.ref a) (.type "tuple") >>= _) _ _ s
 refine wpAny_bind (wpAny_isInstance hT isSubtype_tuple_tuple ?_)
 simp only [Bool.not_true,Bool.false_eq_true,if_false]
 refine wpAny_bind (wpAny_seqItems ho hd ?_)
 refine wpAny_bind ?_
 show wpAny _ _ (forIn items _ _) _ _ s
 rw [<- Array.forIn_toList]
 refine wpAny_forIn_list _ (fun rest r s'=>r.1=none/\s'=s/\∀v∈rest,carriedByValue v=true) _ ?_ ?_ _ _ ⟨rfl,rfl,hi.byValue⟩
 ·rintro v rest r s' ⟨hr,rfl,hall⟩
  rw [eqIsQuiet_byValue _ (hall v List.mem_cons_self)]
  refine wpAny_bind (wpAny_pure ?_)
  simp only [Bool.not_true,Bool.false_eq_true,if_false]
  exact wpAny_pure ⟨rfl,rfl,fun u hu'=>hall u (List.mem_cons_of_mem _ hu')⟩
 ·rintro ⟨r1,r2⟩ s' ⟨hr,rfl,_⟩
  simp only at hr
  subst hr
  exact wpAny_pure h
theorem wpAny_quiet_nest {ks:List (List K)} {a:Addr} {Q:Bool->Shared->Prop} (hk:IsNestKey knd s.heap ks a) (h:Q true s):wpAny (model prog w) A (eqIsQuiet 8 (.ref a)) Q E s:=by
 have hT:=hk.typeIs
 obtain ⟨o,items,m,ho,_,hd,hi⟩:=hk
 unfold eqIsQuiet
 refine wpAny_bind (wpAny_specialOf hT F.slot_tuple_eq.lookup ?_)
 show wpAny _ _ (isInstance (.ref a) (.type "tuple") >>= _) _ _ s
 refine wpAny_bind (wpAny_isInstance hT isSubtype_tuple_tuple ?_)
 simp only [Bool.not_true,Bool.false_eq_true,if_false]
 refine wpAny_bind (wpAny_seqItems ho hd ?_)
 refine wpAny_bind ?_
 show wpAny _ _ (forIn items _ _) _ _ s
 rw [<- Array.forIn_toList]
 refine wpAny_forIn_list _ (fun rest r s'=>r.1=none/\s'=s/\∃ks,RefsAre knd s.heap ks rest) _ ?_ ?_ _ _ ⟨rfl,rfl,ks,hi⟩
 ·rintro v rest r s' ⟨hr,rfl,ks,hall⟩
  cases hall with
  | @cons k _ ks' _ h1 h2 =>
    refine wpAny_bind (wpAny_quiet_n 6 h1 ?_)
    simp only [Bool.not_true,Bool.false_eq_true,if_false]
    exact wpAny_pure ⟨rfl,rfl,ks',h2⟩
 ·rintro ⟨r1,r2⟩ s' ⟨hr,rfl,_⟩
  simp only at hr
  subst hr
  exact wpAny_pure h
end
noncomputable def nestKind {prog:Program} {w:World} {K:Type} [DecidableEq K] (knd:KeyKind prog w K):HeapKind prog w (List (List K)) where
 is:=IsNestKey knd
 hash:=nestHash knd
 draws:=nestDraws
 room:=fun A=>A.units+1 < cLine
 inj:=fun hx hy=>hx.inj hy
 keeps:=fun x ho hd hs=>x.keeps ho hd hs
 pyHash:=fun hu hk h=>wpAny_pyHash_nest hu hk h
 eqBool:=fun hu hx hy h=>wpAny_eqBool_nest hu hx hy h
 quiet:=fun hk h=>wpAny_quiet_nest hk h
end PySem
namespace L2
open PySem PySem.Spec PyProof.Rows
noncomputable def NKey (H:Hp) (b:Addr) (kss:List (List Key)):Prop:=∃as:List Addr,H b=some (.tup (as.map V.ref))/\Paired (fun (ks:List Key) (a:Addr)=>H a=some (.tup (ks.map kV))) kss as
abbrev KN (H:Hp):List (List (List Key) × V)->List (List (List Key) × Addr × Value)->Prop:=Paired fun p q=>p.1=q.1/\NKey H q.2.1 p.1/\RelV p.2 q.2.2
noncomputable def NT (P:Program) (w:World) (H:Hp) (a:Addr) (kvs:List (List (List Key) × V)):Prop:=∃ob:Obj,H a=some (hoF a ob)/\kvs.length<=sizeLine/\(a == sysModules)=false /\
 ∃xs,KN H kvs xs/\∃es ep,ob.ExactDict/\ob.data=.dict es ep/\es.toList=xs.map (entryOfKey (nestKind (mixKind P w)))/\(xs.map (·.1)).Nodup
theorem NKey.tups {H H':Hp} {b:Addr} {kss:List (List Key)} (t:∀c xs,H c=some (.tup xs)->H' c=some (.tup xs)) (k:NKey H b kss):NKey H' b kss:=by
 obtain ⟨as,h1,h2⟩:=k
 exact ⟨as,t _ _ h1,Paired.mapP h2 fun _ _ z=>t _ _ z⟩
theorem NKey.same {H H':Hp} {b:Addr} {kss:List (List Key)} (t:Same H H') (k:NKey H b kss):NKey H' b kss:=k.tups fun c xs e=>t c _ e
theorem KN.tups {H H':Hp} {kvs:List (List (List Key) × V)} {xs:List (List (List Key) × Addr × Value)} (t:∀c xs,H c=some (.tup xs)->H' c=some (.tup xs)) (k:KN H kvs xs):KN H' kvs xs :=
 Paired.mapP k fun _ _ z=>⟨z.1,z.2.1.tups t,z.2.2⟩
theorem NT.same {P:Program} {w:World} {H H':Hp} {a:Addr} {kvs:List (List (List Key) × V)} (t:Same H H') (k:NT P w H a kvs):NT P w H' a kvs:=by
 obtain ⟨ob,h1,h2,h3,xs,h4,r⟩:=k
 exact ⟨ob,t _ _ h1,h2,h3,xs,h4.tups fun c xs e=>t c _ e,r⟩
theorem KN.val {H:Hp} {kvs:List (List (List Key) × V)} {xs:List (List (List Key) × Addr × Value)} (r:KN H kvs xs) (k:List (List Key)):RelO (valV kvs k) ((atKey xs k).map (·.2)):=by
 induction r with
 | nil=>exact True.intro
 | @cons p q ps qs h t ih =>
   obtain ⟨h1,_,h2⟩:=h
   by_cases e:p.1=k
   ·have e':q.1=k:=h1.symm.trans e
    have b:atKey (q :: qs) k=some q.2:=by simp [atKey,List.find?_cons,e']
    rw [valV_pos e,b];exact h2
   ·have e':¬ q.1=k:=fun z=>e (h1.trans z)
    have b:atKey (q :: qs) k=atKey qs k:=by simp [atKey,List.find?_cons,e']
    rw [valV_neg e,b];exact ih
theorem KN.repl {H:Hp} {kvs:List (List (List Key) × V)} {xs:List (List (List Key) × Addr × Value)} (r:KN H kvs xs) (k:List (List Key)) {y:V} {u:Value} (ry:RelV y u) :
 KN H (kvs.map fun kv=>if kv.1=k then (kv.1,y) else kv) (xs.map (putAt k u)):=by
 induction r with
 | nil=>exact .nil
 | @cons p q ps qs h t ih =>
   rw [List.map_cons,List.map_cons]
   refine .cons ?_ ih
   obtain ⟨h1,h2,h3⟩:=h
   unfold putAt
   by_cases e:p.1=k
   ·rw [if_pos e,if_pos (h1.symm.trans e)];exact ⟨h1,h2,ry⟩
   ·rw [if_neg e,if_neg (fun z=>e (h1.trans z))];exact ⟨h1,h2,h3⟩
theorem KN.put {H:Hp} {kvs:List (List (List Key) × V)} {xs:List (List (List Key) × Addr × Value)} (r:KN H kvs xs) (k:List (List Key)) {b:Addr} {y:V} {u:Value} (hb:NKey H b k) (ry:RelV y u) :
 KN H (putK kvs k y) (storedH xs k b u):=by
 have e:(kvs.any fun kv=>decide (kv.1=k))=(atKey xs k).isSome:=by
  rw [valV_any,(r.val k).isSome_eq,Option.isSome_map]
 unfold putK storedH
 rw [e]
 by_cases q:(atKey xs k).isSome=true
 ·rw [if_pos q,if_pos q];exact r.repl k ry
 ·rw [if_neg q,if_neg q];exact Paired.snoc r ⟨rfl,hb,ry⟩
section
variable {P:Program} {w:World} {H:Hp} {h:Heap} {a:Addr}
theorem refs_of (ok:HOk P w H h):∀{kss:List (List Key)} {as:List Addr} {its:List Value},Paired (fun (ks:List Key) (a:Addr)=>H a=some (.tup (ks.map kV))) kss as->Vals (as.map V.ref) its->RefsAre (mixKind P w) h kss its
 | _,_,_,.nil,r=>by cases r;exact .nil
 | _,_,_,.cons (b:=b) hb t,r=>by
   rw [List.map_cons] at r
   cases r with
   | cons x y =>
     cases (show _=Value.ref b from x)
     exact .cons (key_of ok hb) (refs_of ok t y)
theorem nkey_of {kss:List (List Key)} (ok:HOk P w H h) (e:NKey H a kss):(nestKind (mixKind P w)).is h kss a:=by
 obtain ⟨as,e1,e2⟩:=e
 obtain ⟨sz,its,r,o,h1,h2,n,h3⟩:=(show ObjOk P w H h a (.tup (as.map V.ref)) from ok a _ e1)
 refine ⟨o,its.toArray,n,h1,h2,h3,?_⟩
 rw [show its.toArray.toList=its from by simp]
 exact refs_of ok e2 r
theorem nt_of {kvs:List (List (List Key) × V)} (ok:HOk P w H h) (e:NT P w H a kvs):∃ob,H a=some (hoF a ob)/\kvs.length<=sizeLine/\(a == sysModules)=false/\∃xs,KN H kvs xs/\h.DictOfH (nestKind (mixKind P w)) a xs:=by
 obtain ⟨ob,h0,h1,h2,xs,r,es,ep,h3,h4,h5,h6⟩:=e
 have hg:h.get? a=some ob:=by
  obtain ⟨z,_⟩:=(show ObjOk P w H h a (hoF a ob) from ok a _ h0)
  exact z
 refine ⟨ob,h0,h1,h2,xs,r,ob,es,ep,hg,h3,h4,h5,fun x hx=>?_,h6⟩
 clear h5 h6 h1
 induction r with
 | nil=>exact nomatch hx
 | @cons p q ps qs hq t ih =>
   rcases List.mem_cons.mp hx with e | hx
   ·subst e
    exact nkey_of ok (by rw [<- hq.1];exact hq.2.1)
   ·exact ih hx
end
theorem u2 {n:Nat} (h:n+64 < cLine):n+2 < cLine:=by omega
noncomputable def tDNewN (P:Program) (w:World):TE:=fun _ H Q=>∀p ob,H p=none->NT P w (upd H p (hoF p ob)) p []->Q (.ref p) (upd H p (hoF p ob))
noncomputable def tDGetN (P:Program) (w:World) (td ty:TE):TE:=fun σ H Q=>td σ H fun x H1=>ty σ H1 fun y H2=>∃a b kvs kss v,x=.ref a/\y=.ref b/\NT P w H2 a kvs/\NKey H2 b kss/\valV kvs kss=some v/\Q v H2
noncomputable def rNotInN (P:Program) (w:World):R2:=fun y x H Q=>∃a b kvs kss,x=.ref a/\y=.ref b/\NT P w H a kvs/\NKey H b kss/\Q (.bl (!(valV kvs kss).isSome)) H
noncomputable def sDPutN (P:Program) (w:World) (td ty tv:TE):TS:=fun D σ H=>tv σ H fun v H1=>td σ H1 fun x H2=>ty σ H2 fun y H3=>∃a b kvs kss,x=.ref a/\y=.ref b/\NT P w H3 a kvs/\NKey H3 b kss/\kvs.length < sizeLine/\∀ob,NT P w (upd H3 a (hoF a ob)) a (putK kvs kss v)->D.nx σ (upd H3 a (hoF a ob))
section
variable {X:Cx} {o i e value:Expr} {pos pos' tpos:Pos} {td ty tv:TE}
theorem pe_dnewN:PE X (.Dict [] [] pos) (tDNewN X.prog X.w):=fun pins s σ H Q I h=>by
 have hp:=I.hok.fresh (Nat.le_refl s.heap.objs.size)
 have hg:(s.heap.push { cls:=.type "dict",data:=.dict #[] }).get? s.heap.objs.size=some { cls:=.type "dict",data:=.dict #[] }:=Heap.get?_push_size _ rfl
 exact wpAny_Dict_empty ⟨.ref s.heap.objs.size,_,I.laid (a:=s.heap.objs.size) (o:=hoF s.heap.objs.size { cls:=.type "dict",data:=.dict #[] }) (t':=s.toks) (fun _ _ q=>Heap.get?_push_of_some _ q) (Nat.le_refl _) ⟨hg,⟨_,hg⟩,fun _ _ z k=>k _ z⟩,rfl,
  h _ _ hp ⟨_,upd_same,Nat.zero_le _,beq_eq_false_iff_ne.mpr (Ne.symm (Nat.ne_of_lt I.big)),[],.nil,#[],0,⟨rfl,rfl,rfl⟩,rfl,rfl,List.nodup_nil⟩⟩
theorem pe_dgetN (hu:X.A.units+2 < cLine) (ho:PE X o td) (hi:PE X i ty) (hs:NoSl i):PE X (.Subscript o i pos) (tDGetN X.prog X.w td ty):=by
 intro pins s σ H Q I h
 refine subD_of PySem.F.slot_dict_getitem.lookup hs (thn (ho pins s σ H _ I h) fun u s1 ⟨x,H1,I1,rx,q1⟩=>thn (hi pins s1 σ H1 _ I1 q1) fun iv s2 ⟨y,H2,I2,ry,a,b,kvs,kss,v,ex,ey,nt,nk,hv,q2⟩=>?_)
 subst ex ey
 obtain rfl:u=Value.ref a:=rx
 obtain rfl:iv=Value.ref b:=ry
 obtain ⟨ob,h0,z,hd,xs,rel,dd⟩:=nt_of I2.hok nt
 refine ⟨dd.typeIs,?_⟩
 obtain ⟨w',hw,rw'⟩:=RelO.some_of (v:=v) (o:=(atKey xs kss).map (·.2)) (by rw [<- hv];exact rel.val kss)
 obtain ⟨p,hp,hp2⟩:=Option.map_eq_some_iff.mp hw
 refine wpAny_getItem_heap (show X.A.in1.units+1 < cLine from hu) (nkey_of I2.hok nk) dd hp ?_
 rw [hp2]
 exact ⟨v,H2,I2.tok _,rw',q2⟩
theorem op_notInN (hu:X.A.units+2 < cLine):OpR X (compareOp .NotIn) (rNotInN X.prog X.w):=by
 intro pins s σ H x y v u Q I rx ry h
 obtain ⟨a,b,kvs,kss,rfl,rfl,nt,nk,q2⟩:=h
 obtain rfl:u=Value.ref a:=ry
 obtain rfl:v=Value.ref b:=rx
 obtain ⟨ob,h0,z,hd,xs,rel,dd⟩:=nt_of I.hok nt
 refine wpAny_notIn_heap (show X.A.in1.units+1 < cLine from hu) (nkey_of I.hok nk) hd dd ?_
 have q:=(rel.val kss).isSome_eq
 rw [Option.isSome_map] at q
 rw [<- q]
 exact ⟨.bl (!(valV kvs kss).isSome),H,I.tok _,rfl,q2⟩
theorem ps_dputN (hu:X.A.units+2 < cLine) (ho:PE X o td) (hi:PE X i ty) (hv:PE X value tv) (hs:swapsWith value (some (.Subscript o i pos')) pos.line X.env=pure false) :
 PS X (.Assign [.Subscript o i pos'] value pos) (sDPutN X.prog X.w td ty tv):=by
 intro pins s σ H D I h
 refine wpAny_Assign_Subscript (thn (hv pins s σ H _ I h) fun r s1 ⟨v,H1,I1,rv,q1⟩=>thn (ho pins s1 σ H1 _ I1 q1) fun u s2 ⟨x,H2,I2,rx,q2⟩=>thn (hi pins s2 σ H2 _ I2 q2) fun iv s3 ⟨y,H3,I3,ry,a,b,kvs,kss,ex,ey,nt,nk,l,q3⟩=>?_) hs
 subst ex ey
 obtain rfl:u=Value.ref a:=rx
 obtain rfl:iv=Value.ref b:=ry
 obtain ⟨ob,h0,z,hd,xs,rel,dd⟩:=nt_of I3.hok nt
 have hz:xs.length<=sizeLine:=by rw [<- Paired.length rel];exact z
 have hl:(putK kvs kss v).length<=sizeLine:=by have:=length_putK kvs kss v;omega
 refine wpAny_setItem_heap (hsz:=hz) (show X.A.in1.units+1 < cLine from hu) (nkey_of I3.hok nk) dd fun h' dd' hs=>?_
 obtain ⟨q,es,ep,hq,h2,h3,h4,_,h5⟩:=dd'
 have tt:∀c ys,H3 c=some (.tup ys)->(upd H3 a (hoF a q)) c=some (.tup ys):=fun c ys ec=>by
  rw [upd_ne (ne_of ec h0 (fun z=>nomatch z))]
  exact ec
 refine ⟨σ,_,d_write (ob:=hoF a q) I3 (by rw [h0];exact True.intro) hs ⟨q,hq⟩ ⟨hq,⟨q,hq⟩,fun _ _ z k=>k _ z⟩,q3 q ⟨q,upd_same,hl,hd,_,(rel.put kss nk rv).tups tt,es,ep,h2,h3,h4,h5⟩⟩
end
end L2
namespace L2
open PySem PySem.Spec PyProof.Rows
section
variable {prog:Program} {w:World} {A:Around} {E:Value->Shared->Prop} {s:Shared}
end
section
variable {prog:Program} {w:World} {A:Around} {E:Value->Shared->Prop} {s:Shared}
end
section
variable {X:Cx} {pins:List (Addr × Obj)} {σ:St} {H:Hp}
end
section
variable {X:Cx} {e:Expr} {te:TE} {p p2 pos pos2:Pos}
end
end L2
namespace L2
open PySem PySem.Spec PyProof.Rows
section
variable {X:Cx} {pins:List (Addr × Obj)} {σ:St} {H:Hp}
end
end L2
namespace L2
open PySem PySem.Spec PyProof.Rows
end L2
namespace L2
open PySem PySem.W PySem.Spec PyProof.Rows
section
variable {O:KeyOrd} {ky:Nat->O.α} {n:Nat} {cmp:Nat->Nat->(Bool->Shared->Prop)->Shared->Prop} {J:Shared->Prop}
end
end L2
set_option maxHeartbeats 4000000
namespace Law
open PySem L2
noncomputable def spLaw (K:PySem.W.Frag):Sp:=fun vs H Q _=>∃(p:Addr) (ns:List Int),vs=[.ref p]/\SqL K H p (ns.map V.int)/\ns.length<=63/\∀H',Q (.bl true) H'
noncomputable def spWhole:Sp:=fun vs H Q _=>∃c:Int,vs=[.int c]/\Q (.bl true) H
theorem same_new {H:Hp} {p:Addr} (h:H p=none) (o:HO):Same H (upd H p o):=fun b u q=>by rw [upd_ne (ne_of_none q h)];exact q
theorem fmod_in (x:Int) {y:Int} (h:0 < y):0<=x.fmod y/\x.fmod y < y:=⟨Int.fmod_nonneg_of_pos x h,Int.fmod_lt_of_pos x h⟩
theorem sz_fmod (x:Int) {y:Int} {n:Nat} (h:0 < y) (k:Sz n y):Sz n (x.fmod y):=by
 have e:=fmod_in x h
 unfold Sz at k ⊢
 omega
noncomputable def gcdI (a b:Int):Int:=(Int.gcd a b:Nat)
theorem absI (a:Int):(if a < 0 then -a else a)=(a.natAbs:Int):=by
 by_cases h:a < 0
 ·rw [if_pos h];omega
 ·rw [if_neg h];omega
theorem gcd_abs (a b:Int):Int.gcd (if a < 0 then -a else a) (if b < 0 then -b else b)=Int.gcd a b:=by
 rw [absI,absI]
 unfold Int.gcd
 rw [Int.natAbs_natCast,Int.natAbs_natCast]
theorem gcd_turn {x y:Int} (hx:0<=x) (hy:0 < y):Int.gcd y (x.fmod y)=Int.gcd x y:=by
 rw [Int.fmod_eq_emod_of_nonneg x (Int.le_of_lt hy)]
 obtain ⟨m,rfl⟩:=Int.eq_ofNat_of_zero_le hx
 obtain ⟨n,rfl⟩:=Int.eq_ofNat_of_zero_le (Int.le_of_lt hy)
 have e:((m:Int) % (n:Int))=((m % n:Nat):Int):=(Int.natCast_emod m n).symm
 rw [e]
 unfold Int.gcd
 rw [Int.natAbs_natCast,Int.natAbs_natCast,Int.natAbs_natCast]
 rw [Nat.gcd_comm m n,Nat.gcd_rec n m,Nat.gcd_comm]
theorem gcd_end {x y:Int} (hx:0<=x) (hy:0<=y) (h:¬ 0 < y):x=gcdI x y:=by
 have e:y=0:=by omega
 subst e
 unfold gcdI
 rw [Int.gcd_zero]
 omega
theorem gcdI_nonneg (a b:Int):0<=gcdI a b:=Int.natCast_nonneg _
theorem gcdI_ne {a b:Int} (h:b≠0):gcdI a b≠0:=by
 intro e
 have z:Int.gcd a b=0:=by unfold gcdI at e;omega
 exact h (Int.gcd_eq_zero_iff.mp z).2
noncomputable def byOf (t b:Int):Int:=if b < 0 then -(gcdI t b) else gcdI t b
noncomputable def lowT (t b:Int):Int:=t.fdiv (byOf t b)
noncomputable def lowB (t b:Int):Int:=b.fdiv (byOf t b)
theorem byOf_ne {t b:Int} (h:b≠0):byOf t b≠0:=by
 have e:=gcdI_ne (a:=t) h
 unfold byOf
 by_cases c:b < 0
 ·rw [if_pos c];omega
 ·rw [if_neg c];exact e
theorem lowB_pos {t b:Int} (h:b≠0):0 < lowB t b:=by
 have g0:gcdI t b≠0:=gcdI_ne h
 have gn:=gcdI_nonneg t b
 have d:gcdI t b ∣ b:=Int.gcd_dvd_right ..
 obtain ⟨k,hk⟩:=d
 unfold lowB byOf
 by_cases c:b < 0
 ·rw [if_pos c]
  have e:b=-(gcdI t b)*(-k):=by rw [Int.neg_mul_neg];exact hk
  have e2:b.fdiv (-(gcdI t b))=-k:=by
   conv=>lhs;arg 1;rw [e]
   exact Int.mul_fdiv_cancel_left (-k) (by omega)
  rw [e2]
  rcases (by omega:k < 0\/0<=k) with z | z
  ·omega
  ·have:=Int.mul_nonneg gn z
   omega
 ·rw [if_neg c]
  have e2:b.fdiv (gcdI t b)=k:=by
   conv=>lhs;arg 1;rw [hk]
   exact Int.mul_fdiv_cancel_left k g0
  rw [e2]
  rcases (by omega:0 < k\/k<=0) with z | z
  ·exact z
  ·have:=Int.mul_nonpos_of_nonneg_of_nonpos gn z
   omega
theorem byOf_dvd {x y:Int}:byOf x y ∣ x:=by
 have d:gcdI x y ∣ x:=Int.gcd_dvd_left ..
 unfold byOf
 by_cases c:y < 0
 ·rw [if_pos c];exact Int.neg_dvd.mpr d
 ·rw [if_neg c];exact d
noncomputable def spDivisor:Sp:=fun vs H Q _=>∃a b:Int,vs=[.int a,.int b]/\Q (.int (gcdI a b)) H
noncomputable def spLowest:Sp:=fun vs H Q _=>∃t b:Int,vs=[.int t,.int b]/\b≠0/\Sz 13500 t/\Sz 13500 b/\∀(p:Addr) (H':Hp),Same H H'->H' p=some (.tup [.int (lowT t b),.int (lowB t b)])->Q (.ref p) H'
theorem while_mono1 {i:Nat} {c:Int} {g:Int->Int->V}:∀(σ:St) (H:Hp) (Q Q':Bool->Hp->Prop),(∀b H1,Q b H1->Q' b H1)->tTest (tOp (rI0 g) (tVar i) (tC (.int c))) σ H Q->tTest (tOp (rI0 g) (tVar i) (tC (.int c))) σ H Q':=by
 rintro σ H Q Q' hq ⟨v,e,i,j,e1,e2,k,ek,h⟩
 exact ⟨v,e,i,j,e1,e2,k,ek,hq _ _ h⟩
noncomputable def Hid (u v:TS):Prop:=u=v
theorem seq_hide {t u:TS} {D:Ends} {σ:St} {H:Hp} (h:∀v,Hid v u->t { D with nx:=v D } σ H):tSeq t u D σ H:=h u rfl
theorem un_hide {u v:TS} {D:Ends} {σ:St} {H:Hp} (h:Hid u v) (g:v D σ H):u D σ H:=by rw [show u=v from h];exact g
theorem un_hid2 {u v:TS} {D:Ends} {r:VK} {b c:St->Hp->Prop} {σ:St} {H:Hp} (h:Hid u v) (g:v D σ H):(Ends.mk (u D) r b c).nx σ H:=by show u D σ H;exact un_hide h g
noncomputable def bit (m:Int) (i:Nat):Bool:=decide (m / 2 ^ i % 2=1)
noncomputable def msum:Nat->(Nat->Bool)->Int
 | 0,_=>0
 | n+1,f=>(if f 0=true then 1 else 0)+2*msum n (fun i=>f (i+1))
theorem bit_half (s:Int) (i:Nat):bit (s / 2) i=bit s (i+1):=by
 unfold bit
 rw [Int.ediv_ediv_of_nonneg (by decide:(0:Int)<=2)]
 have e:(2:Int)*2 ^ i=2 ^ (i+1):=by rw [Int.pow_succ,Int.mul_comm]
 rw [e]
theorem bit_zero (s:Int):bit s 0=decide (s % 2=1):=by
 unfold bit
 rw [Int.pow_zero,Int.ediv_one]
theorem msum_nonneg:∀n f,0<=msum n f
 | 0,_=>Int.le_refl _
 | n+1,f=>by
   have:=msum_nonneg n (fun i=>f (i+1))
   show 0<=(if f 0=true then (1:Int) else 0)+2*msum n (fun i=>f (i+1))
   split <;> omega
theorem msum_lt:∀n f,msum n f < 2 ^ n
 | 0,_=>by show (0:Int) < 1;decide
 | n+1,f=>by
   have:=msum_lt n (fun i=>f (i+1))
   show (if f 0=true then (1:Int) else 0)+2*msum n (fun i=>f (i+1)) < 2 ^ (n+1)
   rw [Int.pow_succ]
   split <;> omega
theorem msum_half (n f):msum (n+1) f / 2=msum n (fun i=>f (i+1)):=by
 show ((if f 0=true then (1:Int) else 0)+2*msum n (fun i=>f (i+1))) / 2=_
 split <;> omega
theorem msum_odd (n f):(msum (n+1) f % 2=1)↔f 0=true:=by
 show (((if f 0=true then (1:Int) else 0)+2*msum n (fun i=>f (i+1))) % 2=1)↔_
 split <;> rename_i h
 ·exact ⟨fun _=>h,fun _=>by omega⟩
 ·exact ⟨fun e=>by omega,fun e=>absurd e h⟩
theorem msum_congr:∀n {f g:Nat->Bool},(∀i,i < n->f i=g i)->msum n f=msum n g
 | 0,_,_,_=>rfl
 | n+1,f,g,h=>by
   show (if f 0=true then (1:Int) else 0)+2*msum n (fun i=>f (i+1))=(if g 0=true then (1:Int) else 0)+2*msum n (fun i=>g (i+1))
   rw [h 0 (by omega),msum_congr n (f:=fun i=>f (i+1)) (g:=fun i=>g (i+1)) fun i hi=>h (i+1) (by omega)]
theorem msum_succ:∀n f,msum (n+1) f=msum n f+(if f n=true then 2 ^ n else 0)
 | 0,f=>by
   show (if f 0=true then (1:Int) else 0)+2*0=0+(if f 0=true then (1:Int) else 0)
   split <;> decide
 | n+1,f=>by
   show (if f 0=true then (1:Int) else 0)+2*msum (n+1) (fun i=>f (i+1))=(if f 0=true then (1:Int) else 0)+2*msum n (fun i=>f (i+1))+(if f (n+1)=true then 2 ^ (n+1) else 0)
   rw [msum_succ n (fun i=>f (i+1)),Int.pow_succ]
   split <;> split <;> omega
theorem bit_msum:∀n f i,bit (msum n f) i=(decide (i < n) && f i)
 | 0,f,i=>by
   unfold bit
   show decide ((0:Int) / 2 ^ i % 2=1)=_
   rw [Int.zero_ediv]
   rfl
 | n+1,f,0=>by
   rw [bit_zero]
   by_cases h:f 0=true
   ·rw [decide_eq_true ((msum_odd n f).mpr h),h];rfl
   ·rw [decide_eq_false (fun e=>h ((msum_odd n f).mp e)),Bool.eq_false_iff.mpr h];rfl
 | n+1,f,i+1=>by
   rw [<- bit_half,msum_half,bit_msum n]
   have:decide (i < n)=decide (i+1 < n+1):=by
    by_cases h:i < n
    ·rw [decide_eq_true h,decide_eq_true (by omega)]
    ·rw [decide_eq_false h,decide_eq_false (by omega)]
   rw [this]
theorem and_msum:∀n f s,Builtin.bitAnd (msum n f) s=msum n (fun i=>f i && bit s i)
 | 0,f,s=>by
   show Builtin.bitAnd 0 s=0
   rw [PyProof.Rows.bitAnd_comm,PyProof.Rows.bitAnd_zero]
 | n+1,f,s=>by
   rw [PySem.W.kbt_halves,msum_half,and_msum n]
   show _=(if (f 0 && bit s 0)=true then (1:Int) else 0)+2*msum n (fun i=>f (i+1) && bit s (i+1))
   have e:msum n (fun i=>f (i+1) && bit (s / 2) i)=msum n (fun i=>f (i+1) && bit s (i+1)):=msum_congr n fun i _=>by rw [bit_half]
   rw [e]
   have c:(msum (n+1) f % 2=1/\s % 2=1)↔(f 0 && bit s 0)=true:=by
    rw [Bool.and_eq_true,msum_odd,bit_zero,decide_eq_true_eq]
   by_cases h:(f 0 && bit s 0)=true
   ·rw [if_pos h,if_pos (c.mpr h)];omega
   ·rw [if_neg h,if_neg (fun z=>h (c.mp z))];omega
noncomputable def hands (n:Nat) (f:Nat->Bool):List Int:=((List.range n).filter f).map fun i:Nat=>(i:Int)
theorem hands_succ (n:Nat) (f:Nat->Bool):hands (n+1) f=if f n=true then hands n f++[(n:Int)] else hands n f:=by
 unfold hands
 rw [List.range_succ,List.filter_append,List.map_append]
 by_cases h:f n=true
 ·rw [if_pos h];simp [h]
 ·rw [if_neg h]
  have h':f n=false:=by simpa using h
  simp [h']
theorem hands_len (n:Nat) (f:Nat->Bool):(hands n f).length<=n:=by
 unfold hands
 rw [List.length_map]
 exact Nat.le_trans (List.length_filter_le _ _) (by simp)
theorem hands_mem {n:Nat} {f:Nat->Bool} {z:Int}:z∈hands n f↔∃i:Nat,i < n/\f i=true/\z=(i:Int):=by
 unfold hands
 rw [List.mem_map]
 constructor
 ·rintro ⟨i,hi,rfl⟩
  obtain ⟨h1,h2⟩:=List.mem_filter.mp hi
  exact ⟨i,List.mem_range.mp h1,h2,rfl⟩
 ·rintro ⟨i,h1,h2,rfl⟩
  exact ⟨i,List.mem_filter.mpr ⟨List.mem_range.mpr h1,h2⟩,rfl⟩
noncomputable def ins (x:Int):List Int->List Int
 | []=>[x]
 | y :: r=>if x < y then x :: y :: r else if x=y then y :: r else y :: ins x r
noncomputable def spC40 (K:PySem.W.Frag):Sp:=fun vs H Q _=>∃(p:Addr) (ns:List Int) (k:Int),vs=[.ref p,.int k]/\SqL K H p (ns.map V.int)/\ns.length<=63/\0<=k/\k<=1000/\∀z:Int,0<=z->z < 10 ^ 40->Q (.int z) H
theorem sz40 {c:Int} (h0:0<=c) (h:c < 10 ^ 40):Sz 200 c:=sz_of (by omega) (by omega)
theorem same_upd {H H':Hp} {l:Addr} {o:HO} (s:Same H H') (n:H l=none):Same H (upd H' l o):=fun b u e=>by
 rw [upd_ne (ne_of_none e n)]
 exact s b u e
theorem ifT {c:Bool} {A B:Prop} (e:c=true) (h:A):if c=true then A else B:=by rw [if_pos e];exact h
theorem ifF {c:Bool} {A B:Prop} (e:c=false) (h:B):if c=true then A else B:=by rw [if_neg (by rw [e];decide)];exact h
theorem ne_t {a b:Int} (h:a≠b):(!decide (V.int a=V.int b))=true:=by rw [decide_eq_false (fun e=>h (V.int.inj e))];rfl
theorem ne_f {a b:Int} (h:a=b):(!decide (V.int a=V.int b))=false:=by rw [h,decide_eq_true rfl];rfl
theorem eq_t {a b:Int} (h:a=b):decide (V.int a=V.int b)=true:=by rw [h];exact decide_eq_true rfl
theorem eq_f {a b:Int} (h:a≠b):decide (V.int a=V.int b)=false:=decide_eq_false fun e=>h (V.int.inj e)
theorem int_at {ns:List Int} {i:Nat} {x:V} (h:(ns.map V.int)[i]?=some x):∃z,ns[i]?=some z/\x=.int z:=by
 rw [List.getElem?_map] at h
 cases e:ns[i]? with
 | none=>rw [e] at h;cases h
 | some z=>rw [e] at h;exact ⟨z,rfl,(Option.some.inj h).symm⟩
theorem seqAt {n j:Nat} (h:j < n):seqIndex? (j:Int) n=some j:=(ixN_seq (i:=(j:Int)) (by unfold ixN;rw [if_pos (by omega)];simp [h])).1
theorem map_erase {α β:Type} (f:α->β):∀(l:List α) (k:Nat),(l.map f).eraseIdx k=(l.eraseIdx k).map f
 | [],_=>rfl
 | _ :: _,0=>rfl
 | x :: l,k+1=>by
   show f x :: (l.map f).eraseIdx k=f x :: (l.eraseIdx k).map f
   rw [map_erase f l k]
theorem low_cut {z d:Int} (z0:0<=z) (h:1<=d) (z1:z < 10 ^ 31):0<=z.fdiv d/\z.fdiv d < 10 ^ 31:=by
 rw [Int.fdiv_eq_ediv_of_nonneg z (by omega)]
 exact ⟨Int.ediv_nonneg z0 (by omega),Int.lt_of_le_of_lt (Int.ediv_le_self d z0) z1⟩
theorem pow_small {h:Nat} (hh:h < 64):CPow 1 (h:Int):=⟨by omega,by omega,by decide⟩
theorem and1 (x:Int):Builtin.bitAnd x 1=x % 2:=PySem.W.kbt_mask x 1
theorem holds_bit (m:Int) (h:Int):decide (V.int (Builtin.bitAnd (m / 2 ^ h.toNat) 1)=V.int 1)=bit m h.toNat:=by
 unfold bit
 rw [and1]
 by_cases c:m / 2 ^ h.toNat % 2=1
 ·rw [decide_eq_true c,decide_eq_true (congrArg V.int c)]
 ·rw [decide_eq_false c,decide_eq_false fun e=>c (V.int.inj e)]
theorem mod_bit (m:Int) (i:Nat):m / 2 ^ i % 2=if bit m i=true then 1 else 0:=by
 have e:m / 2 ^ i % 2=0\/m / 2 ^ i % 2=1:=by omega
 unfold bit
 rcases e with e | e
 ·rw [e];rfl
 ·rw [e];rfl
theorem less_is (m:Int) (h:Nat):Builtin.bitAnd m (Builtin.bitNot (1*2 ^ h))=m - 2 ^ h*(if bit m h=true then 1 else 0):=by
 rw [Int.one_mul,PyProof.Rows.bitAnd_not,PySem.W.kbt_bit,mod_bit]
 cases bit m h <;> simp
noncomputable def spHolds:Sp:=fun vs H Q _=>∃m h:Int,vs=[.int m,.int h]/\0<=h/\Q (.bl (bit m h.toNat)) H
noncomputable def spAll:Sp:=fun vs H Q _=>∃h:Int,vs=[.int h]/\0<=h/\h<=12/\Q (.int (1*2 ^ h.toNat - 1)) H
noncomputable def spWithout:Sp:=fun vs H Q _=>∃m h:Int,vs=[.int m,.int h]/\0<=h/\h < 12/\Q (.int (Builtin.bitAnd m (Builtin.bitNot (1*2 ^ h.toNat)))) H
noncomputable def spMembers:Sp:=fun vs H Q _=>∃m:Int,vs=[.int m]/\0<=m/\m < 4096/\∀(p:Addr) (H':Hp),H p=none->Same H H'->H' p=some (.lst ((hands 12 (bit m)).map V.int))->Q (.ref p) H'
noncomputable def spMix71:Sp:=fun vs H Q _=>∃c b:Int,vs=[.int c,.int b]/\Sz 200 c/\0<=b/\b<=100/\∀z:Int,0<=z->z < 10 ^ 31->Q (.int z) H
theorem u1 {n:Nat} (h:n+64 < cLine):n+1 < cLine:=by omega
theorem none_of {H H':Hp} {a:Addr} (s:Same H H') (h:H' a=none):H a=none:=by
 cases e:H a with
 | none=>rfl
 | some u=>rw [s _ _ e] at h;cases h
abbrev Ls:=List (Addr × Addr × List Int × Int)
abbrev Ds:=List (List Int × Int)
noncomputable def vls (ls:Ls):List V:=ls.map fun q=>.ref q.1
noncomputable def dsOf (ls:Ls):Ds:=ls.map fun q=>(q.2.2.1,q.2.2.2)
noncomputable def GoodL (H:Hp) (ls:Ls):Prop:=∀q∈ls,H q.1=some (.tup [.ref q.2.1,.int q.2.2.2])/\H q.2.1=some (.tup (q.2.2.1.map V.int))
theorem GoodL.same {H H':Hp} {ls:Ls} (s:Same H H') (g:GoodL H ls):GoodL H' ls:=fun q m=>⟨s _ _ (g q m).1,s _ _ (g q m).2⟩
theorem GoodL.append {H:Hp} {a b:Ls} (g:GoodL H a) (k:GoodL H b):GoodL H (a++b):=fun q m=>(List.mem_append.mp m).elim (g q) (k q)
theorem GoodL.upd {H:Hp} {ls:Ls} {l:Addr} {xs:List V} {o:HO} (e:H l=some (.lst xs)) (g:GoodL H ls):GoodL (upd H l o) ls:=fun q m=>by
 refine ⟨?_,?_⟩
 ·rw [upd_ne (ne_of (g q m).1 e (fun z=>by cases z))];exact (g q m).1
 ·rw [upd_ne (ne_of (g q m).2 e (fun z=>by cases z))];exact (g q m).2
theorem vls_get {ls:Ls} {i:Nat} {x:V} (h:(vls ls)[i]?=some x):∃q,ls[i]?=some q/\x=.ref q.1/\q∈ls/\ls.take (i+1)=ls.take i++[q]:=by
 unfold vls at h
 rw [List.getElem?_map] at h
 cases e:ls[i]? with
 | none=>rw [e] at h;cases h
 | some q =>
   rw [e] at h
   refine ⟨q,rfl,(Option.some.inj h).symm,List.mem_of_getElem? e,?_⟩
   rw [List.take_succ,e]
   rfl
theorem vls_len (ls:Ls):(vls ls).length=ls.length:=List.length_map ..
theorem vls_append (a b:Ls):vls (a++b)=vls a++vls b:=List.map_append ..
theorem dsOf_append (a b:Ls):dsOf (a++b)=dsOf a++dsOf b:=List.map_append ..
theorem lex_asym:∀{a b:List Int},HT.lexLt a b=true->HT.lexLt b a=false
 | [],[],h=>by cases h
 | [],_ :: _,_=>rfl
 | _ :: _,[],h=>by cases h
 | x :: a,y :: b,h=>by
   rw [HT.lexLt_cons] at h ⊢
   by_cases c:x=y
   ·rw [if_pos c] at h
    rw [if_pos c.symm]
    exact lex_asym h
   ·rw [if_neg c] at h
    rw [if_neg (Ne.symm c)]
    have:=of_decide_eq_true h
    exact decide_eq_false (by omega)
theorem lex_tot:∀{a b:List Int},HT.lexLt b a=false->a≠b->HT.lexLt a b=true
 | [],[],_,n=>absurd rfl n
 | [],_ :: _,_,_=>rfl
 | _ :: _,[],h,_=>by cases h
 | x :: a,y :: b,h,n=>by
   rw [HT.lexLt_cons] at h ⊢
   by_cases c:x=y
   ·rw [if_pos c.symm] at h
    rw [if_pos c]
    exact lex_tot h fun e=>n (by rw [c,e])
   ·rw [if_neg (Ne.symm c)] at h
    rw [if_neg c]
    have:=of_decide_eq_false h
    exact decide_eq_true (by omega)
noncomputable def tot:Ds->List Int->Int
 | [],_=>0
 | q :: r,ts=>(if q.1=ts then q.2 else 0)+tot r ts
theorem tot_append (ts:List Int):∀a b:Ds,tot (a++b) ts=tot a ts+tot b ts
 | [],b=>by show tot b ts=0+tot b ts;omega
 | q :: a,b=>by
   show (if q.1=ts then q.2 else 0)+tot (a++b) ts=(if q.1=ts then q.2 else 0)+tot a ts+tot b ts
   rw [tot_append ts a b]
   omega
noncomputable def Pos (ds:Ds):Prop:=∀q∈ds,1<=q.2
theorem tot_nonneg {ts:List Int}:∀{ds:Ds},Pos ds->0<=tot ds ts
 | [],_=>Int.le_refl _
 | q :: r,h=>by
   have h1:=h q (List.mem_cons_self ..)
   have h2:=tot_nonneg (ts:=ts) (ds:=r) fun p m=>h p (List.mem_cons_of_mem _ m)
   show 0<=(if q.1=ts then q.2 else 0)+tot r ts
   split <;> omega
theorem tot_out {ts:List Int}:∀{ds:Ds},ts ∉ ds.map (·.1)->tot ds ts=0
 | [],_=>rfl
 | q :: r,h=>by
   rw [List.map_cons,List.mem_cons,not_or] at h
   show (if q.1=ts then q.2 else 0)+tot r ts=0
   rw [if_neg (fun e=>h.1 e.symm),tot_out h.2]
   rfl
theorem tot_in {ts:List Int}:∀{ds:Ds},Pos ds->ts∈ds.map (·.1)->0 < tot ds ts
 | [],_,m=>nomatch m
 | q :: r,h,m=>by
   have h1:=h q (List.mem_cons_self ..)
   have hr:Pos r:=fun p m=>h p (List.mem_cons_of_mem _ m)
   have h2:=tot_nonneg (ts:=ts) hr
   show 0 < (if q.1=ts then q.2 else 0)+tot r ts
   by_cases c:q.1=ts
   ·rw [if_pos c];omega
   ·rw [if_neg c]
    rcases List.mem_cons.mp m with e | e
    ·exact absurd e.symm c
    ·have:=tot_in hr e
     omega
structure Sheet (ds out:Ds):Prop where
 srt:out.Pairwise (fun x y=>HT.lexLt x.1 y.1=true)
 mem:∀ts n,(ts,n)∈out↔n=tot ds ts/\0 < n
theorem kv_map (ts:List Int):(ts.map Sum.inl:List Key).map kV=ts.map V.int:=by rw [List.map_map];rfl
theorem inl_inj {a b:List Int} (h:(a.map Sum.inl:List Key)=b.map Sum.inl):a=b:=by
 have e:=congrArg (List.map kV) h
 rw [kv_map,kv_map] at e
 have:∀{a b:List Int},a.map V.int=b.map V.int->a=b:=by
  intro a
  induction a with
  | nil=>intro b h;cases b with | nil=>rfl | cons _ _=>cases h
  | cons x a ih =>
    intro b h
    cases b with
    | nil=>cases h
    | cons y b =>
      injection h with h1 h2
      injection h1 with h1
      rw [h1,ih h2]
 exact this e
theorem nd_of_map {α β:Type} {f:α->β}:∀{l:List α},(l.map f).Nodup->l.Nodup
 | [],_=>List.nodup_nil
 | x :: l,h=>by
   rw [List.map_cons,List.nodup_cons] at h
   rw [List.nodup_cons]
   exact ⟨fun m=>h.1 (List.mem_map.mpr ⟨x,m,rfl⟩),nd_of_map h.2⟩
structure VD (kvs:List (List Key × V)):Prop where
 nd:(kvs.map (·.1)).Nodup
 all:∀q∈kvs,∃(ts:List Int) (n:Int),q=(ts.map Sum.inl,.int n)
theorem putK_keys {κ:Type} [DecidableEq κ] {kvs:List (κ × V)} {k:κ} {v w:V} (h:valV kvs k=some w):(putK kvs k v).map (·.1)=kvs.map (·.1):=by
 unfold putK
 rw [valV_any,h,if_pos (show (some w).isSome=true from rfl),List.map_map]
 refine List.map_congr_left fun q _=>?_
 show (if q.1=k then (q.1,v) else q).1=q.1
 split <;> rfl
theorem VD.put {kvs:List (List Key × V)} (h:VD kvs) (ts:List Int) (n:Int):VD (putK kvs (ts.map Sum.inl) (.int n)):=by
 refine ⟨?_,fun q m=>?_⟩
 ·cases e:valV kvs (ts.map Sum.inl:List Key) with
  | none=>exact nd_putK _ h.nd e
  | some w=>rw [putK_keys e];exact h.nd
 ·unfold putK at m
  split at m
  ·obtain ⟨p,pm,rfl⟩:=List.mem_map.mp m
   split
   ·rename_i e
    exact ⟨ts,n,by rw [e]⟩
   ·exact h.all p pm
  ·rcases List.mem_append.mp m with m | m
   ·exact h.all q m
   ·exact ⟨ts,n,List.mem_singleton.mp m⟩
theorem VD.val {kvs:List (List Key × V)} (h:VD kvs) {k:List Key} {v:V} (e:valV kvs k=some v):∃n:Int,v=.int n:=by
 unfold valV at e
 cases c:kvs.find? fun kv=>decide (kv.1=k) with
 | none=>rw [c] at e;cases e
 | some q =>
   rw [c] at e
   obtain ⟨ts,n,rfl⟩:=h.all q (List.mem_of_find?_eq_some c)
   exact ⟨n,(Option.some.inj e).symm⟩
theorem VD.keys {kvs:List (List Key × V)} (h:VD kvs):∃ks:List (List Int),kvs.map (·.1)=ks.map (List.map Sum.inl)/\ks.length=kvs.length/\ks.Nodup/\∀ts,ts∈ks↔∃n:Int,valV kvs (ts.map Sum.inl)=some (.int n):=by
 have key:∀{l:List (List Key × V)},(∀q∈l,q∈kvs)->∃ks:List (List Int),l.map (·.1)=ks.map (List.map Sum.inl)/\ks.length=l.length:=by
  intro l
  induction l with
  | nil=>intro _;exact ⟨[],rfl,rfl⟩
  | cons q r ih =>
    intro sub
    obtain ⟨ks,e1,e2⟩:=ih fun p m=>sub p (List.mem_cons_of_mem _ m)
    obtain ⟨ts,n,eq⟩:=h.all q (sub q (List.mem_cons_self ..))
    exact ⟨ts :: ks,by rw [List.map_cons,List.map_cons,e1,eq],by rw [List.length_cons,List.length_cons,e2]⟩
 obtain ⟨ks,e1,e2⟩:=key fun q m=>m
 have mm:∀ts,ts∈ks↔(ts.map Sum.inl:List Key)∈kvs.map (·.1):=fun ts=>by
  rw [e1]
  constructor
  ·intro m;exact List.mem_map.mpr ⟨ts,m,rfl⟩
  ·intro m
   obtain ⟨us,um,e⟩:=List.mem_map.mp m
   rw [<- inl_inj e]
   exact um
 refine ⟨ks,e1,e2,?_,fun ts=>⟨fun m=>?_,fun ⟨n,e⟩=>(mm ts).mpr (valV_in e)⟩⟩
 ·have nd:=h.nd
  rw [e1] at nd
  exact nd_of_map nd
 ·cases c:valV kvs (ts.map Sum.inl:List Key) with
  | none=>exact absurd ((mm ts).mp m) (valV_not c)
  | some v =>
    obtain ⟨n,rfl⟩:=h.val c
    exact ⟨n,rfl⟩
structure DictOf (ds:Ds) (kvs:List (List Key × V)):Prop where
 vd:VD kvs
 val:∀ts:List Int,valV kvs (ts.map Sum.inl)=if ts∈ds.map (·.1) then some (.int (tot ds ts)) else none
theorem DictOf.nil:DictOf [] []:=⟨⟨List.nodup_nil,fun _ m=>absurd m List.not_mem_nil⟩,fun _=>rfl⟩
noncomputable def oldV (kvs:List (List Key × V)) (ts:List Int):Int:=match valV kvs (ts.map Sum.inl:List Key) with
 | some (.int n)=>n
 | _=>0
theorem DictOf.put {ds:Ds} {kvs:List (List Key × V)} (h:DictOf ds kvs) (ts:List Int) (n:Int):DictOf (ds++[(ts,n)]) (putK kvs (ts.map Sum.inl) (.int (tot ds ts+n))):=by
 refine ⟨h.vd.put ts _,fun us=>?_⟩
 rw [valV_put,h.val us,tot_append,List.map_append]
 show (if (us.map Sum.inl:List Key)=ts.map Sum.inl then _ else _)=if us∈ds.map (·.1)++[ts] then some (V.int (tot ds us+((if ts=us then n else 0)+0))) else none
 by_cases c:us=ts
 ·subst c
  rw [if_pos rfl,if_pos (by simp),if_pos rfl]
  rw [Int.add_zero]
 ·rw [if_neg (fun e=>c (inl_inj e)),if_neg (Ne.symm c)]
  by_cases m:us∈ds.map (·.1)
  ·rw [if_pos m,if_pos (by simp;left;simpa using m)]
   rw [Int.add_zero,Int.add_zero]
  ·rw [if_neg m,if_neg (by simp;exact ⟨by simpa using m,c⟩)]
theorem nodup_len {α:Type} [DecidableEq α]:∀{l p:List α},l.Nodup->(∀x∈l,x∈p)->l.length<=p.length
 | [],_,_,_=>Nat.zero_le _
 | x :: l,p,n,s=>by
   rw [List.nodup_cons] at n
   have m:=s x (List.mem_cons_self ..)
   have ih:=nodup_len (p:=p.erase x) n.2 fun y hy=>(List.mem_erase_of_ne (fun e:y=x=>n.1 (by rw [<- e];exact hy))).mpr (s y (List.mem_cons_of_mem _ hy))
   rw [List.length_erase_of_mem m] at ih
   have:=List.length_pos_of_mem m
   rw [List.length_cons]
   omega
theorem DictOf.len {ds:Ds} {kvs:List (List Key × V)} (h:DictOf ds kvs) {p:List (List Int)} (s:∀q∈ds,q.1∈p):kvs.length<=p.length:=by
 obtain ⟨ks,_,e2,nd,mm⟩:=h.vd.keys
 rw [<- e2]
 refine nodup_len nd fun ts m=>?_
 obtain ⟨n,e⟩:=(mm ts).mp m
 rw [h.val ts] at e
 by_cases c:ts∈ds.map (·.1)
 ·obtain ⟨q,qm,rfl⟩:=List.mem_map.mp c
  exact s q qm
 ·rw [if_neg c] at e;cases e
theorem DictOf.sheet {ds out:Ds} {kvs:List (List Key × V)} (h:DictOf ds kvs) (p:Pos ds) (srt:out.Pairwise (fun x y=>HT.lexLt x.1 y.1=true)) (mem:∀ts n,(ts,n)∈out↔valV kvs (ts.map Sum.inl)=some (.int n)/\0 < n):Sheet ds out:=by
 refine ⟨srt,fun ts n=>?_⟩
 rw [mem,h.val]
 by_cases c:ts∈ds.map (·.1)
 ·rw [if_pos c]
  constructor
  ·rintro ⟨e,z⟩;injection e with e;injection e with e;exact ⟨e.symm,z⟩
  ·rintro ⟨e,z⟩;exact ⟨by rw [e],z⟩
 ·rw [if_neg c,tot_out c]
  constructor
  ·rintro ⟨e,_⟩;cases e
  ·rintro ⟨e,z⟩;omega
theorem old_val {ds:Ds} {kvs:List (List Key × V)} (h:DictOf ds kvs) (ts:List Int):(valV kvs (ts.map Sum.inl:List Key)).getD (.int 0)=.int (tot ds ts):=by
 rw [h.val ts]
 by_cases c:ts∈ds.map (·.1)
 ·rw [if_pos c];rfl
 ·rw [if_neg c,tot_out c];rfl
theorem small900 {n:Nat} (h:n<=900):n<=sizeLine:=Nat.le_of_lt (small1000 (by omega))
theorem bit_high {m:Int} {i:Nat} (h0:0<=m) (h:m < 2 ^ i):bit m i=false:=by
 unfold bit
 rw [Int.ediv_eq_zero_of_lt h0 h]
 decide
theorem hands_more {m:Int} {k:Nat} (h0:0<=m) (h:m < 2 ^ k):∀d:Nat,hands (k+d) (bit m)=hands k (bit m)
 | 0=>rfl
 | d+1=>by
   have p:(2:Int) ^ k<=2 ^ (k+d):=by
    have q:2 ^ k<=2 ^ (k+d):=Nat.pow_le_pow_right (by decide) (by omega)
    have e1:((2 ^ k:Nat):Int)=(2:Int) ^ k:=by simp
    have e2:((2 ^ (k+d):Nat):Int)=(2:Int) ^ (k+d):=by simp
    omega
   show hands ((k+d)+1) (bit m)=hands k (bit m)
   rw [hands_succ,bit_high h0 (by omega),if_neg (by decide),hands_more h0 h d]
theorem bits_all {m:Int} (h0:0<=m) (h:m < 4096):hands (Builtin.Int.intBits m) (bit m)=hands 12 (bit m):=by
 have b:Builtin.Int.intBits m<=12:=intBits_le_iff.mpr (by show m.natAbs < 4096;omega)
 have l:m.natAbs < 2 ^ Builtin.Int.intBits m:=intBits_le_iff.mp (Nat.le_refl _)
 have l':m < (2:Int) ^ Builtin.Int.intBits m:=by
  have e:((2 ^ Builtin.Int.intBits m:Nat):Int)=(2:Int) ^ Builtin.Int.intBits m:=by simp
  omega
 obtain ⟨d,hd⟩:∃d,12=Builtin.Int.intBits m+d:=⟨12 - Builtin.Int.intBits m,by omega⟩
 rw [hd,hands_more h0 l' d]
noncomputable def maskOf (hs:List Int):Int:=(hs.map fun h=>(1:Int)*2 ^ h.toNat).sum
theorem mask_le:∀{hs:List Int} {a n:Nat},hs.Pairwise (· < ·)->(∀h∈hs,(a:Int)<=h/\h < (n:Int))->a<=n->0<=maskOf hs/\maskOf hs<=2 ^ n - 2 ^ a
 | [],a,n,_,_,l=>by
   have:(2:Int) ^ a<=2 ^ n:=by
    have:=Nat.pow_le_pow_right (show 0 < 2 by decide) l
    exact_mod_cast this
   exact ⟨Int.le_refl _,by show (0:Int)<=_;omega⟩
 | h :: hs,a,n,p,k,l=>by
   rw [List.pairwise_cons] at p
   obtain ⟨k1,k2⟩:=k h (List.mem_cons_self ..)
   obtain ⟨j,rfl⟩:∃j:Nat,h=(j:Int):=⟨h.toNat,by omega⟩
   have ih:=mask_le (hs:=hs) (a:=j+1) (n:=n) p.2 (fun x m=>⟨by have:=p.1 x m;omega,(k x (List.mem_cons_of_mem _ m)).2⟩) (by omega)
   show 0<=1*2 ^ (j:Int).toNat+maskOf hs/\1*2 ^ (j:Int).toNat+maskOf hs<=_
   rw [Int.toNat_natCast,Int.one_mul]
   have e:(2:Int) ^ (j+1)=2 ^ j*2:=Int.pow_succ ..
   have le:(2:Int) ^ a<=2 ^ j:=by
    have:=Nat.pow_le_pow_right (show 0 < 2 by decide) (show a<=j by omega)
    exact_mod_cast this
   have pos:(0:Int) < 2 ^ j:=Int.pow_pos (by decide)
   omega
theorem mask_in {hs:List Int} {n:Nat} (p:hs.Pairwise (· < ·)) (k:∀h∈hs,0<=h/\h < (n:Int)) (ne:hs≠[]):0 < maskOf hs/\maskOf hs < 2 ^ n:=by
 have a:=mask_le (a:=0) p k (Nat.zero_le _)
 have e:(2:Int) ^ 0=1:=rfl
 refine ⟨?_,by omega⟩
 cases hs with
 | nil=>exact absurd rfl ne
 | cons h hs =>
   obtain ⟨k1,k2⟩:=k h (List.mem_cons_self ..)
   rw [List.pairwise_cons] at p
   have b:=mask_le (a:=0) p.2 (fun x m=>k x (List.mem_cons_of_mem _ m)) (Nat.zero_le _)
   show 0 < 1*2 ^ h.toNat+maskOf hs
   have:(0:Int) < 2 ^ h.toNat:=Int.pow_pos (by decide)
   omega
theorem test_s {t:TT} {σ:St} {H:Hp} {Q:Bool->Hp->Prop} (b:Bool) (h:∀R:Bool->Hp->Prop,(∀H',Same H H'->R b H')->t σ H R) (q:∀H',Same H H'->Q b H'):t σ H Q:=h Q q
theorem or_test {t:TT} {σ:St} {H:Hp} {Q:Bool->Hp->Prop} (b:Bool) (h:∀R:Bool->Hp->Prop,R b H->t σ H R) (q:Q b H):t σ H Q:=h Q q
noncomputable def spMask:Sp:=fun vs H Q _=>∃(l:Addr) (hs:List Int),vs=[.ref l]/\H l=some (.lst (hs.map V.int))/\hs.length<=100/\(∀h∈hs,0<=h/\h < 64)/\∀H':Hp,Same H H'->Q (.int (maskOf hs)) H'
theorem mem_putK {κ:Type} [DecidableEq κ] {kvs:List (κ × V)} {k:κ} {v:V} {q:κ × V} (h:q∈putK kvs k v):q=(k,v)\/q∈kvs:=by
 unfold putK at h
 split at h
 ·obtain ⟨p,pm,rfl⟩:=List.mem_map.mp h
  by_cases c:p.1=k
  ·rw [if_pos c,c];exact .inl rfl
  ·rw [if_neg c];exact .inr pm
 ·rcases List.mem_append.mp h with m | m
  ·exact .inr m
  ·exact .inl (List.mem_singleton.mp m)
theorem nd_put {κ:Type} [DecidableEq κ] {kvs:List (κ × V)} {k:κ} {v:V} (h:(kvs.map (·.1)).Nodup):((putK kvs k v).map (·.1)).Nodup:=by
 cases e:valV kvs k with
 | none=>exact nd_putK _ h e
 | some w=>rw [putK_keys e];exact h
theorem valV_mem {κ:Type} [DecidableEq κ] {kvs:List (κ × V)} {k:κ} {v:V} (h:valV kvs k=some v):(k,v)∈kvs:=by
 unfold valV at h
 cases c:kvs.find? fun kv=>decide (kv.1=k) with
 | none=>rw [c] at h;cases h
 | some q =>
   rw [c] at h
   have e:q.1=k:=of_decide_eq_true (List.find?_some (p:=fun kv:κ × V=>decide (kv.1=k)) c)
   have f:q.2=v:=Option.some.inj h
   rw [<- e,<- f]
   exact List.mem_of_find?_eq_some c
noncomputable def TierL (n i:Nat) (w:Int) (hs:List Int):Prop:=hs≠[]/\hs.Pairwise (· < ·)/\∀h∈hs,0<=h/\h < (n:Int)/\(w=1\/w=2->h < (i:Int))
noncomputable def TierD (J:Hp) (l:Addr) (n i:Nat) (w:Int) (kvs:List (Key × V)):Prop:=(kvs.map (·.1)).Nodup/\∀q∈kvs,∃(z:Int) (a:Addr) (hs:List Int),q=(Sum.inl z,.ref a)/\J a=some (.lst (hs.map V.int))/\a≠l/\TierL n i w hs
theorem TierD.same {J J':Hp} {l:Addr} {n i:Nat} {w:Int} {kvs:List (Key × V)} (s:Same J J') (h:TierD J l n i w kvs):TierD J' l n i w kvs:=⟨h.1,fun q m=>by
 obtain ⟨z,a,hs,e,h1,h2,h3⟩:=h.2 q m
 exact ⟨z,a,hs,e,s _ _ h1,h2,h3⟩⟩
theorem TierD.up {J:Hp} {l:Addr} {n i:Nat} {w:Int} {kvs:List (Key × V)} (h:TierD J l n i w kvs):TierD J l n (i+1) w kvs:=⟨h.1,fun q m=>by
 obtain ⟨z,a,hs,e,h1,h2,h3,h4,h5⟩:=h.2 q m
 exact ⟨z,a,hs,e,h1,h2,h3,h4,fun x xm=>⟨(h5 x xm).1,(h5 x xm).2.1,fun k=>by have:=(h5 x xm).2.2 k;omega⟩⟩⟩
theorem TierD.off {J:Hp} {l:Addr} {n i:Nat} {w:Int} {kvs:List (Key × V)} {o:HO} (h:TierD J l n i w kvs):TierD (upd J l o) l n i w kvs:=⟨h.1,fun q m=>by
 obtain ⟨z,a,hs,e,h1,h2,h3⟩:=h.2 q m
 exact ⟨z,a,hs,e,by rw [upd_ne h2];exact h1,h2,h3⟩⟩
theorem TierD.put {J:Hp} {l d a:Addr} {n i:Nat} {w z:Int} {kvs ks:List (Key × V)} {hs:List Int} (h:TierD J l n i w kvs) (hd:J d=some (.dK ks)) (ha:J a=some (.lst (hs.map V.int))) (al:a≠l) (t:TierL n i w hs):TierD (upd J d (.dK (putK kvs (Sum.inl z) (.ref a)))) l n i w (putK kvs (Sum.inl z) (.ref a)):=by
 have keep:∀{b:Addr} {xs:List V},J b=some (.lst xs)->(upd J d (.dK (putK kvs (Sum.inl z) (.ref a)))) b=some (.lst xs):=fun {b xs} e=>by rw [upd_ne (ne_of e hd (fun z=>by cases z))];exact e
 refine ⟨nd_put h.1,fun q m=>?_⟩
 rcases mem_putK m with rfl | m
 ·exact ⟨z,a,hs,rfl,keep ha,al,t⟩
 ·obtain ⟨z',a',hs',e,h1,h2,h3⟩:=h.2 q m
  exact ⟨z',a',hs',e,keep h1,h2,h3⟩
theorem TierD.keys {J:Hp} {l:Addr} {n i:Nat} {w:Int} {kvs:List (Key × V)} (h:TierD J l n i w kvs):∃ns:List Int,kvs.map (·.1)=ns.map Sum.inl/\ns.length=kvs.length/\∀z∈ns,∃(a:Addr) (hs:List Int),valV kvs (Sum.inl z)=some (.ref a)/\J a=some (.lst (hs.map V.int))/\TierL n i w hs:=by
 have key:∀{r:List (Key × V)},(∀q∈r,q∈kvs)->∃ns:List Int,r.map (·.1)=ns.map Sum.inl/\ns.length=r.length:=by
  intro r
  induction r with
  | nil=>intro _;exact ⟨[],rfl,rfl⟩
  | cons q r ih =>
    intro sub
    obtain ⟨ns,e1,e2⟩:=ih fun p m=>sub p (List.mem_cons_of_mem _ m)
    obtain ⟨z,a,hs,eq,_⟩:=h.2 q (sub q (List.mem_cons_self ..))
    exact ⟨z :: ns,by rw [List.map_cons,List.map_cons,e1,eq],by rw [List.length_cons,List.length_cons,e2]⟩
 obtain ⟨ns,e1,e2⟩:=key fun q m=>m
 refine ⟨ns,e1,e2,fun z m=>?_⟩
 have zm:(Sum.inl z:Key)∈kvs.map (·.1):=by rw [e1];exact List.mem_map.mpr ⟨z,m,rfl⟩
 cases c:valV kvs (Sum.inl z:Key) with
 | none=>exact absurd zm (valV_not c)
 | some v =>
   obtain ⟨z',a,hs,eq,h1,_,h3⟩:=h.2 _ (valV_mem c)
   injection eq with eq1 eq2
   exact ⟨a,hs,by rw [eq2],h1,h3⟩
noncomputable def OkT (n:Nat) (ts:List Int):Prop:=(∀x∈ts,0 < x/\x < 2 ^ n)/\ts.length<=12
noncomputable def spSlip16:Sp:=fun vs H Q _=>∃(c:Int) (n:Nat),vs=[.int c,.int (n:Int)]/\Sz 200 c/\1<=n/\n<=12/\∀(t:Addr) (ts:List Int) (H':Hp),H t=none->Same H H'->H' t=some (.tup (ts.map V.int))->OkT n ts->Q (.ref t) H'
noncomputable def spNumber16:Sp:=fun vs H Q _=>∃c m:Int,vs=[.int c,.int m]/\Sz 200 c/\1<=m/\m<=10 ^ 10/\∀z:Int,1<=z->z<=m->Q (.int z) H
structure Drawn (n:Nat) (most:Int) (ds:Ds):Prop where
 srt:ds.Pairwise (fun x y=>HT.lexLt x.1 y.1=true)
 ok:∀q∈ds,OkT n q.1/\1<=q.2/\q.2<=64*most
 len:ds.length<=13
 pos:1<=ds.length
noncomputable def spSheet16 (K:PySem.W.Frag):Sp:=fun vs H Q _=>∃(p:Addr) (ns:List Int) (k:Int) (n m:Nat) (most:Int),vs=[.ref p,.int k,.int (n:Int),.int (m:Int),.int most]/\SqL K H p (ns.map V.int)/\ns.length<=63/\0<=k/\k<=100/\1<=n/\n<=12/\1<=m/\m<=12/\1<=most/\most<=10 ^ 9 /\
 ∀(l:Addr) (ls:Ls) (H':Hp),H l=none->Same H H'->H' l=some (.lst (vls ls))->GoodL H' ls->Drawn n most (dsOf ls)->Q (.ref l) H'
theorem tot_most {most:Int} {ts:List Int}:∀{ds:Ds},(∀q∈ds,1<=q.2/\q.2<=most)->0<=most->tot ds ts<=(ds.length:Int)*most
 | [],_,m=>by show (0:Int)<=0*most;omega
 | q :: r,h,m=>by
   have h1:=h q (List.mem_cons_self ..)
   have h2:=tot_most (ts:=ts) (fun p k=>h p (List.mem_cons_of_mem _ k)) m
   show (if q.1=ts then q.2 else 0)+tot r ts<=((r.length+1:Nat):Int)*most
   rw [show ((r.length+1:Nat):Int)*most=(r.length:Int)*most+most from by rw [Int.natCast_add,Int.add_mul];omega]
   split <;> omega
theorem Sheet.drawn {n:Nat} {most:Int} {ds out:Ds} {p:List (List Int)} (h:Sheet ds out) (po:Pos ds) (sub:∀q∈ds,q.1∈p) (ok:∀t∈p,OkT n t) (l13:p.length<=13) (ne:ds≠[]) (b:∀ts,tot ds ts<=64*most):Drawn n most out:=by
 have key:∀q∈out,q.1∈ds.map (·.1):=fun q m=>by
  have:=(h.mem q.1 q.2).mp m
  by_cases c:q.1∈ds.map (·.1)
  ·exact c
  ·rw [tot_out c] at this
   omega
 refine ⟨h.srt,fun q m=>?_,?_,?_⟩
 ·obtain ⟨d,dm,de⟩:=List.mem_map.mp (key q m)
  have a:=(h.mem q.1 q.2).mp m
  exact ⟨ok _ (by rw [<- de];exact sub d dm),by omega,by rw [a.1];exact b _⟩
 ·have nd:(out.map (·.1)).Nodup:=List.pairwise_map.mpr (h.srt.imp fun h e=>by
   rw [e] at h
   have:=lex_asym h
   rw [h] at this
   cases this)
  have:=nodup_len (p:=p) nd (fun t m=>by
   obtain ⟨q,qm,rfl⟩:=List.mem_map.mp m
   obtain ⟨d,dm,de⟩:=List.mem_map.mp (key q qm)
   rw [<- de]
   exact sub d dm)
  rw [List.length_map] at this
  omega
 ·obtain ⟨d,r,rfl⟩:=List.exists_cons_of_ne_nil ne
  have t:=tot_in (ts:=d.1) po (by rw [List.map_cons];exact List.mem_cons_self ..)
  exact List.length_pos_of_mem ((h.mem d.1 _).mpr ⟨rfl,t⟩)
noncomputable def encI (ps:List (Int × Int)):List (Key × V):=ps.map fun q=>(Sum.inl q.1,V.int q.2)
noncomputable def putI (ps:List (Int × Int)) (b z:Int):List (Int × Int):=if (ps.any fun q=>decide (q.1=b))=true then ps.map (fun q=>if q.1=b then (q.1,z) else q) else ps++[(b,z)]
noncomputable def valI (ps:List (Int × Int)) (b:Int):Option Int:=(ps.find? fun q=>decide (q.1=b)).map (·.2)
theorem enc_any (ps:List (Int × Int)) (b:Int):((encI ps).any fun kv=>decide (kv.1=Sum.inl b))=ps.any fun q=>decide (q.1=b):=by
 unfold encI
 rw [List.any_map]
 congr 1
 funext q
 show decide ((Sum.inl q.1:Key)=Sum.inl b)=decide (q.1=b)
 exact decide_eq_decide.mpr ⟨fun e=>Sum.inl.inj e,fun e=>by rw [e]⟩
theorem enc_put (ps:List (Int × Int)) (b z:Int):putK (encI ps) (Sum.inl b) (.int z)=encI (putI ps b z):=by
 unfold putK putI
 rw [enc_any]
 split
 ·unfold encI
  rw [List.map_map,List.map_map]
  refine List.map_congr_left fun q _=>?_
  show (if (Sum.inl q.1:Key)=Sum.inl b then _ else _)=_
  by_cases c:q.1=b
  ·rw [if_pos (by rw [c])]
   show _=((fun q:Int × Int=>((Sum.inl q.1:Key),V.int q.2)) (if q.1=b then (q.1,z) else q))
   rw [if_pos c]
  ·rw [if_neg (fun e=>c (Sum.inl.inj e))]
   show _=((fun q:Int × Int=>((Sum.inl q.1:Key),V.int q.2)) (if q.1=b then (q.1,z) else q))
   rw [if_neg c]
 ·unfold encI
  rw [List.map_append]
  rfl
theorem enc_val:∀(ps:List (Int × Int)) (b:Int),valV (encI ps) (Sum.inl b)=(valI ps b).map V.int
 | [],b=>rfl
 | q :: r,b=>by
   have ih:=enc_val r b
   unfold valV valI encI at ih ⊢
   rw [List.map_cons,List.find?_cons,List.find?_cons]
   by_cases c:q.1=b
   ·rw [decide_eq_true c,decide_eq_true (show (Sum.inl q.1:Key)=Sum.inl b from by rw [c])]
    rfl
   ·rw [decide_eq_false c,decide_eq_false (show ¬ (Sum.inl q.1:Key)=Sum.inl b from fun e=>c (Sum.inl.inj e))]
    exact ih
noncomputable def psum (φ:Int->Int) (ps:List (Int × Int)):Int:=(ps.map fun q=>q.2*φ q.1).sum
theorem psum_cons (φ:Int->Int) (q:Int × Int) (r:List (Int × Int)):psum φ (q :: r)=q.2*φ q.1+psum φ r:=by unfold psum;rw [List.map_cons,List.sum_cons]
theorem psum_append (φ:Int->Int):∀a b:List (Int × Int),psum φ (a++b)=psum φ a+psum φ b
 | [],b=>(Int.zero_add _).symm
 | q :: r,b=>by rw [List.cons_append,psum_cons,psum_cons,psum_append φ r b,Int.add_assoc]
theorem psum_same (φ:Int->Int) (b z:Int):∀{ps:List (Int × Int)},b ∉ ps.map (·.1)->psum φ (ps.map fun q=>if q.1=b then (q.1,z) else q)=psum φ ps
 | [],_=>rfl
 | q :: r,h=>by
   rw [List.map_cons,List.mem_cons,not_or] at h
   rw [List.map_cons,if_neg (fun e=>h.1 e.symm),psum_cons,psum_cons,psum_same φ b z h.2]
theorem psum_put (φ:Int->Int) (b x:Int):∀{ps:List (Int × Int)},(ps.map (·.1)).Nodup->psum φ (putI ps b ((valI ps b).getD 0+x))=psum φ ps+x*φ b:=by
 intro ps nd
 unfold putI
 by_cases c:(ps.any fun q=>decide (q.1=b))=true
 ·rw [if_pos c]
  induction ps with
  | nil=>cases c
  | cons q r ih =>
    rw [List.map_cons,List.nodup_cons] at nd
    rw [List.map_cons,psum_cons,psum_cons]
    by_cases e:q.1=b
    ·have v:valI (q :: r) b=some q.2:=by unfold valI;rw [List.find?_cons,decide_eq_true e];rfl
     rw [v,if_pos e,psum_same φ b _ (by rw [<- e];exact nd.1)]
     show (q.2+x)*φ q.1+_=_
     rw [Int.add_mul,e]
     omega
    ·have v:valI (q :: r) b=valI r b:=by unfold valI;rw [List.find?_cons,decide_eq_false e]
     rw [v,if_neg e]
     rw [List.any_cons,decide_eq_false e,Bool.false_or] at c
     rw [ih nd.2 c]
     omega
 ·rw [if_neg c]
  have v:valI ps b=none:=by
   unfold valI
   rw [List.find?_eq_none.mpr fun q m=>?_]
   ·rfl
   ·intro z
    exact c (List.any_eq_true.mpr ⟨q,m,z⟩)
  rw [v,psum_append,psum_cons]
  show _+((0+x)*φ b+0)=_
  rw [Int.zero_add,Int.add_zero]
theorem putI_keys {ps:List (Int × Int)} {b z:Int}:(putI ps b z).map (·.1)=if (ps.any fun q=>decide (q.1=b))=true then ps.map (·.1) else ps.map (·.1)++[b]:=by
 unfold putI
 split
 ·rw [List.map_map]
  refine List.map_congr_left fun q _=>?_
  show (if q.1=b then (q.1,z) else q).1=q.1
  split <;> rfl
 ·rw [List.map_append];rfl
theorem putI_nd {ps:List (Int × Int)} {b z:Int} (nd:(ps.map (·.1)).Nodup):((putI ps b z).map (·.1)).Nodup:=by
 rw [putI_keys]
 split
 ·exact nd
 ·rename_i c
  refine List.nodup_append.mpr ⟨nd,List.nodup_cons.mpr ⟨(fun m=>nomatch m),List.nodup_nil⟩,fun x m y k e=>?_⟩
  rw [List.mem_singleton.mp k] at e
  obtain ⟨q,qm,rfl⟩:=List.mem_map.mp m
  exact c (List.any_eq_true.mpr ⟨q,qm,decide_eq_true e⟩)
theorem putI_mem {ps:List (Int × Int)} {b z:Int} {q:Int × Int} (m:q∈putI ps b z):q∈ps\/q=(b,z):=by
 unfold putI at m
 split at m
 ·obtain ⟨p,pm,rfl⟩:=List.mem_map.mp m
  by_cases c:p.1=b
  ·rw [if_pos c,c];exact .inr rfl
  ·rw [if_neg c];exact .inl pm
 ·rcases List.mem_append.mp m with m | m
  ·exact .inl m
  ·exact .inr (List.mem_singleton.mp m)
theorem putI_old {ps:List (Int × Int)} {b z x:Int} (m:x∈ps.map (·.1)):x∈(putI ps b z).map (·.1):=by
 rw [putI_keys]
 split
 ·exact m
 ·exact List.mem_append_left _ m
theorem putI_new {ps:List (Int × Int)} {b z:Int}:b∈(putI ps b z).map (·.1):=by
 rw [putI_keys]
 split
 ·rename_i c
  obtain ⟨q,m,e⟩:=List.any_eq_true.mp c
  exact List.mem_map.mpr ⟨q,m,of_decide_eq_true e⟩
 ·exact List.mem_append_right _ (List.mem_singleton.mpr rfl)
theorem val_get (o:Option Int):(o.map V.int).getD (.int 0)=.int (o.getD 0):=by cases o <;> rfl
theorem putI_len (ps:List (Int × Int)) (b z:Int):(putI ps b z).length<=ps.length+1:=by
 unfold putI
 split
 ·rw [List.length_map];exact Nat.le_succ _
 ·rw [List.length_append];exact Nat.le_refl _
theorem valI_mem {ps:List (Int × Int)} {b v:Int} (e:valI ps b=some v):(b,v)∈ps:=by
 unfold valI at e
 obtain ⟨q,hq,rfl⟩:=Option.map_eq_some_iff.mp e
 have:=List.find?_some hq
 have c:q.1=b:=of_decide_eq_true this
 rw [<- c]
 exact List.mem_of_find?_eq_some hq
abbrev Wz:=List (Int × Int × Int)
noncomputable def wsum (φ:Int->Int) (zs:Wz):Int:=(zs.map fun z=>if z.2.1=0 then 0 else z.1*z.2.1*φ z.2.2).sum
theorem wsum_snoc (φ:Int->Int) (zs:Wz) (z:Int × Int × Int):wsum φ (zs++[z])=wsum φ zs+if z.2.1=0 then 0 else z.1*z.2.1*φ z.2.2:=by
 unfold wsum
 rw [List.map_append,List.sum_append]
 show _+((if z.2.1=0 then 0 else z.1*z.2.1*φ z.2.2)+0)=_
 rw [Int.add_zero]
noncomputable def stepB (c b:Int):Int:=if c.fmod b≠0 then c*b.fdiv (gcdI c b) else c
theorem stepB_dvd {c b:Int} (c0:0 < c) (b0:0 < b):c ∣ stepB c b/\b ∣ stepB c b/\0 < stepB c b:=by
 unfold stepB
 split
 ·have g0:(0:Int) < gcdI c b:=by
   unfold gcdI
   have:0 < Int.gcd c b:=Int.gcd_pos_of_ne_zero_left _ (Int.ne_of_gt c0)
   exact_mod_cast this
  obtain ⟨x,hx⟩:gcdI c b ∣ b:=Int.gcd_dvd_right ..
  obtain ⟨y,hy⟩:gcdI c b ∣ c:=Int.gcd_dvd_left ..
  generalize gcdI c b=g at g0 hx hy ⊢
  have e:b.fdiv g=x:=by
   rw [Int.fdiv_eq_ediv_of_nonneg b (Int.le_of_lt g0),hx]
   exact Int.mul_ediv_cancel_left _ (Int.ne_of_gt g0)
  have x0:0 < x:=by
   rcases Int.lt_trichotomy x 0 with h | h | h
   ·have:=Int.mul_neg_of_pos_of_neg g0 h;omega
   ·rw [h,Int.mul_zero] at hx;omega
   ·exact h
  rw [e]
  refine ⟨⟨x,rfl⟩,⟨y,?_⟩,Int.mul_pos c0 x0⟩
  rw [hy,hx]
  ac_rfl
 ·rename_i h
  have h':c.fmod b=0:=Classical.byContradiction h
  refine ⟨⟨1,(Int.mul_one _).symm⟩,?_,c0⟩
  rw [Int.fmod_eq_emod_of_nonneg c (Int.le_of_lt b0)] at h'
  exact Int.dvd_of_emod_eq_zero h'
abbrev Fq:=Addr × Int × Int
noncomputable def fqv (fs:List Fq):List V:=fs.map fun f=>.ref f.1
noncomputable def FqG (H:Hp) (f:Fq):Prop:=H f.1=some (.tup [.int f.2.1,.int f.2.2])
theorem FqG.same {H H':Hp} {f:Fq} (e:Same H H') (g:FqG H f):FqG H' f:=e _ _ g
structure FqB (m:Nat) (f:Fq):Prop where
 b0:0 < f.2.2
 t0:0<=f.2.1
 szt:Sz m f.2.1
 szb:Sz m f.2.2
noncomputable def wzOf (ls:Ls) (fs:List Fq):Wz:=(ls.zip fs).map fun p=>(p.1.2.2.2,p.2.2.1,p.2.2.2)
structure TopsB (m:Nat) (ps:List (Int × Int)):Prop where
 b0:∀q∈ps,0 < q.1
 szb:∀q∈ps,Sz m q.1
noncomputable def spEven (m:Nat):Sp:=fun vs H Q _=>∃(f:Fq) (n:Nat),vs=[.ref f.1,.int (n:Int)]/\FqG H f/\FqB m f/\1<=n/\n<=12 /\
 ∀(T:Addr) (H':Hp),H T=none->Same H H'->H' T=some (.tup [.int (f.2.1.fdiv (gcdI f.2.1 n)),.int (f.2.2*(n:Int).fdiv (gcdI f.2.1 n))])->Q (.ref T) H'
theorem sum_sz {n:Nat}:∀{xs:List Int},(∀x∈xs,Sz n x)->Sz (n+xs.length) xs.sum
 | [],_=>by show (0:Int).natAbs < _;exact Nat.pow_pos (by decide)
 | x :: r,h=>by
   rw [List.sum_cons,List.length_cons]
   exact ((h x (List.mem_cons_self ..)).add (sum_sz fun y m=>h y (List.mem_cons_of_mem _ m))).mono (by omega)
theorem enc_at {ps:List (Int × Int)} {i:Nat} {k:Key} {v:V} (h:(encI ps)[i]?=some (k,v)):∃q,ps[i]?=some q/\k=Sum.inl q.1/\v=.int q.2:=by
 unfold encI at h
 rw [List.getElem?_map] at h
 obtain ⟨q,hq,e⟩:=Option.map_eq_some_iff.mp h
 injection e with e1 e2
 exact ⟨q,hq,e1.symm,e2.symm⟩
theorem enc_len (ps:List (Int × Int)):(encI ps).length=ps.length:=List.length_map ..
noncomputable def lieI:List Int->Int->Int
 | [],_=>0
 | t :: ts,s=>if Builtin.bitAnd t s=0 then lieI ts s else Builtin.bitAnd t s
theorem ixN_nat {n i:Nat} (h:i < n):ixN n (i:Int)=some i:=by
 unfold ixN
 rw [if_pos (by omega)]
 simp [h]
noncomputable def spLies (K:PySem.W.Frag):Sp:=fun vs H Q _=>∃(p:Addr) (ts:List Int) (s:Int),vs=[.ref p,.int s]/\SqT K H p (ts.map V.int)/\Q (.int (lieI ts s)) H
noncomputable def evenD (fr:Int × Int) (n:Nat):Int × Int:=(fr.1.fdiv (gcdI fr.1 n),fr.2*(n:Int).fdiv (gcdI fr.1 n))
noncomputable def rowD (wh:List Int) (fr:Int × Int) (ks:List (Int × Int)):List (Int × Int):=if wh=[] then ks++[fr] else wh.foldl (fun r x=>r.set x.toNat (evenD fr wh.length)) (ks++[(0,1)])
noncomputable def whereI (ts:List Int) (s:Int):List Int:=hands 12 (bit (lieI ts s))
noncomputable def spTableRow (m:Nat):Sp:=fun vs H Q _=>∃(sp kl:Addr) (h:Nat) (ts:List Int) (fr:Fq) (ks:List Fq) (s:Int),vs=[.ref sp,.ref fr.1,.ref kl,.int s]/\H sp=some (.tup (ts.map V.int))/\FqG H fr/\FqB m fr/\H kl=some (.lst (fqv ks))/\(∀f∈ks,FqG H f)/\ks.length=h/\h<=12/\0<=lieI ts s/\lieI ts s < 2 ^ h/\(∀x∈whereI ts s,0<=x/\x < h)/\(whereI ts s).length<=12 /\
 ∀(r:Addr) (fs:List Fq) (H':Hp),H r=none->Same H H'->H' r=some (.lst (fqv fs))->(∀f∈fs,FqG H' f)->fs.map (·.2)=rowD (whereI ts s) fr.2 (ks.map (·.2))->Q (.ref r) H'
theorem FqG.upd {H:Hp} {f:Fq} {a:Addr} {xs:List V} {o:HO} (g:FqG H f) (e:H a=some (.lst xs)):FqG (L2.upd H a o) f:=by
 show (L2.upd H a o) f.1=_
 rw [upd_ne (ne_of g e (fun z=>by cases z))]
 exact g
theorem fqv_set (fs:List Fq) (i:Nat) (f:Fq):(fqv fs).set i (.ref f.1)=fqv (fs.set i f):=by unfold fqv;rw [List.map_set]
theorem foldl_len {α:Type} (x:α):∀(wh:List Int) (r:List α),(wh.foldl (fun r y=>r.set y.toNat x) r).length=r.length
 | [],_=>rfl
 | y :: w,r=>by rw [List.foldl_cons,foldl_len x w,List.length_set]
abbrev Sh:=Addr × Fq × Addr × List Fq
noncomputable def shv (xs:List Sh):List V:=xs.map fun x=>.ref x.1
structure ShG (H:Hp) (x:Sh):Prop where
 t:H x.1=some (.tup [.ref x.2.1.1,.ref x.2.2.1])
 f:FqG H x.2.1
 l:H x.2.2.1=some (.lst (fqv x.2.2.2))
 k:∀f∈x.2.2.2,FqG H f
theorem ShG.same {H H':Hp} {x:Sh} (e:Same H H') (g:ShG H x):ShG H' x:=⟨e _ _ g.t,g.f.same e,e _ _ g.l,fun f m=>(g.k f m).same e⟩
abbrev Rw:=Addr × List Fq
noncomputable def rwv (rs:List Rw):List V:=rs.map fun r=>.ref r.1
noncomputable def RwG (H:Hp) (r:Rw):Prop:=H r.1=some (.lst (fqv r.2))/\∀f∈r.2,FqG H f
theorem RwG.same {H H':Hp} {r:Rw} (e:Same H H') (g:RwG H r):RwG H' r:=⟨e _ _ g.1,fun f m=>(g.2 f m).same e⟩
noncomputable def Lies (h:Nat) (s:Int) (ts:List Int):Prop:=0<=lieI ts s/\lieI ts s < 2 ^ h/\(∀x∈whereI ts s,0<=x/\x < h)/\(whereI ts s).length<=12
noncomputable def tabD (s:Int) (ls:Ls) (xs:List Sh):List (List (Int × Int)):=(ls.zip xs).map fun p=>rowD (whereI p.1.2.2.1 s) p.2.2.1.2 (p.2.2.2.2.map (·.2))
noncomputable def spTable (m:Nat):Sp:=fun vs H Q _=>∃(l st:Addr) (h:Nat) (ls:Ls) (xs:List Sh) (s:Int),vs=[.ref l,.ref st,.int s]/\H l=some (.lst (vls ls))/\GoodL H ls/\H st=some (.lst (shv xs))/\(∀x∈xs,ShG H x/\FqB m x.2.1/\x.2.2.2.length=h)/\ls.length=xs.length/\ls.length<=60/\h<=12/\(∀q∈ls,Lies h s q.2.2.1) /\
 ∀(r:Addr) (rs:List Rw) (H':Hp),H r=none->Same H H'->H' r=some (.lst (rwv rs))->(∀x∈rs,RwG H' x/\H x.1=none)->(rs.map fun x=>x.2.map (·.2))=tabD s ls xs->Q (.ref r) H'
noncomputable def colOf (rs:List Rw) (j:Nat):List Fq:=rs.map fun r=>r.2.getD j (0,0,1)
theorem fq_at {fs:List Fq} {j:Nat} (h:j < fs.length):fs[j]?=some (fs.getD j (0,0,1)):=by rw [List.getD_eq_getElem?_getD,List.getElem?_eq_getElem h];rfl
noncomputable def spBegin:Sp:=fun vs H Q _=>∃(l:Addr) (h:Nat) (ls:Ls),vs=[.ref l,.int (h:Int)]/\H l=some (.lst (vls ls))/\ls.length<=60/\h<=12 /\
 ∀(a:Addr) (xs:List Sh) (H':Hp),H a=none->Same H H'->H' a=some (.lst (shv xs))->(∀x∈xs,ShG H' x/\x.2.1.2=(1,1)/\x.2.2.2.map (·.2)=List.replicate h (0,1)/\H x.2.2.1=none/\x.2.2.1≠a)->(xs.map fun x=>x.2.2.1).Nodup->xs.length=ls.length->Q (.ref a) H'
theorem ShG.upd {H:Hp} {x:Sh} {a:Addr} {ys:List V} {o:HO} (g:ShG H x) (e:H a=some (.lst ys)) (ne:x.2.2.1≠a):ShG (L2.upd H a o) x:=by
 refine ⟨?_,g.f.upd e,?_,fun f m=>(g.k f m).upd e⟩
 ·rw [upd_ne (ne_of g.t e (fun z=>by cases z))];exact g.t
 ·rw [upd_ne ne];exact g.l
noncomputable def spIsFr42:Sp:=fun vs H Q _=>∃f:Fq,vs=[.ref f.1]/\FqG H f/\0<=f.2.1/\0 < f.2.2/\gcdI f.2.1 f.2.2=1/\Q (.bl true) H
noncomputable def addD (x y:Int × Int):Int × Int:=if y.1=0 then x else if x.2=y.2 then (x.1+y.1,x.2) else (x.1*y.2+y.1*x.2,x.2*y.2)
theorem while_monoN {i:Nat} {n:Int}:∀(σ:St) (H:Hp) (Q Q':Bool->Hp->Prop),(∀b H1,Q b H1->Q' b H1)->tTest (tOp rNe (tVar i) (tC (V.int n))) σ H Q->tTest (tOp rNe (tVar i) (tC (V.int n))) σ H Q':=fun _ _ _ _ f ⟨x,hx,sc,k,e,q⟩=>⟨x,hx,sc,k,e,f _ _ q⟩
noncomputable def spDiv42:Sp:=fun vs H Q _=>∃a b:Int,vs=[.int a,.int b]/\0<=a/\0<=b/\Q (.int (gcdI a b)) H
theorem is_msum:∀(n:Nat) {t:Int},0<=t->t < 2 ^ n->t=msum n (bit t)
 | 0,t,h0,h1=>by
   have:(2:Int) ^ 0=1:=rfl
   show t=0
   omega
 | n+1,t,h0,h1=>by
   have e:(2:Int) ^ (n+1)=2 ^ n*2:=Int.pow_succ ..
   have ih:=is_msum n (t:=t / 2) (by omega) (by omega)
   show t=(if bit t 0=true then 1 else 0)+2*msum n (fun i=>bit t (i+1))
   rw [show msum n (fun i=>bit t (i+1))=msum n (bit (t / 2)) from msum_congr n fun i _=>(bit_half t i).symm,<- ih,bit_zero]
   by_cases c:t % 2=1
   ·rw [if_pos (decide_eq_true c)];omega
   ·rw [if_neg (by rw [decide_eq_false c];decide)];omega
theorem and_in {n:Nat} {t s:Int} (h0:0<=t) (h1:t < 2 ^ n):0<=Builtin.bitAnd t s/\Builtin.bitAnd t s < 2 ^ n:=by
 rw [is_msum n h0 h1,and_msum]
 exact ⟨msum_nonneg ..,msum_lt ..⟩
theorem lie_in {n:Nat} {s:Int}:∀{ts:List Int},(∀t∈ts,0 < t/\t < 2 ^ n)->0<=lieI ts s/\lieI ts s < 2 ^ n
 | [],_=>⟨Int.le_refl _,Int.pow_pos (by decide)⟩
 | t :: r,h=>by
   have a:=h t (List.mem_cons_self ..)
   have b:=lie_in (s:=s) (ts:=r) fun x m=>h x (List.mem_cons_of_mem _ m)
   show 0<=(if Builtin.bitAnd t s=0 then lieI r s else Builtin.bitAnd t s)/\(if Builtin.bitAnd t s=0 then lieI r s else Builtin.bitAnd t s) < 2 ^ n
   split
   ·exact b
   ·exact and_in (by omega) a.2
theorem lies_of {h:Nat} {ts:List Int} {s:Int} (ok:OkT h ts):Lies h s ts:=by
 obtain ⟨a,b⟩:=lie_in (s:=s) ok.1
 refine ⟨a,b,fun x m=>?_,hands_len ..⟩
 obtain ⟨i,i12,e,rfl⟩:=hands_mem.mp m
 refine ⟨by omega,?_⟩
 rcases (by omega:i < h\/h<=i) with c | c
 ·omega
 ·have:(2:Int) ^ h<=2 ^ i:=by
   have:=Nat.pow_le_pow_right (show 0 < 2 by decide) c
   exact_mod_cast this
  rw [bit_high a (by omega)] at e
  cases e
theorem low_split {t b:Int} (h:b≠0):∃d,d≠0/\t=lowT t b*d/\b=lowB t b*d/\d.natAbs=Int.gcd t b:=by
 have n:=byOf_ne (t:=t) h
 obtain ⟨k,hk⟩:=byOf_dvd (x:=t) (y:=b)
 have d2:byOf t b ∣ b:=by
  have d:gcdI t b ∣ b:=Int.gcd_dvd_right ..
  unfold byOf
  by_cases c:b < 0
  ·rw [if_pos c];exact Int.neg_dvd.mpr d
  ·rw [if_neg c];exact d
 obtain ⟨l,hl⟩:=d2
 refine ⟨byOf t b,n,?_,?_,?_⟩
 ·unfold lowT
  conv=>rhs;arg 1;arg 1;rw [hk]
  rw [Int.mul_fdiv_cancel_left k n,Int.mul_comm]
  exact hk
 ·unfold lowB
  conv=>rhs;arg 1;arg 1;rw [hl]
  rw [Int.mul_fdiv_cancel_left l n,Int.mul_comm]
  exact hl
 ·unfold byOf gcdI
  by_cases c:b < 0
  ·rw [if_pos c,Int.natAbs_neg,Int.natAbs_natCast]
  ·rw [if_neg c,Int.natAbs_natCast]
theorem low_gcd {t b:Int} (h:b≠0):gcdI (lowT t b) (lowB t b)=1:=by
 obtain ⟨d,d0,e1,e2,e3⟩:=low_split (t:=t) h
 generalize lowT t b=x at *
 generalize lowB t b=y at *
 rw [e1,e2,Int.gcd_mul_right] at e3
 have dp:0 < d.natAbs:=by omega
 have z:Int.gcd x y=1:=by
  have f:Int.gcd x y*d.natAbs=1*d.natAbs:=by rw [Nat.one_mul];exact e3.symm
  exact Nat.eq_of_mul_eq_mul_right dp f
 unfold gcdI
 rw [z]
 rfl
theorem low_pos {v d:Int} (h:0 < d):∃g,0 < g/\v=lowT v d*g/\d=lowB v d*g:=by
 obtain ⟨g,g0,e1,e2,_⟩:=low_split (t:=v) (b:=d) (by omega)
 have lb:=lowB_pos (t:=v) (b:=d) (by omega)
 refine ⟨g,?_,e1,e2⟩
 rcases (by omega:0 < g\/g<=0) with h' | h'
 ·exact h'
 ·have:=Int.mul_nonpos_of_nonneg_of_nonpos (Int.le_of_lt lb) h'
  omega
theorem even_low {t b:Int} {n:Nat} (t0:0<=t) (b0:0 < b) (n1:1<=n) (g1:gcdI t b=1):0<=(evenD (t,b) n).1/\0 < (evenD (t,b) n).2/\gcdI (evenD (t,b) n).1 (evenD (t,b) n).2=1/\(evenD (t,b) n).1*(b*n)=t*(evenD (t,b) n).2:=by
 obtain ⟨tn,rfl⟩:=Int.eq_ofNat_of_zero_le t0
 obtain ⟨bn,rfl⟩:=Int.eq_ofNat_of_zero_le (Int.le_of_lt b0)
 have gp:0 < Nat.gcd tn n:=Nat.gcd_pos_of_pos_right _ n1
 have cop:Nat.Coprime tn bn:=by
  have:((Nat.gcd tn bn:Nat):Int)=1:=g1
  exact_mod_cast this
 obtain ⟨t',ht⟩:=Nat.gcd_dvd_left tn n
 obtain ⟨n',hn⟩:=Nat.gcd_dvd_right tn n
 have ht':tn / Nat.gcd tn n=t':=Nat.div_eq_of_eq_mul_right gp ht
 have hn':n / Nat.gcd tn n=n':=Nat.div_eq_of_eq_mul_right gp hn
 have e:evenD ((tn:Int),(bn:Int)) n=((t':Int),((bn*n':Nat):Int)):=by
  unfold evenD
  show (((tn:Int).fdiv ((Nat.gcd tn n:Nat):Int)),(bn:Int)*((n:Int).fdiv ((Nat.gcd tn n:Nat):Int)))=_
  rw [Int.fdiv_eq_ediv_of_nonneg _ (Int.natCast_nonneg _),Int.fdiv_eq_ediv_of_nonneg _ (Int.natCast_nonneg _)]
  show (((tn / Nat.gcd tn n:Nat):Int),(bn:Int)*((n / Nat.gcd tn n:Nat):Int))=_
  rw [ht',hn']
  push_cast
  rfl
 have n0:0 < n':=Nat.pos_of_ne_zero fun z=>by rw [z,Nat.mul_zero] at hn;omega
 have bp:0 < bn:=by omega
 rw [e]
 refine ⟨Int.natCast_nonneg _,by have:=Nat.mul_pos bp n0;show (0:Int) < ((bn*n':Nat):Int);omega,?_,?_⟩
 ·have c1:Nat.Coprime t' bn:=Nat.Coprime.coprime_dvd_left ⟨Nat.gcd tn n,by rw [Nat.mul_comm];exact ht⟩ cop
  have c2:Nat.Coprime t' n':=by rw [<- ht',<- hn'];exact Nat.coprime_div_gcd_div_gcd gp
  have:Nat.gcd t' (bn*n')=1:=Nat.Coprime.mul_right c1 c2
  show ((Nat.gcd t' (bn*n'):Nat):Int)=1
  rw [this]
  rfl
 ·show (t':Int)*((bn:Int)*(n:Int))=(tn:Int)*((bn*n':Nat):Int)
  have:t'*(bn*n)=tn*(bn*n'):=by
   generalize Nat.gcd tn n=g at ht hn
   rw [hn,ht]
   ac_rfl
  exact_mod_cast this
noncomputable def Lay (k:Nat) (d:PyData):Prop:=d.canLay0=true/\d.depth<=k
mutual
theorem eqv_me:∀d:PyData,d.canLay0=true->PyData.eqv d d=true
 | .none,_=>rfl
 | .bool b,_=>by show (b == b)=true;exact beq_self_eq_true b
 | .int i,_=>by show (i == i)=true;exact beq_self_eq_true i
 | .str x,_=>by show (x == x)=true;exact beq_self_eq_true x
 | .list xs,h=>eqv_mes xs h
 | .tuple xs,h=>eqv_mes xs h
 | .dict _,h=>nomatch h
theorem eqv_mes:∀xs:List PyData,PyData.canLayAll0 xs=true->PyData.eqvAll xs xs=true
 | [],_=>rfl
 | x :: xs,h=>by
   have h':(PyData.canLay0 x && PyData.canLayAll0 xs)=true:=h
   rw [Bool.and_eq_true] at h'
   show (PyData.eqv x x && PyData.eqvAll xs xs)=true
   rw [eqv_me x h'.1,eqv_mes xs h'.2]
   rfl
end
theorem lay_all {k:Nat}:∀{xs:List PyData},(∀x∈xs,Lay k x)->PyData.canLayAll0 xs=true/\PyData.depthAll xs<=k
 | [],_=>⟨rfl,Nat.zero_le _⟩
 | x :: xs,h=>by
   obtain ⟨a,b⟩:=lay_all (xs:=xs) fun y m=>h y (List.mem_cons_of_mem _ m)
   obtain ⟨c,d⟩:=h x (List.mem_cons_self ..)
   refine ⟨?_,?_⟩
   ·show (PyData.canLay0 x && PyData.canLayAll0 xs)=true
    rw [a,c];rfl
   ·show max (PyData.depth x) (PyData.depthAll xs)<=k
    omega
theorem lay_list {k:Nat} {xs:List PyData} (h:∀x∈xs,Lay k x):Lay (k+1) (.list xs):=⟨(lay_all h).1,Nat.succ_le_succ (lay_all h).2⟩
theorem lay_tup {k:Nat} {xs:List PyData} (h:∀x∈xs,Lay k x):Lay (k+1) (.tuple xs):=⟨(lay_all h).1,Nat.succ_le_succ (lay_all h).2⟩
theorem lay_int (k:Nat) (i:Int):Lay k (.int i):=⟨rfl,Nat.zero_le _⟩
theorem Lay.mono {k n:Nat} {d:PyData} (h:Lay k d) (kn:k<=n):Lay n d:=⟨h.1,Nat.le_trans h.2 kn⟩
theorem lay_map {α:Type} {k:Nat} {f:α->PyData} (h:∀x,Lay k (f x)) (xs:List α):∀d∈xs.map f,Lay k d:=fun d m=>by
 obtain ⟨x,_,rfl⟩:=List.mem_map.mp m
 exact h x
theorem lay_ints (k:Nat) (ns:List Int):∀d∈ns.map PyData.int,Lay k d:=lay_map (fun i=>lay_int k i) ns
theorem lay_pair {k:Nat} {a b:PyData} (ha:Lay k a) (hb:Lay k b):Lay (k+1) (.tuple [a,b]):=lay_tup fun x m=>by
 rcases List.mem_cons.mp m with rfl | m
 ·exact ha
 ·rw [List.mem_singleton.mp m];exact hb
theorem Lay.shaped {k:Nat} {d:PyData} (h:Lay k d) (k64:k<=64):SeqAt.shaped d=true:=by
 unfold SeqAt.shaped
 rw [h.1,decide_eq_true (Nat.le_trans h.2 k64)]
 rfl
theorem Lay.eqv {k:Nat} {d:PyData} (h:Lay k d):PyData.eqv d d=true:=eqv_me d h.1
theorem reps_map {α:Type} {K:PySem.W.Frag} {H:Hp} {v:α->V} {d:α->PyData}:∀{xs:List α},(∀x∈xs,Rep K H (v x) (d x))->Reps K H (xs.map v) (xs.map d)
 | [],_=>.nil
 | x :: xs,h=>.cons (h x (List.mem_cons_self ..)) (reps_map fun y m=>h y (List.mem_cons_of_mem _ m))
structure LowB42 (m:Nat) (v:Int × Int):Prop where
 t0:0<=v.1
 b0:0 < v.2
 g:gcdI v.1 v.2=1
 szt:Sz m v.1
 szb:Sz m v.2
theorem fold_at {α β:Type} (c:α) (P:β->Bool) (g:β->Nat):∀(wh:List β) (r:List α) (j:Nat),(wh.foldl (fun r x=>if P x=true then r.set (g x) c else r) r)[j]?=if j < r.length/\(∃x∈wh,P x=true/\g x=j) then some c else r[j]?
 | [],r,j=>by
   rw [if_neg (fun z=>by obtain ⟨_,x,m,_⟩:=z;exact nomatch m)]
   rfl
 | y :: w,r,j=>by
   rw [List.foldl_cons,fold_at c P g w]
   have ll:(if P y=true then r.set (g y) c else r).length=r.length:=by
    split
    ·rw [List.length_set]
    ·rfl
   rw [ll]
   by_cases a:j < r.length/\∃x∈w,P x=true/\g x=j
   ·rw [if_pos a,if_pos ⟨a.1,by obtain ⟨x,m,e⟩:=a.2;exact ⟨x,List.mem_cons_of_mem _ m,e⟩⟩]
   ·rw [if_neg a]
    by_cases b:j < r.length/\(P y=true/\g y=j)
    ·rw [if_pos b.2.1,if_pos ⟨b.1,y,List.mem_cons_self ..,b.2⟩,b.2.2,List.getElem?_set_self b.1]
    ·have nb:¬ (j < r.length/\∃x∈y :: w,P x=true/\g x=j):=fun z=>by
      obtain ⟨z1,x,m,z2⟩:=z
      rcases List.mem_cons.mp m with rfl | m
      ·exact b ⟨z1,z2⟩
      ·exact a ⟨z1,x,m,z2⟩
     rw [if_neg nb]
     by_cases p:P y=true
     ·rw [if_pos p]
      by_cases e:g y=j
      ·have:¬ j < r.length:=fun z=>b ⟨z,p,e⟩
       rw [List.getElem?_eq_none (by rw [List.length_set];omega),List.getElem?_eq_none (by omega)]
      ·rw [List.getElem?_set_ne e]
     ·rw [if_neg p]
theorem lowest_one {a b c d:Int} (b0:0 < b) (d0:0 < d) (a0:0<=a) (c0:0<=c) (g1:gcdI a b=1) (g2:gcdI c d=1) (e:a*d=c*b):a=c/\b=d:=by
 obtain ⟨a,rfl⟩:=Int.eq_ofNat_of_zero_le a0
 obtain ⟨c,rfl⟩:=Int.eq_ofNat_of_zero_le c0
 obtain ⟨b,rfl⟩:=Int.eq_ofNat_of_zero_le (Int.le_of_lt b0)
 obtain ⟨d,rfl⟩:=Int.eq_ofNat_of_zero_le (Int.le_of_lt d0)
 have c1:Nat.Coprime a b:=by have:((Nat.gcd a b:Nat):Int)=1:=g1;exact_mod_cast this
 have c2:Nat.Coprime c d:=by have:((Nat.gcd c d:Nat):Int)=1:=g2;exact_mod_cast this
 have e':a*d=c*b:=by exact_mod_cast e
 have k1:b ∣ d:=c1.symm.dvd_of_dvd_mul_left (by rw [e'];exact Nat.dvd_mul_left _ _)
 have k2:d ∣ b:=c2.symm.dvd_of_dvd_mul_left (by rw [<- e'];exact Nat.dvd_mul_left _ _)
 have bd:b=d:=Nat.dvd_antisymm k1 k2
 subst bd
 have:a=c:=Nat.eq_of_mul_eq_mul_right (by omega) e'
 exact ⟨by rw [this],rfl⟩
theorem wsum_nn (D:Int) (d0:0 < D):∀{zs:Wz},(∀z∈zs,0 < z.2.2/\0<=z.1/\0<=z.2.1)->0<=wsum (fun b=>D.fdiv b) zs
 | [],_=>Int.le_refl _
 | z :: r,h=>by
   have ih:=wsum_nn D d0 (zs:=r) fun x m=>h x (List.mem_cons_of_mem _ m)
   obtain ⟨a,b,c⟩:=h z (List.mem_cons_self ..)
   show 0<=(if z.2.1=0 then 0 else z.1*z.2.1*D.fdiv z.2.2)+wsum (fun b=>D.fdiv b) r
   split
   ·omega
   ·have:0<=D.fdiv z.2.2:=by rw [Int.fdiv_eq_ediv_of_nonneg D (Int.le_of_lt a)];exact Int.ediv_nonneg (Int.le_of_lt d0) (Int.le_of_lt a)
    have:=Int.mul_nonneg (Int.mul_nonneg b c) this
    omega
theorem low_nn {S D:Int} (s0:0<=S) (D0:0 < D):0<=lowT S D/\0 < lowB S D/\gcdI (lowT S D) (lowB S D)=1:=by
 obtain ⟨g,g0,h1,h2⟩:=low_pos (v:=S) D0
 refine ⟨?_,lowB_pos (by omega),low_gcd (by omega)⟩
 rcases (by omega:0<=lowT S D\/lowT S D < 0) with h | h
 ·exact h
 ·have:=Int.mul_neg_of_neg_of_pos h g0
  omega
abbrev Vs:=(Int × Int) × List (Int × Int)
noncomputable def shV (x:Sh):Vs:=(x.2.1.2,x.2.2.2.map (·.2))
noncomputable def fD (v:Int × Int):PyData:=.tuple [.int v.1,.int v.2]
theorem lay_f (v:Int × Int):Lay 1 (fD v):=lay_pair (lay_int 0 _) (lay_int 0 _)
section
variable {K:PySem.W.Frag} {H:Hp}
theorem rep_f {f:Fq} (g:FqG H f):Rep K H (.ref f.1) (fD f.2):=.tup (SqT.of g) (.cons (.int _) (.cons (.int _) .nil))
theorem reps_f {fs:List Fq} (g:∀f∈fs,FqG H f):Reps K H (fqv fs) ((fs.map (·.2)).map fD):=by
 rw [List.map_map]
 exact reps_map fun f m=>rep_f (g f m)
end
theorem low_b42 {m:Nat} {t b:Int} (t0:0<=t) (b0:0 < b) (szt:Sz m t) (szb:Sz m b):LowB42 m (lowT t b,lowB t b):=by
 have e1:lowT t b=t.fdiv (gcdI t b):=by unfold lowT byOf;rw [if_neg (by omega)]
 have e2:lowB t b=b.fdiv (gcdI t b):=by unfold lowB byOf;rw [if_neg (by omega)]
 obtain ⟨k1,k2,k3⟩:=low_nn t0 b0
 exact ⟨k1,k2,k3,by show Sz m (lowT t b);rw [e1];exact szt.fdiv,by show Sz m (lowB t b);rw [e2];exact szb.fdiv⟩
theorem fqv_at {fs:List Fq} {j:Nat} {f:Fq} (e:fs[j]?=some f):atI (fqv fs) (j:Int)=some (.ref f.1):=atI_nat (by unfold fqv;rw [List.getElem?_map,e];rfl)
theorem vls_at {fs:Ls} {j:Nat} {f:Addr × Addr × List Int × Int} (e:fs[j]?=some f):atI (vls fs) (j:Int)=some (.ref f.1):=atI_nat (by unfold vls;rw [List.getElem?_map,e];rfl)
section
variable {L:List Addr} {H J:Hp}
end
theorem tab_vals (s:Int) (ls:Ls) (xs:List Sh):tabD s ls xs=(ls.zip (xs.map shV)).map fun p=>rowD (whereI p.1.2.2.1 s) p.2.1 p.2.2:=by
 unfold tabD
 rw [List.zip_map_right,List.map_map]
 rfl
noncomputable def lnD (q:Addr × Addr × List Int × Int):PyData:=.tuple [.tuple (q.2.2.1.map .int),.int q.2.2.2]
theorem lay_ln (q:Addr × Addr × List Int × Int):Lay 2 (lnD q):=lay_pair (lay_tup (lay_ints 0 _)) (lay_int 1 _)
theorem lay_lns (ls:Ls):Lay 3 (.list (ls.map lnD)):=lay_list (lay_map lay_ln ls)
theorem reps_ln {K:PySem.W.Frag} {H:Hp} {ls:Ls} (g:GoodL H ls):Reps K H (vls ls) (ls.map lnD):=reps_map fun q m=>.tup (SqT.of (g q m).1) (.cons (.tup (SqT.of (g q m).2) (.ints _)) (.cons (.int _) .nil))
noncomputable def Q2 (v w:Int × Int):Prop:=v.1*w.2=w.1*v.2
noncomputable def L2' (v w:Int × Int):Prop:=v.1*w.2<=w.1*v.2
theorem Q2.low {a b:Int} (b0:0 < b):Q2 (lowT a b,lowB a b) (a,b):=by
 obtain ⟨g,g0,e1,e2⟩:=low_pos (v:=a) b0
 show lowT a b*b=a*lowB a b
 generalize lowT a b=x at *
 generalize lowB a b=y at *
 rw [e1,e2]
 ac_rfl
theorem L2'.trans {u v w:Int × Int} (v0:0 < v.2) (u0:0<=u.2) (w0:0<=w.2) (h:L2' u v) (k:L2' v w):L2' u w:=by
 unfold L2' at *
 have a:=Int.mul_le_mul_of_nonneg_right h w0
 have b:=Int.mul_le_mul_of_nonneg_right k u0
 have:u.1*w.2*v.2<=w.1*u.2*v.2:=by
  rw [show u.1*w.2*v.2=u.1*v.2*w.2 from by ac_rfl,show w.1*u.2*v.2=w.1*v.2*u.2 from by ac_rfl]
  refine Int.le_trans a ?_
  rw [show v.1*u.2*w.2=v.1*w.2*u.2 from by ac_rfl]
  exact b
 exact Int.le_of_mul_le_mul_right this v0
theorem L2'.of {v w:Int × Int} (h:Q2 v w):L2' v w:=Int.le_of_eq h
noncomputable def partD (v:Int × Int) (q:Int):Int × Int:=if q*v.2 < v.1*1 then (lowT (q*v.2) (1*v.1),lowB (q*v.2) (1*v.1)) else (1,1)
noncomputable def givenD (s p:Int × Int):Int × Int:=(lowT (s.1*p.1) (s.2*p.2),lowB (s.1*p.1) (s.2*p.2))
noncomputable def restD (f g:Int × Int):Int × Int:=(lowT (f.1*g.2 - g.1*f.2) (f.2*g.2),lowB (f.1*g.2 - g.1*f.2) (f.2*g.2))
structure PartR (m:Nat) (p:Int × Int):Prop where
 t0:0<=p.1
 b0:0 < p.2
 le:p.1<=p.2
 szt:Sz m p.1
 szb:Sz m p.2
noncomputable def spSum20 (K:PySem.W.Frag) (f g:Int->Int->Int->Int->Int):Sp:=fun vs H Q _=>∃(p r:Addr) (t b u c:Int),vs=[.ref p,.ref r]/\H p=some (.tup [.int t,.int b])/\H r=some (.tup [.int u,.int c])/\g t b u c≠0/\Sz 6600 t/\Sz 6600 b/\Sz 6600 u/\Sz 6600 c /\
 ∀(z:Addr) (H':Hp),Same H H'->FqG H' (z,lowT (f t b u c) (g t b u c),lowB (f t b u c) (g t b u c))->Q (.ref z) H'
noncomputable def spUnder20:Sp:=fun vs H Q _=>∃(p r:Addr) (t b u c:Int),vs=[.ref p,.ref r]/\H p=some (.tup [.int t,.int b])/\H r=some (.tup [.int u,.int c])/\Sz 9000 t/\Sz 9000 b/\Sz 9000 u/\Sz 9000 c/\Q (.bl (decide (t*c < u*b))) H
noncomputable def spSize20:Sp:=fun vs H Q _=>∃m:Int,vs=[.int m]/\0<=m/\m < 4096/\∀H':Hp,Same H H'->Q (.int ((hands 12 (bit m)).length:Nat)) H'
noncomputable def shareD (ts:List Int) (s:Int) (hd:Nat) (fr:Int × Int):Int × Int:=if bit (lieI ts s) hd=true then evenD fr (whereI ts s).length else (0,1)
noncomputable def spShareAt (m:Nat):Sp:=fun vs H Q _=>∃(sp:Addr) (h hd:Nat) (ts:List Int) (fr:Fq) (s:Int),vs=[.ref sp,.ref fr.1,.int s,.int (hd:Int)]/\H sp=some (.tup (ts.map V.int))/\FqG H fr/\FqB m fr/\h<=12/\hd < h/\Lies h s ts/\∀(a:Addr) (H':Hp),Same H H'->FqG H' (a,shareD ts s hd fr.2)->Q (.ref a) H'
noncomputable def spPart20:Sp:=fun vs H Q _=>∃(f:Fq) (q:Int),vs=[.ref f.1,.int q]/\FqG H f/\0 < f.2.2/\1<=q/\Sz 1900 q/\Sz 6400 f.2.1/\Sz 6400 f.2.2/\∀(a:Addr) (H':Hp),Same H H'->FqG H' (a,partD f.2 q)->Q (.ref a) H'
noncomputable def spWithKept:Sp:=fun vs H Q _=>∃(kl:Addr) (hd:Nat) (ks:List Fq) (g:Fq),vs=[.ref kl,.int (hd:Int),.ref g.1]/\H kl=some (.lst (fqv ks))/\(∀f∈ks,FqG H f)/\FqG H g/\hd < ks.length/\ks.length<=12/\∀(l:Addr) (H':Hp),H l=none->Same H H'->H' l=some (.lst (fqv (ks.set hd g)))->Q (.ref l) H'
noncomputable def keptV (hd:Nat) (sh part:Int × Int) (v:Vs):Vs:=(restD v.1 (givenD sh part),v.2.set hd (givenD sh part))
noncomputable def sharesD (ls:Ls) (xs:List Sh) (s:Int) (hd:Nat):List (Int × Int):=(ls.zip xs).map fun p=>shareD p.1.2.2.1 s hd p.2.2.1.2
noncomputable def nk (f s:Int × Int):List (List Key):=[[Sum.inl f.1,Sum.inl f.2],[Sum.inl s.1,Sum.inl s.2]]
theorem nk_inj {f s g r:Int × Int} (e:nk f s=nk g r):f=g/\s=r:=by
 unfold nk at e
 injection e with e1 e2
 injection e2 with e3 _
 injection e1 with a1 a2
 injection a2 with a3 _
 injection e3 with b1 b2
 injection b2 with b3 _
 exact ⟨Prod.ext (Sum.inl.inj a1) (Sum.inl.inj a3),Prod.ext (Sum.inl.inj b1) (Sum.inl.inj b3)⟩
theorem nkey_fs {H:Hp} {a:Addr} {f s:Fq} (e:H a=some (.tup [.ref f.1,.ref s.1])) (gf:FqG H f) (gs:FqG H s):NKey H a (nk f.2 s.2):=⟨[f.1,s.1],e,.cons gf (.cons gs .nil)⟩
noncomputable def RIn (part:Int × Int) (J:Hp) (kvs:List (List (List Key) × V)):Prop:=∀k v,valV kvs k=some v->∃(f s:Int × Int) (t g r:Addr),k=nk f s/\v=.ref t/\J t=some (.tup [.ref g,.ref r])/\FqG J (g,givenD s part)/\FqG J (r,restD f (givenD s part))
theorem RIn.tups {part:Int × Int} {J J':Hp} {kvs:List (List (List Key) × V)} (h:RIn part J kvs) (t:∀b xs,J b=some (.tup xs)->J' b=some (.tup xs)):RIn part J' kvs:=fun k v e=>by
 obtain ⟨f,s,t1,g,r,a1,a2,a3,a4,a5⟩:=h k v e
 exact ⟨f,s,t1,g,r,a1,a2,t _ _ a3,t _ _ a4,t _ _ a5⟩
theorem RIn.same {part:Int × Int} {J J':Hp} {kvs:List (List (List Key) × V)} (h:RIn part J kvs) (t:Same J J'):RIn part J' kvs:=h.tups fun b xs e=>t b _ e
theorem RIn.put {part f s:Int × Int} {J:Hp} {kvs:List (List (List Key) × V)} {t g r:Addr} (h:RIn part J kvs) (e:J t=some (.tup [.ref g,.ref r])) (eg:FqG J (g,givenD s part)) (er:FqG J (r,restD f (givenD s part))):RIn part J (putK kvs (nk f s) (.ref t)):=fun k v z=>by
 rw [valV_put] at z
 split at z
 ·rename_i c
  exact ⟨f,s,t,g,r,c,(Option.some.inj z).symm,e,eg,er⟩
 ·exact h k v z
noncomputable def OffD (d:Addr) (H J:Hp):Prop:=∀b u,H b=some u->b≠d->J b=some u
theorem OffD.tup {d:Addr} {H J:Hp} {ob:Obj} (o:OffD d H J) (e:H d=some (hoF d ob)):∀b xs,H b=some (.tup xs)->J b=some (.tup xs):=fun b xs h=>o b _ h (ne_of h e (fun z=>by cases z))
theorem OffD.lst {d:Addr} {H J:Hp} {ob:Obj} (o:OffD d H J) (e:H d=some (hoF d ob)):∀b xs,H b=some (.lst xs)->J b=some (.lst xs):=fun b xs h=>o b _ h (ne_of h e (fun z=>by cases z))
theorem OffD.sh {d:Addr} {H J:Hp} {ob:Obj} {x:Sh} (o:OffD d H J) (e:H d=some (hoF d ob)) (g:ShG H x):ShG J x:=⟨o.tup e _ _ g.t,o.tup e _ _ g.f,o.lst e _ _ g.l,fun f m=>o.tup e _ _ (g.k f m)⟩
noncomputable def pr (r:Rat):Int × Int:=(r.num,(r.den:Int))
noncomputable def vq (v:Int × Int):Rat:=(v.1:Rat) / (v.2:Rat)
theorem pr_b0 (r:Rat):0 < (pr r).2:=by have:=r.den_pos;show (0:Int) < (r.den:Int);omega
theorem pr_gcd (r:Rat):gcdI (pr r).1 (pr r).2=1:=by
 show ((Int.gcd r.num (r.den:Int):Nat):Int)=1
 have:Int.gcd r.num (r.den:Int)=1:=r.reduced
 rw [this]
 rfl
theorem pr_t0 {r:Rat} (h:0<=r):0<=(pr r).1:=Rat.num_nonneg.mpr h
theorem vq_pr (r:Rat):vq (pr r)=r:=by
 unfold vq pr
 show ((r.num:Int):Rat) / (((r.den:Nat):Int):Rat)=r
 rw [<- Rat.divInt_eq_div]
 exact Rat.num_divInt_den r
theorem vq_ne {v:Int × Int} (h:0 < v.2):(v.2:Rat)≠0:=by
 intro e
 have:=Rat.intCast_inj.mp (show (v.2:Rat)=((0:Int):Rat) from e)
 omega
theorem q2_vq {v w:Int × Int} (v0:0 < v.2) (w0:0 < w.2):Q2 v w↔vq v=vq w:=by
 have a:=vq_ne v0
 have b:=vq_ne w0
 unfold Q2 vq
 constructor
 ·intro h
  have h':(v.1:Rat)*(w.2:Rat)=(w.1:Rat)*(v.2:Rat):=by
   rw [<- Rat.intCast_mul,<- Rat.intCast_mul,h]
  grind
 ·intro h
  have h':(v.1:Rat)*(w.2:Rat)=(w.1:Rat)*(v.2:Rat):=by grind
  rw [<- Rat.intCast_mul,<- Rat.intCast_mul] at h'
  exact Rat.intCast_inj.mp h'
theorem vq_nn {v:Int × Int} (t0:0<=v.1) (b0:0 < v.2):0<=vq v:=by
 unfold vq
 rw [<- Rat.divInt_eq_div]
 exact Rat.divInt_nonneg t0 (Int.le_of_lt b0)
theorem pr_of {v:Int × Int} (t0:0<=v.1) (b0:0 < v.2) (g:gcdI v.1 v.2=1):v=pr (vq v):=by
 have e:Q2 v (pr (vq v)):=(q2_vq b0 (pr_b0 _)).mpr (vq_pr _).symm
 obtain ⟨x,y⟩:=lowest_one b0 (pr_b0 (vq v)) t0 (pr_t0 (vq_nn t0 b0)) g (pr_gcd _) e
 exact Prod.ext x y
theorem low_is {a b:Int} (a0:0<=a) (b0:0 < b):(lowT a b,lowB a b)=pr ((a:Rat) / (b:Rat)):=by
 obtain ⟨k1,k2,k3⟩:=low_nn a0 b0
 have e:=pr_of (v:=(lowT a b,lowB a b)) k1 k2 k3
 rw [e]
 congr 1
 exact (q2_vq (v:=(lowT a b,lowB a b)) (w:=(a,b)) k2 b0).mp (Q2.low b0)
theorem even_is {r:Rat} {n:Nat} (r0:0<=r) (n1:1<=n):evenD (pr r) n=pr (r / (n:Rat)):=by
 obtain ⟨e1,e2,e3,e4⟩:=even_low (t:=(pr r).1) (b:=(pr r).2) (pr_t0 r0) (pr_b0 r) n1 (pr_gcd r)
 have e:=pr_of (v:=evenD (pr r) n) e1 e2 e3
 rw [e]
 congr 1
 have hn:0 < (pr r).2*(n:Int):=Int.mul_pos (pr_b0 r) (by omega)
 rw [(q2_vq (v:=evenD (pr r) n) (w:=((pr r).1,(pr r).2*(n:Int))) e2 hn).mp e4]
 have hr:=vq_pr r
 have hb:=vq_ne (pr_b0 r)
 unfold vq at hr ⊢
 rw [Rat.intCast_mul]
 have hn':((n:Int):Rat)≠0:=by
  intro z
  have:=Rat.intCast_inj.mp (show ((n:Int):Rat)=((0:Int):Rat) from z)
  omega
 have hc:((n:Int):Rat)=(n:Rat):=rfl
 rw [<- hc]
 grind
theorem q0_ne {n:Nat} (h:1<=n):(n:Rat)≠0:=by
 intro z
 have:=Rat.natCast_inj.mp (show (n:Rat)=((0:Nat):Rat) from z)
 omega
noncomputable def IntM (M:Int) (r:Rat):Prop:=∃k:Int,r*(M:Rat)=(k:Rat)
theorem IntM.dvd {M:Int} {r:Rat} (h:IntM M r):(pr r).2 ∣ M:=by
 obtain ⟨k,e⟩:=h
 have hr:=vq_pr r
 have hb:=vq_ne (pr_b0 r)
 unfold vq at hr
 have e2:((pr r).1:Rat)*(M:Rat)=(k:Rat)*((pr r).2:Rat):=by grind
 rw [<- Rat.intCast_mul,<- Rat.intCast_mul] at e2
 have e3:(pr r).1*M=k*(pr r).2:=Rat.intCast_inj.mp e2
 have c:Int.gcd (pr r).2 (pr r).1=1:=by rw [Int.gcd_comm];exact r.reduced
 have:(pr r).2 ∣ (pr r).1*M:=⟨k,by rw [e3,Int.mul_comm]⟩
 have n1:=Int.natAbs_dvd_natAbs.mpr this
 rw [Int.natAbs_mul] at n1
 exact Int.natAbs_dvd_natAbs.mp (Nat.Coprime.dvd_of_dvd_mul_left (show Nat.Coprime (pr r).2.natAbs (pr r).1.natAbs from c) n1)
theorem IntM.sub {M:Int} {r s:Rat} (h:IntM M r) (k:IntM M s):IntM M (r - s):=by
 obtain ⟨a,e⟩:=h
 obtain ⟨b,f⟩:=k
 exact ⟨a - b,by rw [Rat.intCast_sub];grind⟩
theorem IntM.add {M:Int} {r s:Rat} (h:IntM M r) (k:IntM M s):IntM M (r+s):=by
 obtain ⟨a,e⟩:=h
 obtain ⟨b,f⟩:=k
 exact ⟨a+b,by rw [Rat.intCast_add];grind⟩
theorem IntM.more {M:Int} (n:Int) {r:Rat} (h:IntM M r):IntM (M*n) r:=by
 obtain ⟨a,e⟩:=h
 exact ⟨a*n,by rw [Rat.intCast_mul,Rat.intCast_mul];grind⟩
theorem IntM.div {M:Int} {n:Nat} {c:Int} {r:Rat} (h:IntM M r) (n1:1<=n):IntM (M*((n:Int)*c)) (r / (n:Rat)):=by
 obtain ⟨a,e⟩:=h
 have hn:=q0_ne n1
 refine ⟨a*c,?_⟩
 rw [Rat.intCast_mul,Rat.intCast_mul,Rat.intCast_mul,show (((n:Nat):Int):Rat)=(n:Rat) from rfl]
 grind
theorem IntM.times {M:Int} {r:Rat} (n:Int) (h:IntM M r):IntM M ((n:Rat)*r):=by
 obtain ⟨a,e⟩:=h
 exact ⟨n*a,by rw [Rat.intCast_mul];grind⟩
theorem IntM.zero (M:Int):IntM M 0:=⟨0,by rw [Rat.zero_mul];rfl⟩
theorem IntM.one (M:Int):IntM M 1:=⟨M,Rat.one_mul _⟩
theorem dvd_sz {b M:Int} {m:Nat} (h:b ∣ M) (M0:0 < M) (z:Sz m M):Sz m b:=by
 obtain ⟨k,e⟩:=h
 have hk:k≠0:=fun z=>by rw [z,Int.mul_zero] at e;omega
 have:b.natAbs<=M.natAbs:=by
  rw [e,Int.natAbs_mul]
  exact Nat.le_mul_of_pos_right _ (by omega)
 exact Nat.lt_of_le_of_lt this z
theorem stepB_M {c b M:Int} (c0:0 < c) (b0:0 < b) (hc:c ∣ M) (hb:b ∣ M):stepB c b ∣ M:=by
 unfold stepB
 split
 ·have g0:(0:Int) < gcdI c b:=by
   unfold gcdI
   have:0 < Int.gcd c b:=Int.gcd_pos_of_ne_zero_left _ (Int.ne_of_gt c0)
   exact_mod_cast this
  have e:c*b.fdiv (gcdI c b)=((Nat.lcm c.natAbs b.natAbs:Nat):Int):=by
   obtain ⟨cn,rfl⟩:=Int.eq_ofNat_of_zero_le (Int.le_of_lt c0)
   obtain ⟨bn,rfl⟩:=Int.eq_ofNat_of_zero_le (Int.le_of_lt b0)
   show (cn:Int)*(bn:Int).fdiv ((Nat.gcd cn bn:Nat):Int)=((Nat.lcm cn bn:Nat):Int)
   rw [Int.fdiv_eq_ediv_of_nonneg _ (Int.natCast_nonneg _)]
   show ((cn:Nat):Int)*((bn / Nat.gcd cn bn:Nat):Int)=_
   have:cn*(bn / Nat.gcd cn bn)=Nat.lcm cn bn:=by
    unfold Nat.lcm
    rw [Nat.mul_div_assoc _ (Nat.gcd_dvd_right cn bn)]
   exact_mod_cast this
  rw [e]
  exact Int.ofNat_dvd_left.mpr (Nat.lcm_dvd (Int.natAbs_dvd_natAbs.mpr hc) (Int.natAbs_dvd_natAbs.mpr hb))
 ·exact hc
structure FqM (M:Int) (v:Int × Int):Prop where
 t0:0<=v.1
 b0:0 < v.2
 le:v.1<=v.2
 dv:v.2 ∣ M
theorem FqM.szb {M:Int} {v:Int × Int} {m:Nat} (h:FqM M v) (M0:0 < M) (z:Sz m M):Sz m v.2:=dvd_sz h.dv M0 z
theorem FqM.szt {M:Int} {v:Int × Int} {m:Nat} (h:FqM M v) (M0:0 < M) (z:Sz m M):Sz m v.1:=by
 have:=h.szb M0 z
 have a:=h.t0
 have b:=h.le
 unfold Sz at *
 omega
theorem FqM.fq {M:Int} {f:Fq} {m:Nat} (h:FqM M f.2) (M0:0 < M) (z:Sz m M):FqB m f:=⟨h.b0,h.t0,h.szt M0 z,h.szb M0 z⟩
noncomputable def nsum (ls:Ls):Int:=(ls.map fun q=>q.2.2.2).sum
theorem wsum_le (D:Int) (d0:0 < D):∀{ls:Ls} {fs:List Fq},(∀q∈ls,0<=q.2.2.2)->(∀f∈fs,0<=f.2.1/\f.2.1<=f.2.2/\0 < f.2.2)->(∀z∈wzOf ls fs,z.2.1≠0->z.2.2 ∣ D)->wsum (fun b=>D.fdiv b) (wzOf ls fs)<=nsum ls*D
 | [],fs,_,_,_=>by
   show (0:Int)<=0*D
   omega
 | q :: r,[],h,_,_=>by
   show (0:Int)<=nsum (q :: r)*D
   have:0<=nsum (q :: r):=by
    unfold nsum
    have:∀l:Ls,(∀q∈l,0<=q.2.2.2)->0<=(l.map fun q=>q.2.2.2).sum:=by
     intro l
     induction l with
     | nil=>intro _;exact Int.le_refl _
     | cons a b ih =>
       intro k
       rw [List.map_cons,List.sum_cons]
       have:=k a (List.mem_cons_self ..)
       have:=ih fun q m=>k q (List.mem_cons_of_mem _ m)
       omega
    exact this _ h
   exact Int.mul_nonneg this (Int.le_of_lt d0)
 | q :: r,f :: fs,h,hf,hd=>by
   have ih:=wsum_le D d0 (ls:=r) (fs:=fs) (fun x m=>h x (List.mem_cons_of_mem _ m)) (fun x m=>hf x (List.mem_cons_of_mem _ m)) (fun z m=>hd z (List.mem_cons_of_mem _ m))
   have n0:=h q (List.mem_cons_self ..)
   obtain ⟨t0,tb,b0⟩:=hf f (List.mem_cons_self ..)
   show (if f.2.1=0 then 0 else q.2.2.2*f.2.1*D.fdiv f.2.2)+wsum (fun b=>D.fdiv b) (wzOf r fs)<=(q.2.2.2+nsum r)*D
   rw [Int.add_mul]
   have:(if f.2.1=0 then 0 else q.2.2.2*f.2.1*D.fdiv f.2.2)<=q.2.2.2*D:=by
    split
    ·exact Int.mul_nonneg n0 (Int.le_of_lt d0)
    ·rename_i c
     obtain ⟨e,he⟩:=hd (q.2.2.2,f.2.1,f.2.2) (List.mem_cons_self ..) c
     have he':D=f.2.2*e:=he
     have de:D.fdiv f.2.2=e:=by
      rw [Int.fdiv_eq_ediv_of_nonneg D (Int.le_of_lt b0),he']
      exact Int.mul_ediv_cancel_left _ (Int.ne_of_gt b0)
     have e0:0<=e:=by
      rcases (by omega:0<=e\/e < 0) with k | k
      ·exact k
      ·have:=Int.mul_neg_of_pos_of_neg b0 k;omega
     rw [de,he',Int.mul_assoc]
     exact Int.mul_le_mul_of_nonneg_left (Int.mul_le_mul_of_nonneg_right tb e0) n0
   omega
structure WM (M:Int) (ls:Ls) (fs:List Fq) (v:Int × Int):Prop where
 ex:∃D:Int,0 < D/\(∀z∈wzOf ls fs,z.2.1≠0->z.2.2 ∣ D)/\v=(lowT (wsum (fun b=>D.fdiv b) (wzOf ls fs)) D,lowB (wsum (fun b=>D.fdiv b) (wzOf ls fs)) D)
 dv:v.2 ∣ M
noncomputable def spCommonM:Sp:=fun vs H Q _=>∃(d:Addr) (ps:List (Int × Int)) (M:Int),vs=[.ref d]/\H d=some (.dK (encI ps))/\(∀q∈ps,0 < q.1/\q.1 ∣ M)/\0 < M/\Sz 4500 M/\ps.length<=60 /\
 ∀(D:Int) (H':Hp),Same H H'->0 < D->(∀q∈ps,q.1 ∣ D)->D ∣ M->Q (.int D) H'
noncomputable def spWeighM:Sp:=fun vs H Q _=>∃(l sl:Addr) (ls:Ls) (fs:List Fq) (M:Int),vs=[.ref l,.ref sl]/\H l=some (.lst (vls ls))/\GoodL H ls/\H sl=some (.lst (fqv fs))/\(∀f∈fs,FqG H f/\FqM M f.2)/\0 < M/\Sz 4500 M/\ls.length=fs.length/\ls.length<=60/\(∀q∈ls,0<=q.2.2.2/\Sz 64 q.2.2.2) /\
 ∀(T:Addr) (v:Int × Int) (H':Hp),Same H H'->WM M ls fs v->FqG H' (T,v)->Q (.ref T) H'
noncomputable def spTalliesM:Sp:=fun vs H Q _=>∃(l rl:Addr) (h:Nat) (ls:Ls) (rs:List Rw) (M:Int),vs=[.ref l,.ref rl,.int (h:Int)]/\H l=some (.lst (vls ls))/\GoodL H ls/\H rl=some (.lst (rwv rs))/\(∀x∈rs,RwG H x/\x.2.length=h+1/\∀f∈x.2,FqM M f.2)/\0 < M/\Sz 4500 M/\ls.length=rs.length/\ls.length<=60/\h<=12/\(∀q∈ls,0<=q.2.2.2/\Sz 64 q.2.2.2) /\
 ∀(a:Addr) (fs:List Fq) (H':Hp),H a=none->Same H H'->H' a=some (.lst (fqv fs))->(∀f∈fs,FqG H' f)->fs.length=h+1->(∀j f,fs[j]?=some f->WM M ls (colOf rs j) f.2)->Q (.ref a) H'
noncomputable def shareR (ts:List Int) (s:Int) (hd:Nat) (r:Rat):Rat:=if bit (lieI ts s) hd=true then r / ((whereI ts s).length:Rat) else 0
noncomputable def partR (t:Rat) (q:Int):Rat:=if (q:Rat) < t then (q:Rat) / t else 1
abbrev Sr:=Rat × List Rat
noncomputable def encS (x:Sr):Vs:=(pr x.1,x.2.map pr)
noncomputable def keepR (hd:Nat) (sh part:Rat) (x:Sr):Sr:=(x.1 - sh*part,x.2.set hd (sh*part))
noncomputable def spKeptM:Sp:=fun vs H Q _=>∃(l st:Addr) (h hd:Nat) (ls:Ls) (xs:List Sh) (s q M:Int),vs=[.ref l,.ref st,.int s,.int (hd:Int),.int q]/\H l=some (.lst (vls ls))/\GoodL H ls/\H st=some (.lst (shv xs))/\(∀x∈xs,ShG H x/\FqM M x.2.1.2/\gcdI x.2.1.2.1 x.2.1.2.2=1/\x.2.2.2.length=h)/\0 < M/\Sz 2210 M/\ls.length=xs.length/\ls.length<=60/\h<=12/\hd < h/\1<=q/\Sz 64 q/\(∀p∈ls,Lies h s p.2.2.1/\0<=p.2.2.2/\Sz 64 p.2.2.2) /\
 ∀(a:Addr) (ys:List Sh) (fs:List Fq) (v:Int × Int) (H':Hp),H a=none->Same H H'->H' a=some (.lst (shv ys))->(∀y∈ys,ShG H' y/\H y.2.2.1=none/\y.2.2.1≠a)->(ys.map fun y=>y.2.2.1).Nodup->fs.map (·.2)=sharesD ls xs s hd->WM (M*27720) ls fs v->ys.map shV=(xs.zip (sharesD ls xs s hd)).map (fun p=>keptV hd p.2 (partD v q) (shV p.1))->Q (.ref a) H'
theorem n_27720 {n:Nat} (h1:1<=n) (h2:n<=12):∃c:Int,(27720:Int)=(n:Int)*c:=by
 have k:∀n:Fin 12,(27720:Int)=((n.1+1:Nat):Int)*(27720 / ((n.1+1:Nat):Int)):=by decide
 have e:n - 1+1=n:=Nat.sub_add_cancel h1
 have:=k ⟨n - 1,by omega⟩
 rw [e] at this
 exact ⟨_,this⟩
theorem even_m {M:Int} {f:Int × Int} {n:Nat} (n1:1<=n) (n12:n<=12) (fm:FqM M f) (g:gcdI f.1 f.2=1):FqM (M*27720) (evenD f n)/\gcdI (evenD f n).1 (evenD f n).2=1:=by
 obtain ⟨e1,e2,e3,e4⟩:=even_low (t:=f.1) (b:=f.2) fm.t0 fm.b0 n1 g
 have e1':0<=(evenD f n).1:=e1
 have e2':0 < (evenD f n).2:=e2
 have e4':(evenD f n).1*(f.2*n)=f.1*(evenD f n).2:=e4
 refine ⟨⟨e1,e2,?_,?_⟩,e3⟩
 ·have k1:(evenD f n).1*(f.2*n)<=(evenD f n).2*(f.2*n):=by
   rw [e4',Int.mul_comm]
   refine Int.mul_le_mul_of_nonneg_left ?_ (Int.le_of_lt e2')
   have:=Int.mul_le_mul_of_nonneg_left (show (1:Int)<=n by omega) (Int.le_of_lt fm.b0)
   have:=fm.le
   omega
  exact Int.le_of_mul_le_mul_right k1 (Int.mul_pos fm.b0 (by omega))
 ·obtain ⟨c,hc⟩:=n_27720 n1 n12
  rw [hc]
  show f.2*(n:Int).fdiv (gcdI f.1 n) ∣ M*((n:Int)*c)
  refine Int.mul_dvd_mul fm.dv ?_
  refine Int.dvd_trans ?_ ⟨c,rfl⟩
  obtain ⟨d,hd⟩:gcdI f.1 n ∣ (n:Int):=Int.gcd_dvd_right ..
  have g0:(0:Int) < gcdI f.1 n:=by
   unfold gcdI
   have:0 < Int.gcd f.1 (n:Int):=Int.gcd_pos_of_ne_zero_right _ (by omega)
   omega
  generalize gcdI f.1 n=gg at *
  refine ⟨gg,?_⟩
  have:(n:Int).fdiv gg=d:=by
   rw [Int.fdiv_eq_ediv_of_nonneg _ (Int.le_of_lt g0),hd]
   exact Int.mul_ediv_cancel_left _ (Int.ne_of_gt g0)
  rw [this,Int.mul_comm]
  exact hd
theorem share_m {M:Int} {ts:List Int} {s:Int} {hd:Nat} {fr:Int × Int} (hd12:hd < 12) (M0:0 < M) (fm:FqM M fr) (g:gcdI fr.1 fr.2=1):FqM (M*27720) (shareD ts s hd fr)/\gcdI (shareD ts s hd fr).1 (shareD ts s hd fr).2=1/\L2' (shareD ts s hd fr) fr:=by
 unfold shareD
 split
 ·rename_i c
  have n12:(whereI ts s).length<=12:=hands_len ..
  have n1:1<=(whereI ts s).length:=List.length_pos_of_mem (hands_mem.mpr ⟨hd,hd12,c,rfl⟩:((hd:Nat):Int)∈whereI ts s)
  generalize (whereI ts s).length=n at n1 n12 ⊢
  obtain ⟨a,b⟩:=even_m n1 n12 fm g
  obtain ⟨e1,e2,e3,e4⟩:=even_low (t:=fr.1) (b:=fr.2) fm.t0 fm.b0 n1 g
  refine ⟨a,b,?_⟩
  have e5:(evenD fr n).1*(fr.2*n)=fr.1*(evenD fr n).2:=e4
  show (evenD fr n).1*fr.2<=fr.1*(evenD fr n).2
  rw [<- e5,<- Int.mul_assoc]
  have k:0<=(evenD fr n).1*fr.2:=Int.mul_nonneg e1 (Int.le_of_lt fm.b0)
  have:=Int.mul_le_mul_of_nonneg_left (show (1:Int)<=n by omega) k
  omega
 ·refine ⟨⟨by decide,by decide,by decide,Int.one_dvd _⟩,rfl,?_⟩
  show (0:Int)*fr.2<=fr.1*1
  have:=fm.t0
  omega
theorem part_m {v:Int × Int} {q:Int} {m n:Nat} (b0:0 < v.2) (q1:1<=q) (szt:Sz m v.1):PartR (m+1) (partD v q):=by
 unfold partD
 split
 ·rename_i c
  rw [Int.mul_one] at c
  have qv:0 < q*v.2:=Int.mul_pos (by omega) b0
  have v0:0 < 1*v.1:=by omega
  obtain ⟨k1,k2,k3⟩:=low_nn (S:=q*v.2) (D:=1*v.1) (by omega) v0
  obtain ⟨g,g0,e1,e2⟩:=low_pos (v:=q*v.2) v0
  have le:lowT (q*v.2) (1*v.1)<=lowB (q*v.2) (1*v.1):=by
   refine Int.le_of_mul_le_mul_right ?_ g0
   rw [<- e1,<- e2]
   omega
  have zb:Sz m (lowB (q*v.2) (1*v.1)):=dvd_sz (M:=v.1) ⟨g,by rw [<- e2];omega⟩ (by omega) szt
  refine ⟨k1,k2,le,?_,zb.mono (by omega)⟩
  refine Sz.mono (m:=m) ?_ (by omega)
  unfold Sz at *
  show (lowT (q*v.2) (1*v.1)).natAbs < _
  omega
 ·exact ⟨by decide,by decide,by decide,(sz_of (by decide) (by decide):Sz 1 (1:Int)).mono (by omega),(sz_of (by decide) (by decide):Sz 1 (1:Int)).mono (by omega)⟩
theorem given_g {a b:Nat} {s p:Int × Int} (s0:0<=s.1) (b0:0 < s.2) (z1:Sz a s.1) (z2:Sz a s.2) (pr:PartR b p):LowB42 (a+b) (givenD s p)/\L2' (givenD s p) s:=by
 have bb:=Int.mul_pos b0 pr.b0
 have lo:LowB42 (a+b) (givenD s p):=low_b42 (Int.mul_nonneg s0 pr.t0) bb (z1.mul pr.szt) (z2.mul pr.szb)
 refine ⟨lo,?_⟩
 refine L2'.trans (v:=(s.1*p.1,s.2*p.2)) bb (Int.le_of_lt lo.b0) (Int.le_of_lt b0) (L2'.of (Q2.low bb)) ?_
 show s.1*p.1*s.2<=s.1*(s.2*p.2)
 rw [show s.1*p.1*s.2=s.1*s.2*p.1 from by ac_rfl,<- Int.mul_assoc]
 exact Int.mul_le_mul_of_nonneg_left pr.le (Int.mul_nonneg s0 (Int.le_of_lt b0))
theorem wm_sz {M:Int} {ls:Ls} {fs:List Fq} {v:Int × Int} {m:Nat} (w:WM M ls fs v) (M0:0 < M) (Mz:Sz m M) (hn:∀q∈ls,0<=q.2.2.2/\Sz 64 q.2.2.2) (hf:∀f∈fs,FqM M f.2) (l60:ls.length<=60):0<=v.1/\0 < v.2/\gcdI v.1 v.2=1/\Sz m v.2/\v.1<=nsum ls*v.2/\Sz (m+124) v.1:=by
 obtain ⟨⟨D,D0,Dd,e⟩,dv⟩:=w
 have nn:=wsum_nn D D0 (zs:=wzOf ls fs) (fun z zm=>by
  obtain ⟨p,pm,rfl⟩:=List.mem_map.mp zm
  obtain ⟨a,b⟩:=List.of_mem_zip pm
  exact ⟨(hf _ b).b0,(hn _ a).1,(hf _ b).t0⟩)
 have le:=wsum_le D D0 (ls:=ls) (fs:=fs) (fun q m=>(hn q m).1) (fun f m=>⟨(hf f m).t0,(hf f m).le,(hf f m).b0⟩) Dd
 generalize wsum (fun b=>D.fdiv b) (wzOf ls fs)=Z at *
 obtain ⟨k1,k2,k3⟩:=low_nn nn D0
 obtain ⟨g,g0,e1,e2⟩:=low_pos (v:=Z) D0
 subst e
 have vb:lowT Z D<=nsum ls*lowB Z D:=by
  refine Int.le_of_mul_le_mul_right ?_ g0
  rw [Int.mul_assoc,<- e1,<- e2]
  exact le
 have zb:Sz m (lowB Z D):=dvd_sz dv M0 Mz
 have nz:Sz 124 (nsum ls):=(sum_sz (n:=64) fun x m=>by
  obtain ⟨q,qm,rfl⟩:=List.mem_map.mp m
  exact (hn q qm).2).mono (by rw [List.length_map];omega)
 refine ⟨k1,k2,k3,zb,vb,?_⟩
 have:=(nz.mul zb).mono (show 124+m<=m+124 by omega)
 unfold Sz at *
 show (lowT Z D).natAbs < _
 generalize 2 ^ (m+124)=X at *
 omega
noncomputable def ups (n:Nat):List Int:=(List.range n).map fun i:Nat=>(i:Int)
theorem ups_len (n:Nat):(ups n).length=n:=by unfold ups;rw [List.length_map,List.length_range]
theorem ups_mem {n:Nat} {x:Int}:x∈ups n↔0<=x/\x < n:=by
 unfold ups
 rw [List.mem_map]
 constructor
 ·rintro ⟨i,m,rfl⟩
  have:=List.mem_range.mp m
  omega
 ·rintro ⟨h0,h1⟩
  exact ⟨x.toNat,List.mem_range.mpr (by omega),by omega⟩
theorem ups_nd (n:Nat):(ups n).Nodup:=by
 unfold ups
 rw [List.nodup_iff_pairwise_ne,List.pairwise_map]
 exact List.nodup_range.imp fun h e=>h (by omega)
theorem bit_test {m:Int} (h:0<=m) (i:Nat):bit m i=m.toNat.testBit i:=by
 obtain ⟨n,rfl⟩:∃n:Nat,m=(n:Int):=⟨m.toNat,by omega⟩
 rw [Int.toNat_natCast,Nat.testBit_eq_decide_div_mod_eq]
 unfold bit
 congr 1
 apply propext
 constructor
 ·intro z
  have:((n / 2 ^ i % 2:Nat):Int)=1:=by push_cast;exact z
  omega
 ·intro z
  have:((n / 2 ^ i % 2:Nat):Int)=1:=by rw [z];rfl
  push_cast at this
  exact this
theorem test_add {x h j:Nat} (c:x.testBit h=false):(2 ^ h+x).testBit j=(x.testBit j || decide (j=h)):=by
 rcases Nat.lt_trichotomy j h with l | l | l
 ·rw [Nat.testBit_two_pow_add_gt l,decide_eq_false (by omega),Bool.or_false]
 ·rw [l,Nat.testBit_two_pow_add_eq,c,decide_eq_true rfl];rfl
 ·rw [decide_eq_false (by omega),Bool.or_false]
  have q:(2 ^ h+x) / 2 ^ (h+1)=x / 2 ^ (h+1):=by
   rw [Nat.testBit_eq_decide_div_mod_eq] at c
   have c:=of_decide_eq_false c
   have p:0 < 2 ^ h:=Nat.two_pow_pos h
   rw [Nat.pow_succ,<- Nat.div_div_eq_div_mul,<- Nat.div_div_eq_div_mul,Nat.add_div_left _ p]
   omega
  have d:∀y:Nat,y.testBit j=(y / 2 ^ (h+1)).testBit (j - (h+1)):=fun y=>by
   rw [Nat.testBit_div_two_pow]
   congr 1
   omega
  rw [d,d x,q]
theorem bit_less {m:Int} (h0:0<=m) (h j:Nat):0<=m - 2 ^ h*(if bit m h=true then 1 else 0)/\bit (m - 2 ^ h*(if bit m h=true then 1 else 0)) j=(bit m j && decide (j≠h)):=by
 by_cases c:bit m h=true
 ·rw [if_pos c,Int.mul_one]
  obtain ⟨n,rfl⟩:∃n:Nat,m=(n:Int):=⟨m.toNat,by omega⟩
  have ct:=c
  rw [bit_test h0,Int.toNat_natCast] at ct
  have le:2 ^ h<=n:=Nat.ge_two_pow_of_testBit ct
  obtain ⟨x,rfl⟩:∃x,n=2 ^ h+x:=⟨n - 2 ^ h,by omega⟩
  have cx:x.testBit h=false:=by
   rw [Nat.testBit_two_pow_add_eq] at ct
   simpa using ct
  have e:((2 ^ h+x:Nat):Int) - 2 ^ h=(x:Int):=by push_cast;omega
  rw [e]
  refine ⟨by omega,?_⟩
  rw [bit_test (by omega),bit_test (by omega),Int.toNat_natCast,Int.toNat_natCast,test_add cx]
  by_cases z:j=h
  ·subst z;rw [cx];simp
  ·simp [z]
 ·rw [if_neg c,Int.mul_zero,Int.sub_zero]
  refine ⟨h0,?_⟩
  by_cases z:j=h
  ·subst z;simp at c;rw [c];rfl
  ·simp [z]
inductive Dd
 | seat (h:Nat)
 | out (h:Nat)
 | rest
 | fin
 deriving DecidableEq
noncomputable def Dd.word:Dd->Str
 | .seat _=>"seat"
 | .out _=>"out"
 | .rest=>"rest"
 | .fin=>"end"
noncomputable def Dd.who:Dd->V
 | .seat h=>.int (h:Int)
 | .out h=>.int (h:Int)
 | .rest=>.non
 | .fin=>.non
abbrev Lq:=List (List Int × Int)
noncomputable def rowR (wh:List Int) (x:Sr):List Rat:=if wh=[] then x.2++[x.1] else wh.foldl (fun r y=>r.set y.toNat (x.1 / (wh.length:Rat))) (x.2++[0])
noncomputable def rowsR (ds:Lq) (st:List Sr) (m:Int):List (List Rat):=(ds.zip st).map fun p=>rowR (whereI p.1.1 m) p.2
noncomputable def wsumR (ds:Lq) (rs:List Rat):Rat:=((ds.zip rs).map fun p=>(p.1.2:Rat)*p.2).sum
noncomputable def sumsR (ds:Lq) (rows:List (List Rat)) (h:Nat):List Rat:=(List.range (h+1)).map fun j=>wsumR ds (rows.map fun r=>r.getD j 0)
noncomputable def sharesR (ds:Lq) (st:List Sr) (m:Int) (hd:Nat):List Rat:=(ds.zip st).map fun p=>shareR p.1.1 m hd p.2.1
noncomputable def nextR (ds:Lq) (st:List Sr) (m:Int) (hd:Nat) (q:Int):List Sr:=(st.zip (sharesR ds st m hd)).map fun p=>keepR hd p.2 (partR (wsumR ds (sharesR ds st m hd)) q) p.1
noncomputable def behindR (ds:Lq) (st:List Sr) (m:Int) (q:Int):Dd->List Sr
 | .seat hd=>nextR ds st m hd q
 | _=>st
noncomputable def startR (n h:Nat):List Sr:=List.replicate n (1,List.replicate h 0)
noncomputable def nsumQ (ds:Lq):Int:=(ds.map (·.2)).sum
theorem lt_pr (r s:Rat):((pr r).1*(pr s).2 < (pr s).1*(pr r).2)↔r < s:=by
 unfold pr
 exact (Rat.lt_iff r s).symm
theorem le1_pr {r:Rat} (h:r<=1):(pr r).1<=(pr r).2:=by
 have:=(Rat.le_iff r 1).mp h
 show r.num<=(r.den:Int)
 have e1:(1:Rat).num=1:=rfl
 have e2:(1:Rat).den=1:=rfl
 rw [e1,e2] at this
 simpa using this
theorem pr_q (q:Int):pr (q:Rat)=(q,1):=rfl
theorem pr_zero:pr 0=(0,1):=rfl
theorem pr_one:pr 1=(1,1):=rfl
theorem part_is {t:Rat} {q:Int} (t0:0<=t) (q1:1<=q):partD (pr t) q=pr (partR t q):=by
 unfold partD partR
 have key:(q*(pr t).2 < (pr t).1*1)↔(q:Rat) < t:=lt_pr (q:Rat) t
 by_cases c:(q:Rat) < t
 ·rw [if_pos c,if_pos (key.mpr c)]
  have b0:=pr_b0 t
  have k:=key.mpr c
  have qb:0 < q*(pr t).2:=Int.mul_pos (by omega) b0
  rw [low_is (by omega) (by omega)]
  congr 1
  have hr:=vq_pr t
  have hb:=vq_ne b0
  have hq:((pr t).1:Rat)≠0:=by
   intro z
   have:=Rat.intCast_inj.mp (show (((pr t).1:Int):Rat)=((0:Int):Rat) from z)
   omega
  unfold vq at hr
  rw [Rat.intCast_mul,Rat.intCast_mul,show ((1:Int):Rat)=1 from rfl]
  grind
 ·rw [if_neg c,if_neg (fun z=>c (key.mp z)),pr_one]
theorem given_is {s p:Rat} (s0:0<=s) (p0:0<=p):givenD (pr s) (pr p)=pr (s*p):=by
 unfold givenD
 rw [low_is (Int.mul_nonneg (pr_t0 s0) (pr_t0 p0)) (Int.mul_pos (pr_b0 s) (pr_b0 p))]
 congr 1
 have h1:=vq_pr s
 have h2:=vq_pr p
 have b1:=vq_ne (pr_b0 s)
 have b2:=vq_ne (pr_b0 p)
 unfold vq at h1 h2
 rw [Rat.intCast_mul,Rat.intCast_mul]
 grind
theorem rest_pr {f g:Rat} (h:g<=f):restD (pr f) (pr g)=pr (f - g):=by
 unfold restD
 have le:=(Rat.le_iff g f).mp h
 have le':(pr g).1*(pr f).2<=(pr f).1*(pr g).2:=le
 rw [low_is (by omega) (Int.mul_pos (pr_b0 f) (pr_b0 g))]
 congr 1
 have h1:=vq_pr f
 have h2:=vq_pr g
 have b1:=vq_ne (pr_b0 f)
 have b2:=vq_ne (pr_b0 g)
 unfold vq at h1 h2
 rw [Rat.intCast_sub,Rat.intCast_mul,Rat.intCast_mul,Rat.intCast_mul]
 grind
theorem share_is {ts:List Int} {s:Int} {hd:Nat} {r:Rat} (r0:0<=r) (hd12:hd < 12):shareD ts s hd (pr r)=pr (shareR ts s hd r):=by
 unfold shareD shareR
 by_cases c:bit (lieI ts s) hd=true
 ·rw [if_pos c,if_pos c]
  exact even_is r0 (List.length_pos_of_mem (hands_mem.mpr ⟨hd,hd12,c,rfl⟩:((hd:Nat):Int)∈whereI ts s))
 ·rw [if_neg c,if_neg c,pr_zero]
theorem div_nn {r:Rat} {n:Nat} (r0:0<=r) (n1:1<=n):0<=r / (n:Rat)/\r / (n:Rat)<=r:=by
 have hn:(1:Rat)<=(n:Rat):=by
  have:=Rat.natCast_le_natCast.mpr n1
  exact this
 constructor
 ·rw [Rat.div_def]
  exact Rat.mul_nonneg r0 (Rat.le_of_lt (Rat.inv_pos.mpr (by grind)))
 ·rcases (Rat.le_total:r / (n:Rat)<=r\/r<=r / (n:Rat)) with h | h
  ·exact h
  ·have e:r / (n:Rat)*(n:Rat)=r:=Rat.div_mul_cancel (q0_ne n1)
   have k:=Rat.mul_le_mul_of_nonneg_right hn (show 0<=r / (n:Rat) by grind)
   grind
theorem share_nn {ts:List Int} {s:Int} {hd:Nat} {r:Rat} (r0:0<=r) (hd12:hd < 12):0<=shareR ts s hd r/\shareR ts s hd r<=r:=by
 unfold shareR
 split
 ·rename_i c
  exact div_nn r0 (List.length_pos_of_mem (hands_mem.mpr ⟨hd,hd12,c,rfl⟩:((hd:Nat):Int)∈whereI ts s))
 ·exact ⟨Rat.le_refl,r0⟩
theorem part_nn {t:Rat} {q:Int} (q1:1<=q):0<=partR t q/\partR t q<=1:=by
 have hq:(1:Rat)<=(q:Rat):=by
  have:=Rat.intCast_le_intCast.mpr q1
  exact this
 unfold partR
 split
 ·rename_i c
  have t0:(0:Rat) < t:=by grind
  have e:(q:Rat) / t*t=(q:Rat):=Rat.div_mul_cancel (by grind)
  constructor
  ·rw [Rat.div_def]
   exact Rat.mul_nonneg (by grind) (Rat.le_of_lt (Rat.inv_pos.mpr t0))
  ·rcases (Rat.le_total:(q:Rat) / t<=1\/1<=(q:Rat) / t) with h | h
   ·exact h
   ·have k:=Rat.mul_le_mul_of_nonneg_right h (Rat.le_of_lt t0)
    grind
 ·exact ⟨by decide,Rat.le_refl⟩
theorem mul_le1 {s p:Rat} (s0:0<=s) (p1:p<=1) (p0:0<=p):0<=s*p/\s*p<=s:=by
 refine ⟨Rat.mul_nonneg s0 p0,?_⟩
 have:=Rat.mul_le_mul_of_nonneg_left p1 s0
 grind
theorem kept_is {x:Sr} {sh p:Rat} {hd:Nat} (s0:0<=sh) (sx:sh<=x.1) (p0:0<=p) (p1:p<=1):keptV hd (pr sh) (pr p) (encS x)=encS (keepR hd sh p x):=by
 have m:=mul_le1 s0 p1 p0
 unfold keptV encS keepR
 rw [given_is s0 p0]
 show (restD (pr x.1) (pr (sh*p)),(x.2.map pr).set hd (pr (sh*p)))=(pr (x.1 - sh*p),(x.2.set hd (sh*p)).map pr)
 rw [rest_pr (by grind),List.map_set]
theorem row_is {wh:List Int} {x:Sr} (x0:0<=x.1):rowD wh (pr x.1) (x.2.map pr)=(rowR wh x).map pr:=by
 unfold rowD rowR
 by_cases c:wh=[]
 ·rw [if_pos c,if_pos c,List.map_append]
  rfl
 ·rw [if_neg c,if_neg c]
  have n1:1<=wh.length:=List.length_pos_iff.mpr c
  rw [even_is x0 n1]
  have:∀(ys:List Int) (l:List Rat) (z:Rat),(ys.foldl (fun r y=>r.set y.toNat z) l).map pr=ys.foldl (fun r y=>r.set y.toNat (pr z)) (l.map pr):=by
   intro ys
   induction ys with
   | nil=>intro l z;rfl
   | cons y ys ih =>
     intro l z
     rw [List.foldl_cons,List.foldl_cons,ih,List.map_set]
  rw [this,List.map_append]
  rfl
theorem wsum_is (D:Int):∀{ls:Ls} {fs:List Fq} {rs:List Rat},fs.map (·.2)=rs.map pr->(∀z∈wzOf ls fs,z.2.1≠0->z.2.2 ∣ D)->((wsum (fun b=>D.fdiv b) (wzOf ls fs):Int):Rat)=(D:Rat)*wsumR (dsOf ls) rs
 | [],fs,rs,_,_=>by
   show ((0:Int):Rat)=(D:Rat)*0
   rw [Rat.mul_zero]
   rfl
 | q :: r,fs,rs,e,hd=>by
   cases fs with
   | nil =>
     cases rs with
     | nil =>
       show ((0:Int):Rat)=(D:Rat)*0
       rw [Rat.mul_zero]
       rfl
     | cons a b=>cases e
   | cons f fs =>
     cases rs with
     | nil=>cases e
     | cons a b =>
       rw [List.map_cons,List.map_cons] at e
       injection e with e1 e2
       have ih:=wsum_is D (ls:=r) (fs:=fs) (rs:=b) e2 (fun z m=>hd z (List.mem_cons_of_mem _ m))
       show (((if f.2.1=0 then 0 else q.2.2.2*f.2.1*D.fdiv f.2.2)+wsum (fun b=>D.fdiv b) (wzOf r fs):Int):Rat)=(D:Rat)*((q.2.2.2:Rat)*a+wsumR (dsOf r) b)
       rw [Rat.intCast_add,ih]
       have va:=vq_pr a
       have vb:=vq_ne (pr_b0 a)
       unfold vq at va
       have f1:f.2.1=(pr a).1:=congrArg Prod.fst e1
       have f2:f.2.2=(pr a).2:=congrArg Prod.snd e1
       have b0:=pr_b0 a
       by_cases c:f.2.1=0
       ·rw [if_pos c]
        rw [<- f1,c] at va
        have:a=0:=by
         rw [<- va,Rat.div_def,show ((0:Int):Rat)=0 from rfl,Rat.zero_mul]
        rw [this,show ((0:Int):Rat)=0 from rfl]
        grind
       ·rw [if_neg c]
        obtain ⟨k,hk⟩:=hd (q.2.2.2,f.2.1,f.2.2) (List.mem_cons_self ..) c
        have hk':D=f.2.2*k:=hk
        have de:D.fdiv f.2.2=k:=by
         rw [Int.fdiv_eq_ediv_of_nonneg D (by omega),hk']
         exact Int.mul_ediv_cancel_left _ (by omega)
        rw [de,hk',Rat.intCast_mul,Rat.intCast_mul,Rat.intCast_mul,f1,f2]
        grind
theorem wsumR_nn:∀{ds:Lq} {rs:List Rat},(∀q∈ds,0<=q.2)->(∀r∈rs,0<=r)->0<=wsumR ds rs
 | [],rs,_,_=>Rat.le_refl
 | q :: d,[],_,_=>Rat.le_refl
 | q :: d,r :: rs,h,k=>by
   have ih:=wsumR_nn (ds:=d) (rs:=rs) (fun x m=>h x (List.mem_cons_of_mem _ m)) (fun x m=>k x (List.mem_cons_of_mem _ m))
   show 0<=(q.2:Rat)*r+wsumR d rs
   have:=Rat.mul_nonneg (Rat.intCast_nonneg.mpr (h q (List.mem_cons_self ..))) (k r (List.mem_cons_self ..))
   grind
theorem wm_is {M:Int} {ls:Ls} {fs:List Fq} {rs:List Rat} {v:Int × Int} (w:WM M ls fs v) (e:fs.map (·.2)=rs.map pr) (hn:∀q∈dsOf ls,0<=q.2) (hr:∀r∈rs,0<=r):v=pr (wsumR (dsOf ls) rs):=by
 obtain ⟨⟨D,D0,Dd,ev⟩,_⟩:=w
 have k:=wsum_is D e Dd
 have nn:=wsumR_nn hn hr
 have d0:(0:Rat) < (D:Rat):=by
  have:=Rat.intCast_lt_intCast.mpr D0
  exact this
 have S0:0<=wsum (fun b=>D.fdiv b) (wzOf ls fs):=by
  apply Rat.intCast_nonneg.mp
  rw [k]
  exact Rat.mul_nonneg (Rat.le_of_lt d0) nn
 rw [ev,low_is S0 D0,k]
 congr 1
 grind
theorem tab_is {s:Int} {ls:Ls} {xs:List Sh} {st:List Sr} (e:xs.map shV=st.map encS) (h0:∀x∈st,0<=x.1):tabD s ls xs=(rowsR (dsOf ls) st s).map fun r=>r.map pr:=by
 rw [tab_vals,e]
 unfold rowsR dsOf
 rw [List.zip_map_left,List.map_map,List.map_map]
 have:ls.zip (st.map encS)=(ls.zip st).map (Prod.map id encS):=by rw [List.zip_map_right]
 rw [this,List.map_map]
 refine List.map_congr_left fun p m=>?_
 obtain ⟨_,b⟩:=List.of_mem_zip m
 exact row_is (h0 _ b)
theorem shares_is {s:Int} {hd:Nat} {ls:Ls} {xs:List Sh} {st:List Sr} (hd12:hd < 12) (e:xs.map shV=st.map encS) (h0:∀x∈st,0<=x.1):sharesD ls xs s hd=(sharesR (dsOf ls) st s hd).map pr:=by
 have k:sharesD ls xs s hd=(ls.zip (xs.map shV)).map fun p=>shareD p.1.2.2.1 s hd p.2.1:=by
  unfold sharesD
  rw [List.zip_map_right,List.map_map]
  rfl
 rw [k,e]
 unfold sharesR dsOf
 rw [List.zip_map_left,List.map_map,List.map_map]
 have:ls.zip (st.map encS)=(ls.zip st).map (Prod.map id encS):=by rw [List.zip_map_right]
 rw [this,List.map_map]
 refine List.map_congr_left fun p m=>?_
 obtain ⟨_,b⟩:=List.of_mem_zip m
 exact share_is (h0 _ b) hd12
theorem next_is {s q:Int} {hd:Nat} {ls:Ls} {xs:List Sh} {st:List Sr} (hd12:hd < 12) (q1:1<=q) (e:xs.map shV=st.map encS) (h0:∀x∈st,0<=x.1) (hn:∀q∈dsOf ls,0<=q.2):(xs.zip (sharesD ls xs s hd)).map (fun p=>keptV hd p.2 (partD (pr (wsumR (dsOf ls) (sharesR (dsOf ls) st s hd))) q) (shV p.1))=(nextR (dsOf ls) st s hd q).map encS:=by
 rw [shares_is hd12 e h0]
 have k:∀(ss:List Rat) (f:Int × Int->Vs->Vs),(xs.zip (ss.map pr)).map (fun p=>f p.2 (shV p.1))=(st.zip ss).map fun p=>f (pr p.2) (encS p.1):=fun ss f=>by
  have:(xs.zip (ss.map pr)).map (fun p=>f p.2 (shV p.1))=((xs.map shV).zip (ss.map pr)).map fun p=>f p.2 p.1:=by
   rw [List.zip_map_left,List.map_map]
   rfl
  rw [this,e,List.zip_map,List.map_map]
  rfl
 have sn:∀r∈sharesR (dsOf ls) st s hd,0<=r:=fun r m=>by
  obtain ⟨p,pm,rfl⟩:=List.mem_map.mp m
  exact (share_nn (h0 _ (List.of_mem_zip pm).2) hd12).1
 rw [k _ fun a b=>keptV hd a (partD (pr (wsumR (dsOf ls) (sharesR (dsOf ls) st s hd))) q) b,part_is (wsumR_nn hn sn) q1]
 unfold nextR
 rw [List.map_map]
 have pn:=part_nn (t:=wsumR (dsOf ls) (sharesR (dsOf ls) st s hd)) q1
 generalize partR (wsumR (dsOf ls) (sharesR (dsOf ls) st s hd)) q=part at pn ⊢
 refine List.map_congr_left fun p m=>?_
 obtain ⟨i,hi⟩:=List.mem_iff_getElem?.mp m
 obtain ⟨p1,p2⟩:=List.getElem?_zip_eq_some.mp hi
 unfold sharesR at p2
 rw [List.getElem?_map] at p2
 obtain ⟨z,hz,ez⟩:=Option.map_eq_some_iff.mp p2
 obtain ⟨z1,z2⟩:=List.getElem?_zip_eq_some.mp hz
 have zx:z.2=p.1:=Option.some.inj (z2.symm.trans p1)
 have sh:=share_nn (ts:=z.1.1) (s:=s) (h0 _ (List.mem_of_getElem? z2)) hd12
 rw [ez,zx] at sh
 exact kept_is sh.1 sh.2 pn.1 pn.2
structure StI (M:Int) (h:Nat) (st:List Sr):Prop where
 free:∀x∈st,0<=x.1/\x.1<=1/\IntM M x.1
 kept:∀x∈st,∀k∈x.2,0<=k/\k<=1/\IntM M k
 len:∀x∈st,x.2.length=h
theorem share_int {M:Int} {ts:List Int} {s:Int} {hd:Nat} {r:Rat} (i:IntM M r) (hd12:hd < 12):IntM (M*27720) (shareR ts s hd r):=by
 unfold shareR
 split
 ·rename_i c
  have n1:=List.length_pos_of_mem (hands_mem.mpr ⟨hd,hd12,c,rfl⟩:((hd:Nat):Int)∈whereI ts s)
  obtain ⟨k,e⟩:=n_27720 n1 (hands_len ..)
  rw [e]
  exact i.div n1
 ·exact IntM.zero _
theorem wsumR_int {M:Int}:∀{ds:Lq} {rs:List Rat},(∀r∈rs,IntM M r)->IntM M (wsumR ds rs)
 | [],rs,_=>IntM.zero _
 | q :: d,[],_=>IntM.zero _
 | q :: d,r :: rs,k=>IntM.add (IntM.times q.2 (k r (List.mem_cons_self ..))) (wsumR_int (ds:=d) (rs:=rs) fun x m=>k x (List.mem_cons_of_mem _ m))
theorem StI.next {M c:Int} {h hd:Nat} {st:List Sr} {ds:Lq} {s q:Int} (i:StI M h st) (hd12:hd < 12) (q1:1<=q) (hc:(q:Rat) < wsumR ds (sharesR ds st s hd)->c=(pr (wsumR ds (sharesR ds st s hd))).1):StI (M*27720*c) h (nextR ds st s hd q):=by
 have hq:(1:Rat)<=(q:Rat):=Rat.intCast_le_intCast.mpr q1
 generalize hT:wsumR ds (sharesR ds st s hd)=T at hc
 have pn:=part_nn (t:=T) q1
 have key:∀p∈st.zip (sharesR ds st s hd),p.1∈st/\0<=p.2/\p.2<=p.1.1/\IntM (M*27720) p.2:=fun p m=>by
  obtain ⟨j,hj⟩:=List.mem_iff_getElem?.mp m
  obtain ⟨p1,p2⟩:=List.getElem?_zip_eq_some.mp hj
  unfold sharesR at p2
  rw [List.getElem?_map] at p2
  obtain ⟨z,hz,ez⟩:=Option.map_eq_some_iff.mp p2
  obtain ⟨z1,z2⟩:=List.getElem?_zip_eq_some.mp hz
  have zx:z.2=p.1:=Option.some.inj (z2.symm.trans p1)
  have zm:=List.mem_of_getElem? p1
  obtain ⟨f0,f1,f2⟩:=i.free _ zm
  rw [<- ez,zx]
  exact ⟨zm,(share_nn f0 hd12).1,(share_nn f0 hd12).2,share_int f2 hd12⟩
 have giv:∀sh:Rat,IntM (M*27720) sh->IntM (M*27720*c) (sh*partR T q):=fun sh hs=>by
  unfold partR
  split
  ·rename_i cc
   rw [hc cc]
   obtain ⟨k,e⟩:=hs
   refine ⟨k*q*(pr T).2,?_⟩
   have hr:=vq_pr T
   have hb:=vq_ne (pr_b0 T)
   unfold vq at hr
   have hT0:T≠0:=by grind
   rw [Rat.intCast_mul,Rat.intCast_mul,Rat.intCast_mul]
   grind
  ·rw [Rat.mul_one]
   exact hs.more _
 have part:=pn
 generalize hP:partR T q=P at part giv
 have nx:nextR ds st s hd q=(st.zip (sharesR ds st s hd)).map fun p=>keepR hd p.2 P p.1:=by
  unfold nextR
  rw [hT,hP]
 rw [nx]
 have m2:∀r,IntM M r->IntM (M*27720*c) r:=fun r hr=>(hr.more _).more _
 refine ⟨fun x m=>?_,fun x m k km=>?_,fun x m=>?_⟩
 ·obtain ⟨p,pm,rfl⟩:=List.mem_map.mp m
  obtain ⟨a,b,c,d⟩:=key p pm
  obtain ⟨f0,f1,f2⟩:=i.free _ a
  have ml:=mul_le1 b part.2 part.1
  unfold keepR
  refine ⟨by show 0<=p.1.1 - p.2*P;grind,by show p.1.1 - p.2*P<=1;grind,IntM.sub (m2 _ f2) (giv _ d)⟩
 ·obtain ⟨p,pm,rfl⟩:=List.mem_map.mp m
  obtain ⟨a,b,c,d⟩:=key p pm
  obtain ⟨f0,f1,f2⟩:=i.free _ a
  have ml:=mul_le1 b part.2 part.1
  rcases List.mem_or_eq_of_mem_set (show k∈p.1.2.set hd (p.2*P) from km) with km | rfl
  ·obtain ⟨k0,k1,k2⟩:=i.kept _ a _ km
   exact ⟨k0,k1,m2 _ k2⟩
  ·exact ⟨ml.1,by grind,giv _ d⟩
 ·obtain ⟨p,pm,rfl⟩:=List.mem_map.mp m
  show (p.1.2.set hd (p.2*P)).length=h
  rw [List.length_set]
  exact i.len _ (key p pm).1
theorem fqm_pr {M:Int} {r:Rat} (h0:0<=r) (h1:r<=1) (i:IntM M r):FqM M (pr r):=⟨pr_t0 h0,pr_b0 r,le1_pr h1,i.dvd⟩
theorem foldl_mem {α:Type} {z:α}:∀{ys:List Int} {l:List α} {x:α},x∈ys.foldl (fun r y=>r.set y.toNat z) l->x∈l\/x=z
 | [],l,x,m=>.inl m
 | y :: ys,l,x,m=>by
   rw [List.foldl_cons] at m
   rcases foldl_mem m with m | m
   ·exact List.mem_or_eq_of_mem_set m
   ·exact .inr m
theorem rows_ok {M:Int} {h:Nat} {st:List Sr} {ds:Lq} {s:Int} (i:StI M h st):∀r∈rowsR ds st s,r.length=h+1/\∀z∈r,0<=z/\z<=1/\IntM (M*27720) z:=fun r m=>by
 obtain ⟨p,pm,rfl⟩:=List.mem_map.mp m
 have xm:=(List.of_mem_zip pm).2
 obtain ⟨f0,f1,f2⟩:=i.free _ xm
 have n12:(whereI p.1.1 s).length<=12:=hands_len ..
 unfold rowR
 split
 ·refine ⟨by rw [List.length_append,i.len _ xm];rfl,fun z zm=>?_⟩
  rcases List.mem_append.mp zm with zm | zm
  ·obtain ⟨a,b,c⟩:=i.kept _ xm _ zm
   exact ⟨a,b,c.more _⟩
  ·rw [List.mem_singleton.mp zm]
   exact ⟨f0,f1,f2.more _⟩
 ·rename_i c
  have n1:1<=(whereI p.1.1 s).length:=List.length_pos_iff.mpr c
  refine ⟨by rw [foldl_len,List.length_append,i.len _ xm];rfl,fun z zm=>?_⟩
  rcases foldl_mem zm with zm | rfl
  ·rcases List.mem_append.mp zm with zm | zm
   ·obtain ⟨a,b,c⟩:=i.kept _ xm _ zm
    exact ⟨a,b,c.more _⟩
   ·rw [List.mem_singleton.mp zm]
    exact ⟨Rat.le_refl,by decide,IntM.zero _⟩
  ·obtain ⟨a,b⟩:=div_nn f0 n1
   obtain ⟨k,e⟩:=n_27720 n1 n12
   exact ⟨a,by grind,by rw [e];exact f2.div n1⟩
theorem start_ok (n h:Nat):StI 1 h (startR n h):=by
 refine ⟨fun x m=>?_,fun x m k km=>?_,fun x m=>?_⟩
 ·rw [List.eq_of_mem_replicate m]
  exact ⟨(by decide:(0:Rat)<=1),Rat.le_refl,IntM.one _⟩
 ·rw [List.eq_of_mem_replicate m] at km
  rw [List.eq_of_mem_replicate km]
  exact ⟨Rat.le_refl,by decide,IntM.zero _⟩
 ·rw [List.eq_of_mem_replicate m]
  exact List.length_replicate ..
noncomputable def mB:Nat->Nat
 | 0=>1
 | k+1=>2*mB k+70
theorem mB_le:∀{k:Nat},k<=5->mB k<=2210:=fun {k} h=>by
 rcases (by omega:k=0\/k=1\/k=2\/k=3\/k=4\/k=5) with rfl | rfl | rfl | rfl | rfl | rfl <;> decide
theorem mB_le6:∀{k:Nat},k<=6->mB k<=4480:=fun {k} h=>by
 rcases (by omega:k<=5\/k=6) with h | rfl
 ·exact Nat.le_trans (mB_le h) (by decide)
 ·decide
theorem wsumR_le:∀{ds:Lq} {rs:List Rat},(∀q∈ds,0<=q.2)->(∀r∈rs,0<=r/\r<=1)->wsumR ds rs<=((nsumQ ds:Int):Rat)
 | [],rs,_,_=>Rat.le_refl
 | q :: d,[],h,_=>by
   show (0:Rat)<=((q.2+nsumQ d:Int):Rat)
   have ih:=wsumR_le (ds:=d) (rs:=[]) (fun x m=>h x (List.mem_cons_of_mem _ m)) (fun _ m=>absurd m List.not_mem_nil)
   have e:wsumR d []=0:=by unfold wsumR;rw [List.zip_nil_right];rfl
   rw [e] at ih
   have k:(0:Rat)<=(q.2:Rat):=Rat.intCast_nonneg.mpr (h q (List.mem_cons_self ..))
   rw [Rat.intCast_add]
   grind
 | q :: d,r :: rs,h,k=>by
   have ih:=wsumR_le (ds:=d) (rs:=rs) (fun x m=>h x (List.mem_cons_of_mem _ m)) (fun x m=>k x (List.mem_cons_of_mem _ m))
   show (q.2:Rat)*r+wsumR d rs<=((q.2+nsumQ d:Int):Rat)
   have n0:(0:Rat)<=(q.2:Rat):=Rat.intCast_nonneg.mpr (h q (List.mem_cons_self ..))
   have:=Rat.mul_le_mul_of_nonneg_left (k r (List.mem_cons_self ..)).2 n0
   rw [Rat.intCast_add]
   grind
theorem num_le {t:Rat} {n:Int} (h:t<=(n:Rat)):(pr t).1<=n*(pr t).2:=by
 have:=(Rat.le_iff t (n:Rat)).mp h
 have e1:((n:Int):Rat).num=n:=rfl
 have e2:((n:Int):Rat).den=1:=rfl
 rw [e1,e2] at this
 show t.num<=n*(t.den:Int)
 simpa using this
theorem StI.step {M:Int} {h hd k:Nat} {st:List Sr} {ds:Lq} {s q:Int} (i:StI M h st) (M0:0 < M) (Mz:Sz (mB k) M) (hd12:hd < 12) (q1:1<=q) (hn:∀p∈ds,0<=p.2) (N:nsumQ ds < 2 ^ 40):∃M',0 < M'/\Sz (mB (k+1)) M'/\StI M' h (nextR ds st s hd q):=by
 have hq:(1:Rat)<=(q:Rat):=Rat.intCast_le_intCast.mpr q1
 have sh:∀r∈sharesR ds st s hd,0<=r/\r<=1/\IntM (M*27720) r:=fun r m=>by
  obtain ⟨p,pm,rfl⟩:=List.mem_map.mp m
  obtain ⟨f0,f1,f2⟩:=i.free _ (List.of_mem_zip pm).2
  have:=share_nn (ts:=p.1.1) (s:=s) f0 hd12
  exact ⟨this.1,by grind,share_int f2 hd12⟩
 have le:=wsumR_le hn (fun r m=>⟨(sh r m).1,(sh r m).2.1⟩)
 have iT:IntM (M*27720) (wsumR ds (sharesR ds st s hd)):=wsumR_int fun r m=>(sh r m).2.2
 have nx:=fun c hc=>StI.next (c:=c) (hd:=hd) (ds:=ds) (s:=s) (q:=q) i hd12 q1 hc
 generalize wsumR ds (sharesR ds st s hd)=T at le iT nx
 have Mz1:Sz (mB k+15) (M*27720):=Mz.mul (sz_of (by decide) (by decide):Sz 15 (27720:Int))
 have M1:0 < M*27720:=by omega
 by_cases c:(q:Rat) < T
 ·have t0:(0:Rat) < T:=by grind
  have n0:0 < (pr T).1:=by
   have z:=(Rat.lt_iff 0 T).mp t0
   have e1:(0:Rat).num=0:=rfl
   have e2:(0:Rat).den=1:=rfl
   rw [e1,e2] at z
   show 0 < T.num
   simpa using z
  refine ⟨M*27720*(pr T).1,Int.mul_pos M1 n0,?_,nx _ fun _=>rfl⟩
  have nl:=num_le le
  have bz:Sz (mB k+15) (pr T).2:=dvd_sz iT.dvd M1 Mz1
  have tz:Sz (40+(mB k+15)) (pr T).1:=by
   have b0:=pr_b0 T
   have n00:0<=nsumQ ds:=by
    rcases (by omega:0<=nsumQ ds\/nsumQ ds < 0) with z | z
    ·exact z
    ·have:=Int.mul_neg_of_neg_of_pos z b0
     omega
   have nz:Sz 40 (nsumQ ds):=sz_of (by omega) (by exact_mod_cast N)
   have:=nz.mul bz
   unfold Sz at *
   generalize 2 ^ (40+(mB k+15))=X at *
   omega
  exact (Mz1.mul tz).mono (by show _<=2*mB k+70;omega)
 ·refine ⟨M*27720*1,by omega,?_,nx 1 fun z=>absurd z c⟩
  rw [Int.mul_one]
  exact Mz1.mono (by show _<=2*mB k+70;omega)
theorem less_len {m:Int} (m0:0<=m) {hd:Nat} (b:bit m hd=true) (hd12:hd < 12):0<=m - 2 ^ hd/\(∀j,bit (m - 2 ^ hd) j=(bit m j && decide (j≠hd)))/\(hands 12 (bit (m - 2 ^ hd))).length < (hands 12 (bit m)).length:=by
 have k:=fun j=>bit_less m0 hd j
 rw [if_pos b,Int.mul_one] at k
 refine ⟨(k 0).1,fun j=>(k j).2,?_⟩
 have sub:∀n,(hands n (bit (m - 2 ^ hd))).length+(if hd < n then 1 else 0)=(hands n (bit m)).length:=by
  intro n
  induction n with
  | zero=>rfl
  | succ n ih =>
    rw [hands_succ,hands_succ,(k n).2]
    by_cases e:n=hd
    ·subst e
     rw [b,decide_eq_false (fun z=>z rfl),if_pos (show n < n+1 by omega)]
     rw [if_neg (by omega)] at ih
     rw [if_neg (by decide),if_pos rfl,List.length_append]
     show _=_+1
     omega
    ·rw [decide_eq_true e,Bool.and_true]
     have hl:(if hd < n+1 then 1 else 0)=(if hd < n then 1 else 0):=by
      by_cases c:hd < n
      ·rw [if_pos c,if_pos (by omega)]
      ·rw [if_neg c,if_neg (by omega)]
     rw [hl]
     split
     ·rw [List.length_append,List.length_append];omega
     ·exact ih
 have:=sub 12
 rw [if_pos hd12] at this
 omega
theorem sums_ok {M:Int} {h:Nat} {st:List Sr} {ds:Lq} {m:Int} (si:StI M h st) (M0:0 < M) (Mz:Sz 4480 M) (hn:∀p∈ds,0<=p.2) (N:nsumQ ds < 2 ^ 40):∀v∈sumsR ds (rowsR ds st m) h,0<=v/\Sz 4700 (pr v).1/\Sz 4700 (pr v).2:=fun v k=>by
 obtain ⟨j,_,rfl⟩:=List.mem_map.mp k
 have col:∀r∈(rowsR ds st m).map fun r=>r.getD j 0,0<=r/\r<=1/\IntM (M*27720) r:=fun r k=>by
  obtain ⟨y,ym,rfl⟩:=List.mem_map.mp k
  obtain ⟨yl,yz⟩:=rows_ok (ds:=ds) (s:=m) si y ym
  rw [List.getD_eq_getElem?_getD]
  cases e:y[j]? with
  | none=>exact ⟨Rat.le_refl,by decide,IntM.zero _⟩
  | some z=>exact yz z (List.mem_of_getElem? e)
 have nn:=wsumR_nn hn (fun r k=>(col r k).1)
 have le:=wsumR_le hn (fun r k=>⟨(col r k).1,(col r k).2.1⟩)
 have iT:IntM (M*27720) (wsumR ds ((rowsR ds st m).map fun r=>r.getD j 0)):=wsumR_int fun r m=>(col r m).2.2
 generalize wsumR ds ((rowsR ds st m).map fun r=>r.getD j 0)=T at nn le iT ⊢
 have M1:0 < M*27720:=by omega
 have Mz1:Sz 4500 (M*27720):=(Mz.mul (sz_of (by decide) (by decide):Sz 15 (27720:Int))).mono (by decide)
 have bz:Sz 4500 (pr T).2:=dvd_sz iT.dvd M1 Mz1
 have nl:=num_le le
 have b0:=pr_b0 T
 have t0:=pr_t0 nn
 have n00:0<=nsumQ ds:=by
  rcases (by omega:0<=nsumQ ds\/nsumQ ds < 0) with z | z
  ·exact z
  ·have:=Int.mul_neg_of_neg_of_pos z b0
   omega
 have nz:Sz 40 (nsumQ ds):=sz_of (by omega) (by exact_mod_cast N)
 have tz:Sz (40+4500) (pr T).1:=by
  have:=nz.mul bz
  unfold Sz at *
  generalize 2 ^ (40+4500)=X at *
  omega
 exact ⟨nn,tz.mono (by decide),bz.mono (by decide)⟩
structure SuG (H:Hp) (l:Addr) (fs:List Fq) (su:List Rat):Prop where
 l:H l=some (.lst (fqv fs))
 g:∀f∈fs,FqG H f
 v:fs.map (·.2)=su.map pr
 z:∀r∈su,Sz 9000 (pr r).1/\Sz 9000 (pr r).2
noncomputable def spBehind22:Sp:=fun vs H Q _=>∃(l st dt:Addr) (h:Nat) (ls:Ls) (xs:List Sh) (rs:List Sr) (s q M:Int) (d:Dd),vs=[.ref l,.ref st,.int s,.ref dt,.int q]/\H dt=some (.tup [.str d.word,d.who])/\(∀hd,d=.seat hd->hd < h/\Sz 2210 M)/\H l=some (.lst (vls ls))/\GoodL H ls/\H st=some (.lst (shv xs))/\(∀x∈xs,ShG H x)/\xs.map shV=rs.map encS/\StI M h rs/\0 < M/\ls.length=xs.length/\ls.length<=60/\h<=12/\1<=q/\Sz 64 q/\(∀p∈ls,Lies h s p.2.2.1/\0<=p.2.2.2/\Sz 64 p.2.2.2) /\
 ∀(a:Addr) (ys:List Sh) (H':Hp),Same H H'->H' a=some (.lst (shv ys))->(∀y∈ys,ShG H' y/\(H y.2.2.1=none\/∃x∈xs,x.2.2.1=y.2.2.1))->(H a=none\/a=st)->ys.map shV=(behindR (dsOf ls) rs s q d).map encS->Q (.ref a) H'
theorem in_int {z:Int} {zs:List Int}:inV (V.int z) (zs.map V.int)=decide (z∈zs):=by
 unfold inV
 rw [List.any_map]
 by_cases c:z∈zs
 ·rw [decide_eq_true c]
  exact List.any_eq_true.mpr ⟨z,c,by simp [eqV]⟩
 ·rw [decide_eq_false c]
  refine Bool.eq_false_iff.mpr fun e=>c ?_
  obtain ⟨y,my,ey⟩:=List.any_eq_true.mp e
  have:y=z:=by simpa [eqV] using ey
  rw [<- this];exact my
noncomputable def ddD (w:Str) (x:PyData):PyData:=.tuple [.str w,x]
noncomputable def Dd.data:Dd->PyData
 | .seat h=>.int (h:Int)
 | .out h=>.int (h:Int)
 | .rest=>.none
 | .fin=>.none
theorem rep_dd {K:PySem.W.Frag} {H:Hp} {a:Addr} {d:Dd} (e:H a=some (.tup [.str d.word,d.who])):Rep K H (.ref a) (ddD d.word d.data):=by
 refine .tup (SqT.of e) (.cons (.str _) (.cons ?_ .nil))
 cases d
 ·exact .int _
 ·exact .int _
 ·exact .non
 ·exact .non
theorem shape_w {w:Str} {x:PyData} (h:PyData.strOk w=true) (hx:x.canLay0=true/\x.depth=0):SeqAt.shaped (ddD w x)=true:=by
 unfold SeqAt.shaped
 rw [Bool.and_eq_true]
 refine ⟨?_,decide_eq_true ?_⟩
 ·show (PyData.strOk w && (x.canLay0 && true))=true
  rw [h,hx.1]
  rfl
 ·show max 0 (max x.depth 0)+1<=64
  rw [hx.2]
  decide
theorem shape_dd (d:Dd):SeqAt.shaped (ddD d.word d.data)=true:=by
 cases d
 ·exact shape_w (w:="seat") (by decide +kernel) ⟨rfl,rfl⟩
 ·exact shape_w (w:="out") (by decide +kernel) ⟨rfl,rfl⟩
 ·exact shape_w (w:="rest") (by decide +kernel) ⟨rfl,rfl⟩
 ·exact shape_w (w:="end") (by decide +kernel) ⟨rfl,rfl⟩
theorem bit_nil (j:Nat):bit 0 j=false:=bit_high (Int.le_refl _) (Int.pow_pos (by decide))
theorem and_bit {h:Nat} {t s:Int} (t0:0<=t) (t1:t < 2 ^ h) {j:Nat} (hj:j < h):bit (Builtin.bitAnd t s) j=(bit t j && bit s j):=by
 rw [is_msum h t0 t1,and_msum,bit_msum,decide_eq_true hj,Bool.true_and,bit_msum,decide_eq_true hj,Bool.true_and]
noncomputable def sumF (ds:Lq) (f:List Int->Rat):Rat:=(ds.map fun p=>(p.2:Rat)*f p.1).sum
theorem zip_self {α β γ:Type} (g:α->β) (F:α × β->γ):∀l:List α,(l.zip (l.map g)).map F=l.map fun p=>F (p,g p)
 | []=>rfl
 | x :: l=>by
   show F (x,g x) :: (l.zip (l.map g)).map F=F (x,g x) :: l.map fun p=>F (p,g p)
   rw [zip_self g F l]
theorem wsum_f (ds:Lq) (f:List Int->Rat):wsumR ds (ds.map fun p=>f p.1)=sumF ds f:=by
 unfold wsumR sumF
 rw [zip_self (fun p:List Int × Int=>f p.1) (fun p:(List Int × Int) × Rat=>(p.1.2:Rat)*p.2)]
theorem sumF_congr {ds:Lq} {f g:List Int->Rat} (h:∀p∈ds,f p.1=g p.1):sumF ds f=sumF ds g:=by
 unfold sumF
 rw [List.map_congr_left fun p m=>by rw [h p m]]
noncomputable def stF (ds:Lq) (φ:List Int->Sr):List Sr:=ds.map fun p=>φ p.1
theorem rows_f (ds:Lq) (φ:List Int->Sr) (m:Int):rowsR ds (stF ds φ) m=ds.map fun p=>rowR (whereI p.1 m) (φ p.1):=by
 unfold rowsR stF
 rw [zip_self (fun p:List Int × Int=>φ p.1) (fun p:(List Int × Int) × Sr=>rowR (whereI p.1.1 m) p.2)]
theorem sums_f (ds:Lq) (φ:List Int->Sr) (m:Int) (h:Nat):sumsR ds (rowsR ds (stF ds φ) m) h=(List.range (h+1)).map fun j=>sumF ds fun ts=>(rowR (whereI ts m) (φ ts)).getD j 0:=by
 unfold sumsR
 refine List.map_congr_left fun j _=>?_
 rw [rows_f,List.map_map]
 exact wsum_f ds fun ts=>(rowR (whereI ts m) (φ ts)).getD j 0
noncomputable def nxF (ds:Lq) (φ:List Int->Sr) (m:Int) (hd:Nat) (q:Int) (ts:List Int):Sr:=keepR hd (shareR ts m hd (φ ts).1) (partR (sumF ds fun ts=>shareR ts m hd (φ ts).1) q) (φ ts)
theorem next_f (ds:Lq) (φ:List Int->Sr) (m:Int) (hd:Nat) (q:Int):nextR ds (stF ds φ) m hd q=stF ds (nxF ds φ m hd q):=by
 have e:sharesR ds (stF ds φ) m hd=ds.map fun p=>shareR p.1 m hd (φ p.1).1:=by
  unfold sharesR stF
  rw [zip_self (fun p:List Int × Int=>φ p.1) (fun p:(List Int × Int) × Sr=>shareR p.1.1 m hd p.2.1)]
 unfold nextR
 rw [e,wsum_f ds fun ts=>shareR ts m hd (φ ts).1]
 unfold stF nxF
 rw [List.zip_map',List.map_map]
 rfl
theorem start_f (ds:Lq) (h:Nat):startR ds.length h=stF ds fun _=>(1,List.replicate h 0):=by
 unfold startR stF
 induction ds with
 | nil=>rfl
 | cons p ds ih=>rw [List.length_cons,List.replicate_succ,List.map_cons,ih]
noncomputable def Okk (h:Nat) (ts:List Int):Prop:=∀t∈ts,0 < t/\t < 2 ^ h
theorem getD_set {l:List Rat} {i j:Nat} {x:Rat} (h:j < l.length):(l.set i x).getD j 0=if i=j then x else l.getD j 0:=by
 rw [List.getD_eq_getElem?_getD,List.getD_eq_getElem?_getD,List.getElem?_set]
 by_cases c:i=j
 ·rw [if_pos c,if_pos c,if_pos (by omega)]
  rfl
 ·rw [if_neg c,if_neg c]
theorem getD_app {l:List Rat} {j:Nat} {x:Rat}:(l++[x]).getD j 0=if j < l.length then l.getD j 0 else if j=l.length then x else 0:=by
 rw [List.getD_eq_getElem?_getD,List.getD_eq_getElem?_getD]
 by_cases c:j < l.length
 ·rw [if_pos c,List.getElem?_append_left c]
 ·rw [if_neg c,List.getElem?_append_right (by omega)]
  by_cases d:j=l.length
  ·rw [if_pos d,d,Nat.sub_self];rfl
  ·rw [if_neg d,List.getElem?_eq_none (by show 1<=_;omega)];rfl
theorem rowR_at {wh:List Int} {x:Sr} {h j:Nat} (l:x.2.length=h) (win:∀y∈wh,∃i:Nat,y=(i:Int)/\i < h) (hj:j < h+1):(rowR wh x).getD j 0=if wh=[] then (if j < h then x.2.getD j 0 else x.1) else if (j:Int)∈wh then x.1 / (wh.length:Rat) else if j < h then x.2.getD j 0 else 0:=by
 unfold rowR
 by_cases c:wh=[]
 ·rw [if_pos c,if_pos c,getD_app,l]
  by_cases d:j < h
  ·rw [if_pos d,if_pos d]
  ·rw [if_neg d,if_neg d,if_pos (by omega)]
 ·rw [if_neg c,if_neg c]
  have f:=fold_at (x.1 / (wh.length:Rat)) (fun _:Int=>true) (fun y=>y.toNat) wh (x.2++[0]) j
  have f':(wh.foldl (fun r y=>r.set y.toNat (x.1 / (wh.length:Rat))) (x.2++[0]))[j]?=_:=f
  rw [List.getD_eq_getElem?_getD,f']
  have ll:(x.2++[(0:Rat)]).length=h+1:=by rw [List.length_append,l];rfl
  by_cases d:(j:Int)∈wh
  ·rw [if_pos d,if_pos ⟨by rw [ll];exact hj,(j:Int),d,rfl,by omega⟩]
   rfl
  ·rw [if_neg d,if_neg (fun z=>by
    obtain ⟨_,y,ym,_,e⟩:=z
    obtain ⟨i,rfl,_⟩:=win y ym
    have:i=j:=by omega
    rw [this] at ym
    exact d ym),<- List.getD_eq_getElem?_getD,getD_app,l]
   by_cases g:j < h
   ·rw [if_pos g,if_pos g]
   ·rw [if_neg g,if_neg g,if_pos (by omega)]
section
variable {h:Nat} {π:Nat->Nat} {m m':Int} {φ φ':List Int->Sr}
end
section
variable {h:Nat} {π:Nat->Nat} {m m':Int}
end
theorem sum_permI {a b:List Int} (p:a.Perm b):a.sum=b.sum:=by
 induction p with
 | nil=>rfl
 | cons x _ ih=>rw [List.sum_cons,List.sum_cons,ih]
 | swap x y l=>rw [List.sum_cons,List.sum_cons,List.sum_cons,List.sum_cons];omega
 | trans _ _ i1 i2=>rw [i1,i2]
noncomputable def spLots71:Sp:=fun vs H Q _=>∃c h:Int,vs=[.int c,.int h]/\Sz 200 c/\1<=h/\h<=12/\∀(l:Addr) (ns:List Int) (H':Hp),Same H H'->H' l=some (.lst (ns.map V.int))->ns.Perm (ups h.toNat)->Q (.ref l) H'
theorem out_perm:∀{b:List Int} {k:Nat} {y:Int},b[k]?=some y->(y :: b.eraseIdx k).Perm b
 | x :: b,0,y,h=>by
   have:x=y:=Option.some.inj h
   rw [this]
   exact List.Perm.refl _
 | x :: b,k+1,y,h=>by
   show (y :: x :: b.eraseIdx k).Perm (x :: b)
   exact (List.Perm.swap x y _).trans ((out_perm (b:=b) (k:=k) h).cons x)
theorem erase_perm71 {a b c:List Int} {k:Nat} {y:Int} (h:b[k]?=some y) (p:(a++b).Perm c):(a++[y]++b.eraseIdx k).Perm c:=by
 rw [List.append_assoc]
 exact (List.Perm.append_left a (out_perm h)).trans p
theorem nsum_lt {most:Int}:∀{ds:Lq},(∀q∈ds,1<=q.2/\q.2<=64*most)->most<=10 ^ 9->0<=nsumQ ds/\nsumQ ds<=ds.length*(64*10 ^ 9)
 | [],_,_=>⟨Int.le_refl _,Int.le_refl _⟩
 | q :: d,h,m=>by
   have a:=h q (List.mem_cons_self ..)
   have b:=nsum_lt (ds:=d) (fun x k=>h x (List.mem_cons_of_mem _ k)) m
   show 0<=q.2+nsumQ d/\q.2+nsumQ d<=((d.length+1:Nat):Int)*(64*10 ^ 9)
   have e:((d.length+1:Nat):Int)*(64*10 ^ 9)=(d.length:Int)*(64*10 ^ 9)+64*10 ^ 9:=by rw [Int.natCast_add,Int.add_mul];rfl
   rw [e]
   omega
theorem lay_dd47 (d:Dd):Lay 3 (ddD d.word d.data):=by
 refine ⟨?_,?_⟩
 ·have h:=shape_dd d
  unfold SeqAt.shaped at h
  exact (Bool.and_eq_true_iff.mp h).1
 ·cases d <;> exact Nat.le_of_ble_eq_true rfl
noncomputable def cnt:Nat->(Nat->Bool)->Nat
 | 0,_=>0
 | n+1,f=>cnt n f+(if f n=true then 1 else 0)
noncomputable def sumB (g:Nat->Rat):Nat->(Nat->Bool)->Rat
 | 0,_=>0
 | n+1,f=>sumB g n f+(if f n=true then g n else 0)
theorem cnt_low:∀{n h:Nat} {f:Nat->Bool},h<=n->(∀j,h<=j->f j=false)->cnt n f=cnt h f
 | 0,h,_,le,_=>by rw [show h=0 by omega]
 | n+1,h,f,le,z=>by
   by_cases c:h=n+1
   ·rw [c]
   ·show cnt n f+_=_
    rw [cnt_low (n:=n) (by omega) z,z n (by omega)]
    rfl
theorem hands_cnt:∀(n:Nat) (f:Nat->Bool),(hands n f).length=cnt n f
 | 0,_=>rfl
 | n+1,f=>by
   have ih:=hands_cnt n f
   unfold hands at ih ⊢
   rw [List.range_succ,List.filter_append,List.map_append,List.length_append,ih]
   show _=cnt n f+_
   congr 1
   rw [List.filter_cons]
   cases f n <;> rfl
theorem nat_ne {n:Nat} (h:0 < n):(n:Rat)≠0:=by exact_mod_cast (show n≠0 by omega)
theorem sumF_add (ds:Lq) (f g:List Int->Rat):sumF ds (fun ts=>f ts+g ts)=sumF ds f+sumF ds g:=by
 unfold sumF
 induction ds with
 | nil=>show (0:Rat)=0+0;grind
 | cons p ds ih =>
   rw [List.map_cons,List.map_cons,List.map_cons,List.sum_cons,List.sum_cons,List.sum_cons,ih]
   grind
theorem sumF_mul (ds:Lq) (f:List Int->Rat) (c:Rat):sumF ds (fun ts=>f ts*c)=sumF ds f*c:=by
 unfold sumF
 induction ds with
 | nil=>show (0:Rat)=0*c;grind
 | cons p ds ih =>
   rw [List.map_cons,List.map_cons,List.sum_cons,List.sum_cons,ih]
   grind
theorem sumF_le {ds:Lq} {f g:List Int->Rat} (hn:∀p∈ds,0<=p.2) (h:∀p∈ds,f p.1<=g p.1):sumF ds f<=sumF ds g:=by
 unfold sumF
 induction ds with
 | nil=>show (0:Rat)<=0;grind
 | cons p ds ih =>
   rw [List.map_cons,List.map_cons,List.sum_cons,List.sum_cons]
   have a:=ih (fun x m=>hn x (List.mem_cons_of_mem _ m)) fun x m=>h x (List.mem_cons_of_mem _ m)
   have b:=h p (List.mem_cons_self ..)
   have c:(0:Rat)<=(p.2:Rat):=by exact_mod_cast hn p (List.mem_cons_self ..)
   have:=Rat.mul_le_mul_of_nonneg_left b c
   grind
theorem sumF_B (ds:Lq) (g:Nat->List Int->Rat):∀(n:Nat) (f:Nat->Bool),sumB (fun j=>sumF ds (g j)) n f=sumF ds fun ts=>sumB (fun j=>g j ts) n f
 | 0,_=>by
   show (0:Rat)=sumF ds fun _=>0
   unfold sumF
   induction ds with
   | nil=>rfl
   | cons p ds ih=>rw [List.map_cons,List.sum_cons,<- ih];grind
 | n+1,f=>by
   show sumB (fun j=>sumF ds (g j)) n f+(if f n=true then sumF ds (g n) else 0)=sumF ds fun ts=>sumB (fun j=>g j ts) n f+(if f n=true then g n ts else 0)
   rw [sumF_add,sumF_B ds g n f]
   congr 1
   by_cases c:f n=true
   ·rw [if_pos c];exact congrArg (sumF ds) (funext fun ts=>by rw [if_pos c])
   ·rw [if_neg c,show (fun ts=>if f n=true then g n ts else (0:Rat))=fun ts=>g n ts*0 from funext fun ts=>by rw [if_neg c];grind,sumF_mul]
    grind
theorem bit_in {h:Nat} {a:Int} (a0:0<=a) (a1:a < 2 ^ h) {j:Nat} (b:bit a j=true):j < h:=by
 rcases (by omega:j < h\/h<=j) with c | c
 ·exact c
 ·have:(2:Int) ^ h<=2 ^ j:=by
   have:=Nat.pow_le_pow_right (show 0 < 2 by decide) c
   exact_mod_cast this
  rw [bit_high a0 (by omega)] at b
  cases b
section
variable {ds:Lq} {h:Nat} {C m:Int} {φ:List Int->Sr} {q:Int}
theorem where_in (h12:h<=12) {ts:List Int} (ok:Okk h ts):(∀y∈whereI ts m,∃i:Nat,y=(i:Int)/\i < h)/\(∀j,j < h->(((j:Nat):Int)∈whereI ts m↔bit (lieI ts m) j=true))/\(whereI ts m).length=cnt h (bit (lieI ts m)):=by
 have li:=lie_in (s:=m) ok
 unfold whereI
 refine ⟨fun y k=>?_,fun j hj=>?_,?_⟩
 ·obtain ⟨i,_,b,e⟩:=hands_mem.mp k
  exact ⟨i,e,bit_in li.1 li.2 b⟩
 ·rw [hands_mem]
  constructor
  ·rintro ⟨i,_,b,e⟩
   rw [show j=i by omega]
   exact b
  ·intro b
   exact ⟨j,by omega,b,rfl⟩
 ·rw [hands_cnt]
  refine cnt_low h12 fun j hj=>?_
  cases c:bit (lieI ts m) j with
  | false=>rfl
  | true=>have:=bit_in li.1 li.2 c;omega
variable {N:Rat} {k sg a:Nat}
end
theorem one_sum:∀ds:Lq,(sumF ds fun _=>1)=(nsumQ ds:Rat)
 | []=>rfl
 | p :: ds=>by
   have ih:=one_sum ds
   unfold sumF nsumQ at ih ⊢
   rw [List.map_cons,List.map_cons,List.sum_cons,List.sum_cons,ih]
   have e:((p.2+(ds.map (·.2)).sum:Int):Rat)=(p.2:Rat)+(((ds.map (·.2)).sum:Int):Rat):=Rat.intCast_add ..
   rw [e]
   grind
theorem full_bit {h j:Nat} (hj:j < h):bit ((2:Int) ^ h - 1) j=true:=by
 have e:∀n:Nat,(2:Int) ^ n - 1=msum n fun _=>true:=fun n=>by
  induction n with
  | zero=>rfl
  | succ n ih =>
    rw [msum_succ,<- ih,if_pos rfl,Int.pow_succ]
    omega
 rw [e,bit_msum,decide_eq_true hj]
 rfl
theorem lie_bit {h:Nat} {m:Int}:∀{ts:List Int},Okk h ts->∀{j:Nat},bit (lieI ts m) j=true->bit m j=true
 | [],_,j,b=>by rw [show lieI [] m=0 from rfl,bit_nil] at b;cases b
 | t :: r,ok,j,b=>by
   have ht:=ok t (List.mem_cons_self ..)
   unfold lieI at b
   by_cases c:Builtin.bitAnd t m=0
   ·rw [if_pos c] at b
    exact lie_bit (ts:=r) (fun x k=>ok x (List.mem_cons_of_mem _ k)) b
   ·rw [if_neg c] at b
    have a:=and_in (s:=m) (Int.le_of_lt ht.1) ht.2
    have hj:=bit_in a.1 a.2 b
    rw [and_bit (Int.le_of_lt ht.1) ht.2 hj] at b
    exact (Bool.and_eq_true_iff.mp b).2
theorem sum_snoc:∀(l:List Rat) (x:Rat),(l++[x]).sum=l.sum+x
 | [],x=>by show x+0=0+x;grind
 | y :: l,x=>by rw [List.cons_append,List.sum_cons,List.sum_cons,sum_snoc l x];grind
theorem sum_range (g:Nat->Rat):∀n,((List.range n).map g).sum=sumB g n fun _=>true
 | 0=>rfl
 | n+1=>by
   rw [List.range_succ,List.map_append]
   show (_++[g n]).sum=sumB g n (fun _=>true)+(if true=true then g n else 0)
   rw [sum_snoc,sum_range g n,if_pos rfl]
theorem sum_getD {l:List Rat} {n:Nat} (h:l.length=n):l.sum=sumB (fun j=>l.getD j 0) n fun _=>true:=by
 rw [<- sum_range]
 refine congrArg List.sum (List.ext_getElem? fun j=>?_)
 rw [List.getElem?_map]
 rcases (by omega:j < n\/n<=j) with c | c
 ·rw [List.getElem?_range c,List.getElem?_eq_getElem (by omega)]
  show _=some (l.getD j 0)
  rw [List.getD_eq_getElem?_getD,List.getElem?_eq_getElem (by omega)]
  rfl
 ·rw [List.getElem?_eq_none (by omega),List.getElem?_eq_none (by rw [List.length_range];omega)]
  rfl
theorem sumB_congr {f g:Nat->Rat} {e:Nat->Bool}:∀(n:Nat),(∀j,j < n->f j=g j)->sumB f n e=sumB g n e
 | 0,_=>rfl
 | n+1,h=>by
   show sumB f n e+(if e n=true then f n else 0)=sumB g n e+(if e n=true then g n else 0)
   rw [sumB_congr n (fun j k=>h j (by omega)),h n (by omega)]
theorem sumB_add (f g:Nat->Rat):∀(n:Nat),sumB (fun j=>f j+g j) n (fun _=>true)=sumB f n (fun _=>true)+sumB g n (fun _=>true)
 | 0=>by show (0:Rat)=0+0;grind
 | n+1=>by
   show sumB (fun j=>f j+g j) n (fun _=>true)+(if true=true then f n+g n else 0)=sumB f n (fun _=>true)+(if true=true then f n else 0)+(sumB g n (fun _=>true)+(if true=true then g n else 0))
   rw [sumB_add f g n,if_pos rfl,if_pos rfl,if_pos rfl]
   grind
theorem sumB_if (x:Rat) (e:Nat->Bool):∀(n:Nat),sumB (fun j=>if e j=true then x else 0) n (fun _=>true)=x*(cnt n e:Rat)
 | 0=>by show (0:Rat)=x*((0:Nat):Rat);grind
 | n+1=>by
   show sumB (fun j=>if e j=true then x else 0) n (fun _=>true)+(if true=true then (if e n=true then x else 0) else 0)=x*((cnt n e+(if e n=true then 1 else 0):Nat):Rat)
   rw [sumB_if x e n,if_pos rfl]
   by_cases c:e n=true
   ·rw [if_pos c,if_pos c]
    have k:((cnt n e+1:Nat):Rat)=(cnt n e:Rat)+1:=by grind
    rw [k]
    grind
   ·rw [if_neg c,if_neg c,Nat.add_zero]
    grind
theorem sum_set:∀{l:List Rat} {i:Nat} {x:Rat},i < l.length->(l.set i x).sum=l.sum - l.getD i 0+x
 | [],i,x,h=>by exact absurd h (Nat.not_lt_zero _)
 | y :: l,0,x,_=>by
   show (x :: l).sum=(y :: l).sum - y+x
   rw [List.sum_cons,List.sum_cons]
   grind
 | y :: l,i+1,x,h=>by
   show (y :: l.set i x).sum=(y :: l).sum - l.getD i 0+x
   rw [List.sum_cons,List.sum_cons,sum_set (l:=l) (Nat.lt_of_succ_lt_succ h)]
   grind
theorem rowR_len {wh:List Int} {x:Sr}:(rowR wh x).length=x.2.length+1:=by
 unfold rowR
 split
 ·rw [List.length_append];rfl
 ·rw [foldl_len,List.length_append];rfl
structure RunS (ds:Lq) (h:Nat) (q:Int) (φ:List Int->Sr) (m:Int) (mt:List (Nat × Bool)):Prop where
 fr:∀ts,0<=(φ ts).1
 len:∀ts,(φ ts).2.length=h
 zero:∀ts j,bit m j=true->(φ ts).2.getD j 0=0
 one:∀ts,(φ ts).1+(φ ts).2.sum=1
 met:∀p∈mt,p.1 < h/\bit m p.1=false/\(sumF ds fun ts=>(φ ts).2.getD p.1 0)=if p.2=true then (q:Rat) else 0
section
variable {ds:Lq} {h:Nat} {m:Int} {φ:List Int->Sr} {q:Int} {mt:List (Nat × Bool)}
theorem RunS.row (h12:h<=12) (R:RunS ds h q φ m mt) {ts:List Int} (ok:Okk h ts) {j:Nat} (hj:j < h+1):(rowR (whereI ts m) (φ ts)).getD j 0=(if j < h then (φ ts).2.getD j 0 else if whereI ts m=[] then (φ ts).1 else 0)+if bit (lieI ts m) j=true then (φ ts).1 / ((whereI ts m).length:Rat) else 0:=by
 obtain ⟨w1,w2,w3⟩:=where_in (m:=m) h12 ok
 have li:=lie_in (s:=m) ok
 rw [rowR_at (R.len ts) w1 hj]
 by_cases c:whereI ts m=[]
 ·rw [if_pos c,if_pos c]
  have:¬ bit (lieI ts m) j=true:=fun b=>by
   have:=(w2 j (bit_in li.1 li.2 b)).mpr b
   rw [c] at this
   exact nomatch this
  rw [if_neg this]
  grind
 ·rw [if_neg c,if_neg c]
  by_cases b:bit (lieI ts m) j=true
  ·have jh:=bit_in li.1 li.2 b
   rw [if_pos ((w2 j jh).mpr b),if_pos b,if_pos jh,R.zero ts j (lie_bit ok b)]
   grind
  ·have nm:¬ (j:Int)∈whereI ts m:=fun k=>by
    obtain ⟨i,e,ih⟩:=w1 _ k
    have e':j=i:=by omega
    subst e'
    exact b ((w2 j ih).mp k)
   rw [if_neg nm,if_neg b]
   grind
theorem RunS.rowOne (h12:h<=12) (R:RunS ds h q φ m mt) {ts:List Int} (ok:Okk h ts):(rowR (whereI ts m) (φ ts)).sum=1:=by
 obtain ⟨w1,w2,w3⟩:=where_in (m:=m) h12 ok
 have li:=lie_in (s:=m) ok
 rw [sum_getD (show _=h+1 by rw [rowR_len,R.len ts]),sumB_congr (h+1) (fun j hj=>R.row h12 ok hj),sumB_add,sumB_if]
 show (sumB _ h (fun _=>true)+(if true=true then _ else 0))+_=(1:Rat)
 rw [if_pos rfl,sumB_congr (g:=fun j=>(φ ts).2.getD j 0) h (fun j hj=>if_pos hj),<- sum_getD (R.len ts)]
 dsimp only
 rw [if_neg (Nat.lt_irrefl h)]
 have c1:cnt (h+1) (bit (lieI ts m))=(whereI ts m).length:=by
  rw [w3]
  exact cnt_low (by omega) fun j hj=>by
   cases c:bit (lieI ts m) j with
   | false=>rfl
   | true=>have:=bit_in li.1 li.2 c;omega
 rw [c1]
 have o:=R.one ts
 by_cases c:whereI ts m=[]
 ·rw [if_pos c,c]
  show _+_*((0:Nat):Rat)=1
  grind
 ·rw [if_neg c]
  have l0:((whereI ts m).length:Rat)≠0:=nat_ne (Nat.pos_of_ne_zero fun e=>c (List.length_eq_zero_iff.mp e))
  rw [Rat.div_mul_cancel l0]
  grind
theorem RunS.sums (h12:h<=12) (okd:∀p∈ds,Okk h p.1) (R:RunS ds h q φ m mt):(sumsR ds (rowsR ds (stF ds φ) m) h).sum=((nsumQ ds:Int):Rat):=by
 rw [sums_f,sum_range,sumF_B,<- one_sum]
 refine sumF_congr fun p pm=>?_
 rw [<- sum_getD (show _=h+1 by rw [rowR_len,R.len p.1])]
 exact R.rowOne h12 (okd p pm)
theorem gdS {j:Nat} (hj:j < h+1):(sumsR ds (rowsR ds (stF ds φ) m) h).getD j 0=sumF ds fun ts=>(rowR (whereI ts m) (φ ts)).getD j 0:=by
 rw [sums_f,List.getD_eq_getElem?_getD,List.getElem?_map,List.getElem?_range hj]
 rfl
theorem RunS.share (h12:h<=12) (okd:∀p∈ds,Okk h p.1) (R:RunS ds h q φ m mt) {hd:Nat} (hh:hd < h) (b:bit m hd=true):(sumsR ds (rowsR ds (stF ds φ) m) h).getD hd 0=sumF ds fun ts=>shareR ts m hd (φ ts).1:=by
 rw [gdS (by omega)]
 refine sumF_congr fun x xm=>?_
 rw [R.row h12 (okd x xm) (by omega),if_pos hh,R.zero x.1 hd b]
 unfold shareR
 grind
end
noncomputable def Fz (v:Rat):Prop:=0<=v/\Sz 4700 (pr v).1/\Sz 4700 (pr v).2
theorem addD_vq {x y:Int × Int} (x0:0 < x.2) (y0:0 < y.2):vq (addD x y)=vq x+vq y/\0 < (addD x y).2:=by
 have hx:=vq_ne x0
 have hy:=vq_ne y0
 unfold addD
 by_cases c:y.1=0
 ·rw [if_pos c]
  refine ⟨?_,x0⟩
  have z:vq y=0:=by unfold vq;rw [c,show ((0:Int):Rat)=0 from rfl];grind
  rw [z]
  grind
 ·rw [if_neg c]
  by_cases c2:x.2=y.2
  ·rw [if_pos c2]
   refine ⟨?_,x0⟩
   unfold vq
   show ((x.1+y.1:Int):Rat) / (x.2:Rat)=_
   rw [Rat.intCast_add,<- c2]
   grind
  ·rw [if_neg c2]
   refine ⟨?_,Int.mul_pos x0 y0⟩
   unfold vq
   show ((x.1*y.2+y.1*x.2:Int):Rat) / ((x.2*y.2:Int):Rat)=_
   rw [Rat.intCast_add,Rat.intCast_mul,Rat.intCast_mul,Rat.intCast_mul]
   grind
theorem addD_sz46 {x y:Int × Int} {n:Nat} (h1:Sz n x.1) (h2:Sz n x.2) (h3:Sz 4700 y.1) (h4:Sz 4700 y.2):Sz (n+4702) (addD x y).1/\Sz (n+4702) (addD x y).2:=by
 unfold addD
 by_cases c:y.1=0
 ·rw [if_pos c];exact ⟨h1.mono (by omega),h2.mono (by omega)⟩
 ·rw [if_neg c]
  by_cases c2:x.2=y.2
  ·rw [if_pos c2];exact ⟨(h1.add h3).mono (by omega),h2.mono (by omega)⟩
  ·rw [if_neg c2];exact ⟨((h1.mul h4).add (h3.mul h2)).mono (by omega),(h2.mul h4).mono (by omega)⟩
theorem vq_eq {v:Int × Int} {w:Int} (b0:0 < v.2) (h:vq v=(w:Rat)):v.1=w*v.2:=by
 have hb:=vq_ne b0
 unfold vq at h
 have:((v.1:Int):Rat)=((w*v.2:Int):Rat):=by
  rw [Rat.intCast_mul]
  grind
 exact Rat.intCast_inj.mp this
section
variable {h:Nat} {m:Int} {ts:List Int} {x:Sr}
end
noncomputable def spAdded45:Sp:=fun vs H Q _=>∃f g:Fq,vs=[.ref f.1,.ref g.1]/\FqG H f/\FqG H g/\Sz 90000 f.2.1/\Sz 90000 f.2.2/\Sz 14000 g.2.1/\Sz 14000 g.2.2/\∀(a:Addr) (H':Hp),Same H H'->FqG H' (a,addD f.2 g.2)->Q (.ref a) H'
theorem pick2 {x0 x1:Int} (P:Int->Prop) (i:Int) (i0:0<=i) (i1:i < 2) (h0:P x0) (h1:P x1):∃v,atI [V.int x0,V.int x1] i=some (.int v)/\P v:=by
 rcases (by omega:i=0\/i=1) with rfl | rfl
 ·exact ⟨x0,rfl,h0⟩
 ·exact ⟨x1,rfl,h1⟩
noncomputable def Sub (A B:Lq):Prop:=∀g:List Int->Rat,(∀ts,0<=g ts)->sumF A g<=sumF B g
noncomputable def capR (t:Rat) (q:Int):Rat:=if (q:Rat) < t then (q:Rat) else t
structure RunA (ds:Lq) (h:Nat) (φ:List Int->Sr) (m:Int) (fd:List Rat):Prop where
 fr:∀ts,0<=(φ ts).1
 len:∀ts,(φ ts).2.length=h
 zero:∀ts j,bit m j=true->(φ ts).2.getD j 0=0
 one:∀ts,(φ ts).1+(φ ts).2.sum=1
 fl:fd.length=h
 fz:∀j,bit m j=true->fd.getD j 0=0
 met:∀j,j < h->bit m j=false->(sumF ds fun ts=>(φ ts).2.getD j 0)=fd.getD j 0
theorem RunA.S {ds:Lq} {h:Nat} {φ:List Int->Sr} {m:Int} {fd:List Rat} (R:RunA ds h φ m fd):RunS ds h 0 φ m []:=⟨R.fr,R.len,R.zero,R.one,fun _ k=>nomatch k⟩
theorem sumF_zero (ds:Lq):sumF ds (fun _=>0)=0:=by
 induction ds with
 | nil=>rfl
 | cons p ds ih =>
   unfold sumF at ih ⊢
   rw [List.map_cons,List.sum_cons,ih]
   grind
theorem sumF_nn {ds:Lq} (hn:∀p∈ds,0<=p.2) {f:List Int->Rat} (h:∀ts,0<=f ts):0<=sumF ds f:=by
 have:=sumF_le hn (f:=fun _=>0) (g:=f) (fun p _=>h p.1)
 rw [sumF_zero] at this
 exact this
theorem RunA.start (ds:Lq) (h:Nat):RunA ds h (fun _=>(1,List.replicate h 0)) (2 ^ h - 1) (List.replicate h 0):=by
 have z:∀j,(List.replicate h (0:Rat)).getD j 0=0:=fun j=>by
  rw [List.getD_eq_getElem?_getD,List.getElem?_replicate]
  split <;> rfl
 refine ⟨fun _=>(by decide:(0:Rat)<=1),fun _=>List.length_replicate ..,fun _ j _=>z j,fun _=>?_,List.length_replicate ..,fun j _=>z j,fun j _ _=>?_⟩
 ·dsimp only
  have:(List.replicate h (0:Rat)).sum=0:=by
   induction h with
   | zero=>rfl
   | succ n ih=>rw [List.replicate_succ,List.sum_cons,ih (fun j=>by rw [List.getD_eq_getElem?_getD,List.getElem?_replicate];split <;> rfl)];grind
  rw [this]
  grind
 ·rw [sumF_congr (g:=fun _=>0) (fun p _=>z j),sumF_zero,z j]
section
variable {ds:Lq} {h:Nat} {m:Int} {φ:List Int->Sr} {q:Int} {fd:List Rat}
theorem cap_part {t:Rat} {q:Int} (t0:0<=t) (q1:1<=q):t*partR t q=capR t q:=by
 have hq:(1:Rat)<=(q:Rat):=Rat.intCast_le_intCast.mpr q1
 unfold partR capR
 split
 ·have:t≠0:=by grind
  rw [Rat.mul_comm]
  exact Rat.div_mul_cancel this
 ·grind
theorem RunA.next (hn:∀p∈ds,0<=p.2) (q1:1<=q) (R:RunA ds h φ m fd) (m0:0<=m) (h12:h<=12) {hd:Nat} (hh:hd < h) (b:bit m hd=true):RunA ds h (nxF ds φ m hd q) (m - 2 ^ hd) (fd.set hd (capR (sumF ds fun ts=>shareR ts m hd (φ ts).1) q)):=by
 have sn:∀ts,0<=shareR ts m hd (φ ts).1/\shareR ts m hd (φ ts).1<=(φ ts).1:=fun ts=>share_nn (R.fr ts) (by omega)
 have T0:=sumF_nn hn (f:=fun ts=>shareR ts m hd (φ ts).1) (fun ts=>(sn ts).1)
 generalize hT:(sumF ds fun ts=>shareR ts m hd (φ ts).1)=T at T0 ⊢
 generalize hP:partR T q=P
 have pn:=part_nn (t:=T) q1
 have tp:=cap_part T0 q1
 rw [hP] at pn tp
 have sp:∀ts,0<=shareR ts m hd (φ ts).1*P/\shareR ts m hd (φ ts).1*P<=shareR ts m hd (φ ts).1:=fun ts=>mul_le1 (sn ts).1 pn.2 pn.1
 have nx:∀ts,nxF ds φ m hd q ts=((φ ts).1 - shareR ts m hd (φ ts).1*P,(φ ts).2.set hd (shareR ts m hd (φ ts).1*P)):=fun ts=>by
  unfold nxF keepR
  rw [hT,hP]
 obtain ⟨_,lb,_⟩:=less_len m0 b (by omega)
 refine ⟨fun ts=>?_,fun ts=>?_,fun ts j bj=>?_,fun ts=>?_,by rw [List.length_set];exact R.fl,fun j bj=>?_,fun j hj bj=>?_⟩
 ·rw [nx ts]
  have:=sp ts
  have:=sn ts
  show (0:Rat)<=(φ ts).1 - shareR ts m hd (φ ts).1*P
  grind
 ·rw [nx ts]
  show ((φ ts).2.set hd _).length=h
  rw [List.length_set]
  exact R.len ts
 ·rw [lb j] at bj
  have bj':=Bool.and_eq_true_iff.mp bj
  have ne:j≠hd:=of_decide_eq_true bj'.2
  rw [nx ts]
  show ((φ ts).2.set hd _).getD j 0=0
  rcases (by omega:j < h\/h<=j) with c | c
  ·rw [getD_set (by rw [R.len ts];exact c),if_neg (Ne.symm ne)]
   exact R.zero ts j bj'.1
  ·rw [List.getD_eq_getElem?_getD,List.getElem?_eq_none (by rw [List.length_set,R.len ts];exact c)]
   rfl
 ·rw [nx ts]
  show (φ ts).1 - shareR ts m hd (φ ts).1*P+((φ ts).2.set hd (shareR ts m hd (φ ts).1*P)).sum=1
  rw [sum_set (by rw [R.len ts];exact hh),R.zero ts hd b]
  have:=R.one ts
  grind
 ·rw [lb j] at bj
  have bj':=Bool.and_eq_true_iff.mp bj
  have ne:j≠hd:=of_decide_eq_true bj'.2
  rcases (by omega:j < h\/h<=j) with c | c
  ·rw [getD_set (by rw [R.fl];exact c),if_neg (Ne.symm ne)]
   exact R.fz j bj'.1
  ·rw [List.getD_eq_getElem?_getD,List.getElem?_eq_none (by rw [List.length_set,R.fl];exact c)]
   rfl
 ·rw [getD_set (by rw [R.fl];exact hj)]
  by_cases c:hd=j
  ·subst c
   rw [if_pos rfl,<- tp,<- hT,<- sumF_mul]
   refine sumF_congr fun x xm=>?_
   rw [nx x.1]
   show ((φ x.1).2.set hd _).getD hd 0=_
   rw [getD_set (by rw [R.len x.1];exact hh),if_pos rfl]
  ·rw [if_neg c,<- R.met j hj (by
    have e:decide (j≠hd)=true:=decide_eq_true (fun z=>c z.symm)
    rw [lb j,e,Bool.and_true] at bj
    exact bj)]
   refine sumF_congr fun x xm=>?_
   rw [nx x.1]
   show ((φ x.1).2.set hd _).getD j 0=_
   rw [getD_set (by rw [R.len x.1];exact hj),if_neg c]
theorem RunA.out (R:RunA ds h φ m fd) (m0:0<=m) (h12:h<=12) {hd:Nat} (hh:hd < h) (b:bit m hd=true):RunA ds h φ (m - 2 ^ hd) fd:=by
 obtain ⟨_,lb,_⟩:=less_len m0 b (by omega)
 refine ⟨R.fr,R.len,fun ts j bj=>R.zero ts j (by rw [lb j] at bj;exact (Bool.and_eq_true_iff.mp bj).1),R.one,R.fl,fun j bj=>R.fz j (by rw [lb j] at bj;exact (Bool.and_eq_true_iff.mp bj).1),fun j hj bj=>?_⟩
 by_cases c:j=hd
 ·subst c
  rw [R.fz j b,sumF_congr (g:=fun _=>0) (fun x _=>R.zero x.1 j b),sumF_zero]
 ·rw [lb j,decide_eq_true c,Bool.and_true] at bj
  exact R.met j hj bj
noncomputable def endR (ds:Lq) (h:Nat) (φ:List Int->Sr) (m:Int) (fd:List Rat) (j:Nat):Rat:=if j < h then (if bit m j=true then sumF ds fun ts=>shareR ts m j (φ ts).1 else fd.getD j 0) else sumF ds fun ts=>if whereI ts m=[] then (φ ts).1 else 0
theorem RunA.at (h12:h<=12) (okd:∀p∈ds,Okk h p.1) (R:RunA ds h φ m fd) {j:Nat} (hj:j < h+1):(sumsR ds (rowsR ds (stF ds φ) m) h).getD j 0=endR ds h φ m fd j:=by
 unfold endR
 by_cases c:j < h
 ·rw [if_pos c]
  by_cases b:bit m j=true
  ·rw [if_pos b]
   exact R.S.share h12 okd c b
  ·rw [if_neg b,<- R.met j c (by cases e:bit m j with | false=>rfl | true=>exact absurd e b),gdS hj]
   refine sumF_congr fun x xm=>?_
   rw [R.S.row h12 (okd x xm) hj,if_pos c,if_neg (fun z=>b (lie_bit (okd x xm) z))]
   grind
 ·rw [if_neg c,gdS hj]
  refine sumF_congr fun x xm=>?_
  have li:=lie_in (s:=m) (okd x xm)
  rw [R.S.row h12 (okd x xm) hj,if_neg c,if_neg (fun z=>c (bit_in li.1 li.2 z))]
  grind
end
theorem inv_nn {n:Rat} (h:0<=n):0<=n⁻¹:=by
 rcases Rat.le_iff_lt_or_eq.mp h with c | c
 ·exact Rat.le_of_lt (Rat.inv_pos.mpr c)
 ·rw [<- c,Rat.inv_zero];exact Rat.le_refl
theorem share_mono {ts:List Int} {m:Int} {hd:Nat} {r s:Rat} (le:r<=s) (r0:0<=r):shareR ts m hd r<=shareR ts m hd s:=by
 unfold shareR
 split
 ·have n0:(0:Rat)<=((whereI ts m).length:Rat):=by
   have:=Rat.intCast_nonneg.mpr (show (0:Int)<=((whereI ts m).length:Int) from Int.natCast_nonneg _)
   exact this
  rw [Rat.div_def,Rat.div_def]
  exact Rat.mul_le_mul_of_nonneg_right le (inv_nn n0)
 ·exact Rat.le_refl
theorem part_anti {s t:Rat} {q:Int} (le:s<=t) (q1:1<=q):partR t q<=partR s q:=by
 have hq:(1:Rat)<=(q:Rat):=Rat.intCast_le_intCast.mpr q1
 unfold partR
 by_cases c:(q:Rat) < s
 ·rw [if_pos c,if_pos (by grind)]
  have s0:0 < s:=by grind
  have t0:0 < t:=by grind
  rw [Rat.div_def,Rat.div_def]
  refine Rat.mul_le_mul_of_nonneg_left ?_ (by grind)
  have e1:s*s⁻¹=1:=Rat.mul_inv_cancel _ (by grind)
  have e2:t*t⁻¹=1:=Rat.mul_inv_cancel _ (by grind)
  have i1:=Rat.inv_pos.mpr s0
  have i2:=Rat.inv_pos.mpr t0
  have k:s*(s⁻¹*t⁻¹)<=t*(s⁻¹*t⁻¹):=Rat.mul_le_mul_of_nonneg_right le (Rat.le_of_lt (Rat.mul_pos i1 i2))
  have k1:s*(s⁻¹*t⁻¹)=t⁻¹:=by rw [<- Rat.mul_assoc,e1,Rat.one_mul]
  have k2:t*(s⁻¹*t⁻¹)=s⁻¹:=by rw [Rat.mul_comm s⁻¹,<- Rat.mul_assoc,e2,Rat.one_mul]
  rw [k1,k2] at k
  exact k
 ·rw [if_neg c]
  exact (part_nn q1).2
theorem cap_mono {s t:Rat} {q:Int} (le:s<=t):capR s q<=capR t q:=by
 unfold capR
 split <;> split <;> grind
structure RelA (φ ψ:List Int->Sr) (fa fb:List Rat):Prop where
 fr:∀ts,(φ ts).1<=(ψ ts).1
 fd:∀j,fa.getD j 0<=fb.getD j 0
theorem getD_set_all {l:List Rat} {i j:Nat} {x:Rat}:(l.set i x).getD j 0=if i=j/\j < l.length then x else l.getD j 0:=by
 by_cases c:j < l.length
 ·rw [getD_set c]
  by_cases e:i=j
  ·rw [if_pos e,if_pos ⟨e,c⟩]
  ·rw [if_neg e,if_neg (fun z=>e z.1)]
 ·rw [if_neg (fun z=>c z.2),List.getD_eq_getElem?_getD,List.getD_eq_getElem?_getD,List.getElem?_eq_none (by rw [List.length_set];omega),List.getElem?_eq_none (by omega)]
theorem RelA.next {A B:Lq} {h:Nat} {m q:Int} {φ ψ:List Int->Sr} {fa fb:List Rat} {hd:Nat} (sub:Sub A B) (hn:∀p∈B,0<=p.2) (q1:1<=q) (hd12:hd < 12) (ra:RunA A h φ m fa) (rb:RunA B h ψ m fb) (r:RelA φ ψ fa fb):RelA (nxF A φ m hd q) (nxF B ψ m hd q) (fa.set hd (capR (sumF A fun ts=>shareR ts m hd (φ ts).1) q)) (fb.set hd (capR (sumF B fun ts=>shareR ts m hd (ψ ts).1) q)):=by
 have sA:∀ts,0<=shareR ts m hd (φ ts).1/\shareR ts m hd (φ ts).1<=(φ ts).1:=fun ts=>share_nn (ra.fr ts) hd12
 have tt:(sumF A fun ts=>shareR ts m hd (φ ts).1)<=sumF B fun ts=>shareR ts m hd (ψ ts).1:=Rat.le_trans (sub _ fun ts=>(sA ts).1) (sumF_le hn fun p _=>share_mono (r.fr p.1) (ra.fr p.1))
 refine ⟨fun ts=>?_,fun j=>?_⟩
 ·unfold nxF keepR
  dsimp only
  have pa:=part_anti tt q1
  have pb:=part_nn (t:=sumF B fun ts=>shareR ts m hd (ψ ts).1) q1
  have pc:=part_nn (t:=sumF A fun ts=>shareR ts m hd (φ ts).1) q1
  generalize partR (sumF A fun ts=>shareR ts m hd (φ ts).1) q=PA at pa pc ⊢
  generalize partR (sumF B fun ts=>shareR ts m hd (ψ ts).1) q=PB at pa pb ⊢
  have f:=r.fr ts
  have f0:=ra.fr ts
  have hA:=sA ts
  generalize (φ ts).1=x at f f0 hA ⊢
  generalize (ψ ts).1=y at f ⊢
  unfold shareR at hA ⊢
  split
  ·rename_i b
   rw [if_pos b] at hA
   rw [Rat.div_def] at hA
   rw [Rat.div_def,Rat.div_def]
   have n0:(0:Rat)<=((whereI ts m).length:Rat):=Rat.intCast_nonneg.mpr (show (0:Int)<=((whereI ts m).length:Int) from Int.natCast_nonneg _)
   have i0:=inv_nn n0
   have i1:(((whereI ts m).length:Rat))⁻¹<=1:=by
    have n1:1<=(whereI ts m).length:=by
     have:=hands_mem.mpr ⟨hd,hd12,b,rfl⟩
     exact List.length_pos_of_mem this
    have:=div_nn (r:=1) (n:=(whereI ts m).length) (by decide) n1
    rw [Rat.div_def,Rat.one_mul] at this
    exact this.2
   generalize ((whereI ts m).length:Rat)⁻¹=i at i0 i1 hA ⊢
   have k1:i*PB<=i*PA:=Rat.mul_le_mul_of_nonneg_left pa i0
   have k2:i*PA<=1:=by
    have:=Rat.mul_le_mul_of_nonneg_left pc.2 i0
    grind
   have k3:0<=i*PB:=Rat.mul_nonneg i0 pb.1
   have k4:x*(1 - i*PA)<=y*(1 - i*PA):=Rat.mul_le_mul_of_nonneg_right f (by grind)
   have k5:y*(1 - i*PA)<=y*(1 - i*PB):=Rat.mul_le_mul_of_nonneg_left (by grind) (by grind)
   grind
  ·grind
 ·have l1:=ra.fl
  have l2:=rb.fl
  rw [getD_set_all,getD_set_all,l1,l2]
  have:=cap_mono tt (q:=q)
  have:=r.fd j
  split <;> grind
theorem RelA.ends {A B:Lq} {h:Nat} {m:Int} {φ ψ:List Int->Sr} {fa fb:List Rat} (sub:Sub A B) (hn:∀p∈B,0<=p.2) (h12:h<=12) (ra:RunA A h φ m fa) (r:RelA φ ψ fa fb) (j:Nat):endR A h φ m fa j<=endR B h ψ m fb j:=by
 unfold endR
 split
 ·rename_i hj
  split
  ·exact Rat.le_trans (sub _ fun ts=>(share_nn (ra.fr ts) (by omega)).1) (sumF_le hn fun p _=>share_mono (r.fr p.1) (ra.fr p.1))
  ·exact r.fd j
 ·refine Rat.le_trans (sub _ fun ts=>?_) (sumF_le hn fun p _=>?_)
  ·split
   ·exact ra.fr ts
   ·exact Rat.le_refl
  ·split
   ·exact r.fr p.1
   ·exact Rat.le_refl
noncomputable def Dd.num:Dd->Nat
 | .seat h=>h
 | .out h=>h
 | _=>0
noncomputable def nextA (ds:Lq) (q:Int) (φ:List Int->Sr) (m:Int):Dd->List Int->Sr
 | .seat hd=>nxF ds φ m hd q
 | _=>φ
noncomputable def fndA (ds:Lq) (q:Int) (φ:List Int->Sr) (m:Int) (fd:List Rat):Dd->List Rat
 | .seat hd=>fd.set hd (capR (sumF ds fun ts=>shareR ts m hd (φ ts).1) q)
 | _=>fd
noncomputable def goA (ds:Lq) (h:Nat) (q:Int):List Dd->(List Int->Sr)->Int->List Rat->Nat->Rat
 | [],φ,m,fd=>endR ds h φ m fd
 | d :: dd,φ,m,fd=>goA ds h q dd (nextA ds q φ m d) (m - 2 ^ d.num) (fndA ds q φ m fd d)
noncomputable def OkD (h:Nat):List Dd->Int->Prop
 | [],_=>True
 | d :: dd,m=>(∃hd,(d=.seat hd\/d=.out hd)/\hd < h/\bit m hd=true)/\OkD h dd (m - 2 ^ d.num)
theorem RunA.step {ds:Lq} {h:Nat} {m q:Int} {φ:List Int->Sr} {fd:List Rat} {d:Dd} (hn:∀p∈ds,0<=p.2) (q1:1<=q) (h12:h<=12) (m0:0<=m) (R:RunA ds h φ m fd) (o:∃hd,(d=.seat hd\/d=.out hd)/\hd < h/\bit m hd=true):RunA ds h (nextA ds q φ m d) (m - 2 ^ d.num) (fndA ds q φ m fd d)/\0<=m - 2 ^ d.num:=by
 obtain ⟨hd,c,hh,b⟩:=o
 rcases c with rfl | rfl
 ·exact ⟨R.next hn q1 m0 h12 hh b,(less_len m0 b (by omega)).1⟩
 ·exact ⟨R.out m0 h12 hh b,(less_len m0 b (by omega)).1⟩
theorem go_mono {A B:Lq} {h:Nat} {q:Int} (sub:Sub A B) (ha:∀p∈A,0<=p.2) (hb:∀p∈B,0<=p.2) (q1:1<=q) (h12:h<=12):∀(dd:List Dd) (φ ψ:List Int->Sr) (m:Int) (fa fb:List Rat),0<=m->OkD h dd m->RunA A h φ m fa->RunA B h ψ m fb->RelA φ ψ fa fb->∀j,goA A h q dd φ m fa j<=goA B h q dd ψ m fb j
 | [],φ,ψ,m,fa,fb,_,_,ra,_,r,j=>RelA.ends sub hb h12 ra r j
 | d :: dd,φ,ψ,m,fa,fb,m0,o,ra,rb,r,j=>by
   obtain ⟨a1,a2⟩:=ra.step ha q1 h12 m0 o.1
   obtain ⟨b1,_⟩:=rb.step hb q1 h12 m0 o.1
   refine go_mono sub ha hb q1 h12 dd _ _ _ _ _ a2 o.2 a1 b1 ?_ j
   obtain ⟨hd,c,hh,b⟩:=o.1
   rcases c with rfl | rfl
   ·exact RelA.next sub hb q1 (by omega) ra rb r
   ·exact r
theorem sumB_nn_le {f:Nat->Rat}:∀{n:Nat},(∀j,j < n->0<=f j)->∀j,j < n->f j<=sumB f n fun _=>true
 | 0,_,j,hj=>absurd hj (Nat.not_lt_zero _)
 | n+1,h0,j,hj=>by
   have ih:=sumB_nn_le (f:=f) (n:=n) (fun i hi=>h0 i (by omega))
   have s0:0<=sumB f n fun _=>true:=by
    cases n with
    | zero=>exact Rat.le_refl
    | succ k=>exact Rat.le_trans (h0 0 (by omega)) (ih 0 (by omega))
   have e:(sumB f (n+1) fun _=>true)=sumB f n (fun _=>true)+f n:=by
    show sumB f n (fun _=>true)+(if true=true then f n else 0)=_
    rw [if_pos rfl]
   rw [e]
   have hn:=h0 n (by omega)
   rcases (by omega:j < n\/j=n) with c | c
   ·have:=ih j c
    grind
   ·rw [c]
    grind
theorem go_sum {ds:Lq} {h:Nat} {q:Int} (hn:∀p∈ds,0<=p.2) (okd:∀p∈ds,Okk h p.1) (q1:1<=q) (h12:h<=12):∀(dd:List Dd) (φ:List Int->Sr) (m:Int) (fd:List Rat),0<=m->OkD h dd m->RunA ds h φ m fd->(sumB (goA ds h q dd φ m fd) (h+1) fun _=>true)=((nsumQ ds:Int):Rat)
 | [],φ,m,fd,_,_,R=>by
   rw [<- R.S.sums h12 okd,sum_getD (show _=h+1 by rw [sums_f,List.length_map,List.length_range])]
   exact sumB_congr _ fun j hj=>(R.at h12 okd hj).symm
 | d :: dd,φ,m,fd,m0,o,R=>by
   obtain ⟨a1,a2⟩:=R.step hn q1 h12 m0 o.1
   exact go_sum hn okd q1 h12 dd _ _ _ a2 o.2 a1
theorem sumB_sub2 (f g:Nat->Rat):∀n,(sumB (fun j=>f j - g j) n fun _=>true)=sumB f n (fun _=>true) - sumB g n (fun _=>true)
 | 0=>by show (0:Rat)=0 - 0;grind
 | n+1=>by
   show sumB (fun j=>f j - g j) n (fun _=>true)+(if true=true then f n - g n else 0)=sumB f n (fun _=>true)+(if true=true then f n else 0) - (sumB g n (fun _=>true)+(if true=true then g n else 0))
   rw [sumB_sub2 f g n,if_pos rfl,if_pos rfl,if_pos rfl]
   grind
theorem go_near {A B:Lq} {h:Nat} {q:Int} {dd:List Dd} (sub:Sub A B) (ha:∀p∈A,0<=p.2) (hb:∀p∈B,0<=p.2) (oa:∀p∈A,Okk h p.1) (ob:∀p∈B,Okk h p.1) (q1:1<=q) (h12:h<=12) (o:OkD h dd (2 ^ h - 1)) {j:Nat} (hj:j < h+1) :
 goA A h q dd (fun _=>(1,List.replicate h 0)) (2 ^ h - 1) (List.replicate h 0) j<=goA B h q dd (fun _=>(1,List.replicate h 0)) (2 ^ h - 1) (List.replicate h 0) j /\
 goA B h q dd (fun _=>(1,List.replicate h 0)) (2 ^ h - 1) (List.replicate h 0) j - goA A h q dd (fun _=>(1,List.replicate h 0)) (2 ^ h - 1) (List.replicate h 0) j<=((nsumQ B:Int):Rat) - ((nsumQ A:Int):Rat):=by
 have m0:(0:Int)<=2 ^ h - 1:=by
  have:(0:Int) < 2 ^ h:=Int.pow_pos (by decide)
  omega
 have mono:=go_mono sub ha hb q1 h12 dd _ _ (2 ^ h - 1) _ _ m0 o (RunA.start A h) (RunA.start B h) ⟨fun _=>Rat.le_refl,fun _=>Rat.le_refl⟩
 have sa:=go_sum ha oa q1 h12 dd _ _ _ m0 o (RunA.start A h)
 have sb:=go_sum hb ob q1 h12 dd _ _ _ m0 o (RunA.start B h)
 refine ⟨mono j,?_⟩
 rw [<- sa,<- sb,<- sumB_sub2]
 exact sumB_nn_le (f:=fun j=>goA B h q dd (fun _=>(1,List.replicate h 0)) (2 ^ h - 1) (List.replicate h 0) j - goA A h q dd (fun _=>(1,List.replicate h 0)) (2 ^ h - 1) (List.replicate h 0) j) (fun i _=>by have:=mono i;grind) j hj
noncomputable def numQ (ds:Lq) (ts:List Int):Int:=(ds.find? fun p=>p.1 == ts).elim 0 (·.2)
noncomputable def comQ (a b:Lq):Lq:=a.map fun p=>(p.1,min p.2 (numQ b p.1))
noncomputable def apartQ (a b:Lq):Int:=(a.map fun p=>max 0 (p.2 - numQ b p.1)).sum
theorem numQ_nn {b:Lq} (hb:∀p∈b,0<=p.2) (ts:List Int):0<=numQ b ts:=by
 unfold numQ
 cases e:b.find? fun p=>p.1 == ts with
 | none=>exact Int.le_refl _
 | some p=>exact hb p (List.mem_of_find?_eq_some e)
theorem numQ_cons (x:List Int × Int) (b:Lq) (ts:List Int):numQ (x :: b) ts=if x.1=ts then x.2 else numQ b ts:=by
 unfold numQ
 rw [List.find?_cons]
 by_cases c:x.1=ts
 ·rw [if_pos c,beq_iff_eq.mpr c]
  rfl
 ·rw [if_neg c,beq_eq_false_iff_ne.mpr c]
theorem sumF_cons (x:List Int × Int) (a:Lq) (g:List Int->Rat):sumF (x :: a) g=(x.2:Rat)*g x.1+sumF a g:=by
 unfold sumF
 rw [List.map_cons,List.sum_cons]
theorem com_cons (x:List Int × Int) (a b:Lq):comQ (x :: a) b=(x.1,min x.2 (numQ b x.1)) :: comQ a b:=rfl
theorem com_sub1 (b:Lq):∀a:Lq,Sub (comQ a b) a
 | [],g,_=>Rat.le_refl
 | x :: a,g,h0=>by
   rw [com_cons,sumF_cons,sumF_cons]
   have ih:=com_sub1 b a g h0
   have k:=Rat.mul_le_mul_of_nonneg_right (Rat.intCast_le_intCast.mpr (Int.min_le_left x.2 (numQ b x.1))) (h0 x.1)
   dsimp only
   grind
noncomputable def onlyQ (x:List Int × Int) (a:Lq):Lq:=a.map fun p=>(p.1,if x.1=p.1 then x.2 else 0)
theorem only_le {x:List Int × Int} (x0:0<=x.2) {g:List Int->Rat} (h0:∀ts,0<=g ts):∀{a:Lq},(a.map (·.1)).Nodup->sumF (onlyQ x a) g<=(if x.1∈a.map (·.1) then (x.2:Rat)*g x.1 else 0)
 | [],_=>by
   show (0:Rat)<=_
   rw [List.map_nil,if_neg (List.not_mem_nil)]
   exact Rat.le_refl
 | p :: a,nd=>by
   rw [List.map_cons] at nd
   obtain ⟨n1,n2⟩:=List.nodup_cons.mp nd
   have ih:=only_le x0 h0 n2
   have e:onlyQ x (p :: a)=(p.1,if x.1=p.1 then x.2 else 0) :: onlyQ x a:=rfl
   rw [e,sumF_cons,List.map_cons]
   dsimp only
   by_cases c:x.1=p.1
   ·have nm:x.1 ∉ a.map (·.1):=by rw [c];exact n1
    rw [if_neg nm] at ih
    rw [if_pos c,if_pos (by rw [c];exact List.mem_cons_self ..),<- c]
    grind
   ·rw [if_neg c]
    by_cases d:x.1∈a.map (·.1)
    ·rw [if_pos d] at ih
     rw [if_pos (List.mem_cons_of_mem _ d)]
     have z:((0:Int):Rat)=0:=rfl
     rw [z]
     grind
    ·rw [if_neg d] at ih
     rw [if_neg (fun m=>(List.mem_cons.mp m).elim c d)]
     have z:((0:Int):Rat)=0:=rfl
     rw [z]
     grind
noncomputable def asQ (b a:Lq):Lq:=a.map fun p=>(p.1,numQ b p.1)
theorem as_le {g:List Int->Rat} (h0:∀ts,0<=g ts) {a:Lq} (nd:(a.map (·.1)).Nodup):∀{b:Lq},(∀p∈b,0<=p.2)->sumF (asQ b a) g<=sumF b g
 | [],_=>by
   have:sumF (asQ [] a) g=0:=by
    unfold asQ sumF
    rw [List.map_map]
    clear nd
    induction a with
    | nil=>rfl
    | cons p a ih =>
      rw [List.map_cons,List.sum_cons,ih]
      show (((0:Int):Rat))*g p.1+0=0
      have z:((0:Int):Rat)=0:=rfl
      rw [z]
      grind
   rw [this]
   exact Rat.le_refl
 | x :: b,hb=>by
   have ih:=as_le h0 nd (b:=b) fun p m=>hb p (List.mem_cons_of_mem _ m)
   have x0:=hb x (List.mem_cons_self ..)
   have on:=only_le x0 h0 nd
   have nn:=numQ_nn (b:=b) fun p m=>hb p (List.mem_cons_of_mem _ m)
   have sp:∀a:Lq,sumF (asQ (x :: b) a) g<=sumF (onlyQ x a) g+sumF (asQ b a) g:=fun a=>by
    induction a with
    | nil=>show (0:Rat)<=0+0;grind
    | cons p a ih =>
      have e1:asQ (x :: b) (p :: a)=(p.1,numQ (x :: b) p.1) :: asQ (x :: b) a:=rfl
      have e2:asQ b (p :: a)=(p.1,numQ b p.1) :: asQ b a:=rfl
      have e3:onlyQ x (p :: a)=(p.1,if x.1=p.1 then x.2 else 0) :: onlyQ x a:=rfl
      rw [e1,e2,e3,sumF_cons,sumF_cons,sumF_cons]
      dsimp only
      have k:numQ (x :: b) p.1<=(if x.1=p.1 then x.2 else 0)+numQ b p.1:=by
       rw [numQ_cons]
       have:=nn p.1
       split <;> omega
      have k2:=Rat.mul_le_mul_of_nonneg_right (Rat.intCast_le_intCast.mpr k) (h0 p.1)
      rw [Rat.intCast_add] at k2
      grind
   have s:=sp a
   rw [sumF_cons]
   have gx:0<=(x.2:Rat)*g x.1:=Rat.mul_nonneg (Rat.intCast_nonneg.mpr x0) (h0 _)
   have on2:sumF (onlyQ x a) g<=(x.2:Rat)*g x.1:=by
    split at on
    ·exact on
    ·exact Rat.le_trans on gx
   grind
theorem com_sub2 {a b:Lq} (nd:(a.map (·.1)).Nodup) (hb:∀p∈b,0<=p.2):Sub (comQ a b) b:=fun g h0=>by
 refine Rat.le_trans ?_ (as_le h0 nd hb)
 clear nd
 induction a with
 | nil=>exact Rat.le_refl
 | cons p a ih =>
   have e2:asQ b (p :: a)=(p.1,numQ b p.1) :: asQ b a:=rfl
   rw [com_cons,e2,sumF_cons,sumF_cons]
   have k:=Rat.mul_le_mul_of_nonneg_right (Rat.intCast_le_intCast.mpr (Int.min_le_right p.2 (numQ b p.1))) (h0 p.1)
   dsimp only
   grind
theorem com_sum (b:Lq):∀a:Lq,nsumQ a=nsumQ (comQ a b)+apartQ a b
 | []=>rfl
 | x :: a=>by
   have ih:=com_sum b a
   have e1:nsumQ (x :: a)=x.2+nsumQ a:=by unfold nsumQ;rw [List.map_cons,List.sum_cons]
   have e2:nsumQ (comQ (x :: a) b)=min x.2 (numQ b x.1)+nsumQ (comQ a b):=by rw [com_cons];unfold nsumQ;rw [List.map_cons,List.sum_cons]
   have e3:apartQ (x :: a) b=max 0 (x.2 - numQ b x.1)+apartQ a b:=by unfold apartQ;rw [List.map_cons,List.sum_cons]
   rw [e1,e2,e3]
   omega
noncomputable def alongR (ds:Lq) (h:Nat) (q:Int) (dd:List Dd) (j:Nat):Rat:=goA ds h q dd (fun _=>(1,List.replicate h 0)) (2 ^ h - 1) (List.replicate h 0) j
theorem lips {a b:Lq} {h:Nat} {q:Int} {dd:List Dd} (ha:∀p∈a,0<=p.2) (hb:∀p∈b,0<=p.2) (oa:∀p∈a,Okk h p.1) (ob:∀p∈b,Okk h p.1) (nd:(a.map (·.1)).Nodup) (same:nsumQ a=nsumQ b) (q1:1<=q) (h12:h<=12) (o:OkD h dd (2 ^ h - 1)) {j:Nat} (hj:j < h+1) :
 alongR a h q dd j - alongR b h q dd j<=((apartQ a b:Int):Rat)/\alongR b h q dd j - alongR a h q dd j<=((apartQ a b:Int):Rat):=by
 have hc:∀p∈comQ a b,0<=p.2:=fun p m=>by
  obtain ⟨x,xm,rfl⟩:=List.mem_map.mp m
  have:=ha x xm
  have:=numQ_nn hb x.1
  dsimp only
  omega
 have oc:∀p∈comQ a b,Okk h p.1:=fun p m=>by
  obtain ⟨x,xm,rfl⟩:=List.mem_map.mp m
  exact oa x xm
 obtain ⟨a1,a2⟩:=go_near (com_sub1 b a) hc ha oc oa q1 h12 o hj
 obtain ⟨b1,b2⟩:=go_near (com_sub2 nd hb) hc hb oc ob q1 h12 o hj
 have e:((nsumQ a:Int):Rat)=((nsumQ (comQ a b):Int):Rat)+((apartQ a b:Int):Rat):=by rw [<- Rat.intCast_add,<- com_sum]
 rw [<- same] at b2
 rw [e] at a2 b2
 unfold alongR
 exact ⟨by grind,by grind⟩
abbrev De:=Addr × Dd
noncomputable def dev (ds:List De):List V:=ds.map fun x=>.ref x.1
noncomputable def DeG (H:Hp) (x:De):Prop:=H x.1=some (.tup [.str x.2.word,x.2.who])
theorem DeG.same {H J:Hp} {x:De} (s:Same H J) (g:DeG H x):DeG J x:=s _ _ g
noncomputable def isSeat:Dd->Bool
 | .seat _=>true
 | _=>false
noncomputable def spAlong44:Sp:=fun vs H Q _=>∃(l dl:Addr) (h:Nat) (qu:Int) (ls:Ls) (ds:List De),vs=[.ref l,.int (h:Int),.int qu,.ref dl]/\H l=some (.lst (vls ls))/\GoodL H ls/\(∀q∈ls,OkT h q.2.2.1/\0<=q.2.2.2/\Sz 64 q.2.2.2)/\ls.length<=60/\nsumQ (dsOf ls) < 2 ^ 40/\1<=qu/\Sz 64 qu/\H dl=some (.lst (dev ds))/\(∀x∈ds,DeG H x)/\OkD h (ds.map (·.2)) (2 ^ h - 1)/\(ds.map (·.2)).countP isSeat<=6/\h<=12 /\
 ∀(p:Addr) (fs:List Fq) (H':Hp),H p=none->Same H H'->H' p=some (.lst (fqv fs))->(∀f∈fs,FqG H' f)->fs.map (·.2)=((List.range (h+1)).map (alongR (dsOf ls) h qu (ds.map (·.2)))).map pr->(∀j,j < h+1->Fz (alongR (dsOf ls) h qu (ds.map (·.2)) j))->Q (.ref p) H'
theorem sums_end {ds:Lq} {h:Nat} {φ:List Int->Sr} {m:Int} {fd:List Rat} (h12:h<=12) (okd:∀p∈ds,Okk h p.1) (R:RunA ds h φ m fd):sumsR ds (rowsR ds (stF ds φ) m) h=(List.range (h+1)).map (endR ds h φ m fd):=by
 have sl:(sumsR ds (rowsR ds (stF ds φ) m) h).length=h+1:=by unfold sumsR;rw [List.length_map,List.length_range]
 refine List.ext_getElem? fun j=>?_
 rcases (by omega:j < h+1\/h+1<=j) with c | c
 ·rw [List.getElem?_map,List.getElem?_range c]
  show _=some (endR ds h φ m fd j)
  rw [<- R.at h12 okd c,List.getD_eq_getElem?_getD,List.getElem?_eq_getElem (by omega)]
  rfl
 ·rw [List.getElem?_eq_none (by omega),List.getElem?_eq_none (by rw [List.length_map,List.length_range];omega)]
theorem stF_len (ds:Lq) (φ:List Int->Sr):(stF ds φ).length=ds.length:=by unfold stF;rw [List.length_map]
theorem srt_nd {out:Ds} (h:out.Pairwise (fun x y=>HT.lexLt x.1 y.1=true)):(out.map (·.1)).Nodup:=List.pairwise_map.mpr (h.imp fun h e=>by
 rw [e] at h
 have:=lex_asym h
 rw [h] at this
 cases this)
noncomputable def tsum (f:List Int->Bool) (ds:List (List Int × Int)):Int:=(ds.map fun q=>if f q.1 then q.2 else 0).sum
theorem tsum_cons (f:List Int->Bool) (q:List Int × Int) (r:List (List Int × Int)):tsum f (q :: r)=(if f q.1 then q.2 else 0)+tsum f r:=by unfold tsum;rw [List.map_cons,List.sum_cons]
noncomputable def ksum (f:List Int->Bool) (ds:Ds) (ks:List (List Int)):Int:=(ks.map fun k=>if f k then tot ds k else 0).sum
theorem ksum_cons (f:List Int->Bool) (ds:Ds) (k:List Int) (ks:List (List Int)):ksum f ds (k :: ks)=(if f k then tot ds k else 0)+ksum f ds ks:=by unfold ksum;rw [List.map_cons,List.sum_cons]
theorem ksum_step (f:List Int->Bool) (q:List Int × Int) (ds:Ds):∀ks:List (List Int),ks.Nodup->ksum f (q :: ds) ks=ksum f ds ks+if q.1∈ks then (if f q.1 then q.2 else 0) else 0
 | [],_=>rfl
 | k :: ks,nd=>by
   rw [List.nodup_cons] at nd
   rw [ksum_cons,ksum_cons,ksum_step f q ds ks nd.2]
   show (if f k then (if q.1=k then q.2 else 0)+tot ds k else 0)+_=_
   by_cases c:q.1=k
   ·subst c
    rw [if_pos rfl,if_neg nd.1,if_pos (List.mem_cons_self ..)]
    split <;> omega
   ·rw [if_neg c]
    have e:(q.1∈k :: ks)↔q.1∈ks:=by rw [List.mem_cons];exact ⟨fun z=>z.resolve_left c,.inr⟩
    by_cases m:q.1∈ks
    ·rw [if_pos m,if_pos (e.mpr m)]
     split <;> omega
    ·rw [if_neg m,if_neg (fun z=>m (e.mp z))]
     split <;> omega
theorem ksum_nil (f:List Int->Bool):∀ks:List (List Int),ksum f [] ks=0
 | []=>rfl
 | k :: ks=>by
   rw [ksum_cons,ksum_nil f ks]
   show (if f k then (0:Int) else 0)+0=0
   split <;> rfl
theorem ksum_all (f:List Int->Bool) {ks:List (List Int)} (nd:ks.Nodup):∀{ds:Ds},(∀q∈ds,q.1∈ks)->ksum f ds ks=tsum f ds
 | [],_=>ksum_nil f ks
 | q :: ds,h=>by
   rw [ksum_step f q ds ks nd,if_pos (h q (List.mem_cons_self ..)),ksum_all f nd fun p m=>h p (List.mem_cons_of_mem _ m),tsum_cons]
   omega
theorem keys_of:∀ds:Ds,∃ks:List (List Int),ks.Nodup/\∀k,k∈ks↔k∈ds.map (·.1)
 | []=>⟨[],List.nodup_nil,fun _=>Iff.rfl⟩
 | q :: ds=>by
   obtain ⟨ks,nd,e⟩:=keys_of ds
   by_cases c:q.1∈ks
   ·refine ⟨ks,nd,fun k=>?_⟩
    rw [List.map_cons,List.mem_cons,e]
    exact ⟨.inr,fun z=>z.elim (fun z=>by rw [z];exact (e _).mp c) id⟩
   ·refine ⟨q.1 :: ks,List.nodup_cons.mpr ⟨c,nd⟩,fun k=>?_⟩
    rw [List.map_cons,List.mem_cons,List.mem_cons,e]
theorem sum_pos (f:List Int->Bool) (ds:Ds) (nn:∀ts,0<=tot ds ts):∀ks:List (List Int),ksum f ds ks=ksum f ds (ks.filter fun k=>decide (0 < tot ds k))
 | []=>rfl
 | k :: ks=>by
   rw [ksum_cons,sum_pos f ds nn ks]
   by_cases c:0 < tot ds k
   ·rw [List.filter_cons_of_pos (by simpa using c),ksum_cons]
   ·rw [List.filter_cons_of_neg (by simpa using c)]
    have:=nn k
    have e:tot ds k=0:=by omega
    rw [e]
    split <;> omega
theorem sheet_sum {ds out:Ds} (sh:Sheet ds out) (nn:∀ts,0<=tot ds ts) (f:List Int->Bool):tsum f out=tsum f ds:=by
 obtain ⟨ks,nd,e⟩:=keys_of ds
 rw [<- ksum_all f nd fun q m=>(e _).mpr (List.mem_map.mpr ⟨q,m,rfl⟩),sum_pos f ds nn]
 have on:(out.map (·.1)).Nodup:=srt_nd sh.srt
 have pm:(ks.filter fun k=>decide (0 < tot ds k)).Perm (out.map (·.1)):=(List.perm_ext_iff_of_nodup (nd.filter _) on).mpr fun k=>by
  rw [List.mem_filter,decide_eq_true_eq,e]
  constructor
  ·rintro ⟨_,p⟩
   exact List.mem_map.mpr ⟨(k,tot ds k),(sh.mem _ _).mpr ⟨rfl,p⟩,rfl⟩
  ·intro km
   obtain ⟨q,m,rfl⟩:=List.mem_map.mp km
   obtain ⟨a,b⟩:=(sh.mem q.1 q.2).mp (by exact m)
   refine ⟨Decidable.byContradiction fun no=>?_,by rw [<- a];exact b⟩
   rw [tot_out no] at a
   omega
 have e1:ksum f ds (ks.filter fun k=>decide (0 < tot ds k))=ksum f ds (out.map (·.1)):=by
  unfold ksum
  exact sum_permI (pm.map _)
 rw [e1]
 unfold ksum tsum
 rw [List.map_map]
 congr 1
 refine List.map_congr_left fun q m=>?_
 have:=((sh.mem q.1 q.2).mp m).1
 show (if f q.1 then q.2 else 0)=if f q.1 then tot ds q.1 else 0
 rw [<- this]
theorem tot_nd:∀{ds:Ds} {q:List Int × Int},(ds.map (·.1)).Nodup->q∈ds->tot ds q.1=q.2
 | [],_,_,m=>nomatch m
 | p :: r,q,nd,m=>by
   rw [List.map_cons,List.nodup_cons] at nd
   show (if p.1=q.1 then p.2 else 0)+tot r q.1=q.2
   rcases List.mem_cons.mp m with e | m
   ·subst e
    rw [if_pos rfl,tot_out nd.1]
    omega
   ·rw [if_neg (fun z=>nd.1 (by rw [z];exact List.mem_map.mpr ⟨q,m,rfl⟩)),tot_nd nd.2 m]
    omega
theorem tot_snoc (ds:Ds) (k ts:List Int) (n:Int):tot (ds++[(k,n)]) ts=tot ds ts+if k=ts then n else 0:=by
 rw [tot_append]
 show _+((if k=ts then n else 0)+0)=_
 omega
theorem DictOf.sheetN {ds out:Ds} {kvs:List (List Key × V)} (h:DictOf ds kvs) (srt:out.Pairwise (fun x y=>HT.lexLt x.1 y.1=true)) (mem:∀ts n,(ts,n)∈out↔valV kvs (ts.map Sum.inl)=some (.int n)/\0 < n):Sheet ds out:=by
 refine ⟨srt,fun ts n=>?_⟩
 rw [mem,h.val]
 by_cases c:ts∈ds.map (·.1)
 ·rw [if_pos c]
  constructor
  ·rintro ⟨e,z⟩
   injection e with e
   injection e with e
   exact ⟨e.symm,z⟩
  ·rintro ⟨e,z⟩
   exact ⟨by rw [e],z⟩
 ·rw [if_neg c,tot_out c]
  constructor
  ·rintro ⟨e,_⟩
   cases e
  ·rintro ⟨e,z⟩
   omega
theorem sheet_key {ds out:Ds} (h:Sheet ds out):∀q∈out,q.1∈ds.map (·.1):=fun q m=>by
 have:=(h.mem q.1 q.2).mp m
 by_cases c:q.1∈ds.map (·.1)
 ·exact c
 ·rw [tot_out c] at this
  omega
theorem sheet_len {ds out:Ds} {p:List (List Int)} (h:Sheet ds out) (sub:∀q∈ds,q.1∈p):out.length<=p.length:=by
 have:=nodup_len (p:=p) (srt_nd h.srt) (fun t m=>by
  obtain ⟨q,qm,rfl⟩:=List.mem_map.mp m
  obtain ⟨d,dm,de⟩:=List.mem_map.mp (sheet_key h q qm)
  rw [<- de]
  exact sub d dm)
 rwa [List.length_map] at this
theorem nsum_sheet {ds out:Ds} (sh:Sheet ds out) (nn:∀ts,0<=tot ds ts):nsumQ out=nsumQ ds:=sheet_sum sh nn fun _=>true
theorem nsum_append (a b:Lq):nsumQ (a++b)=nsumQ a+nsumQ b:=by unfold nsumQ;rw [List.map_append,List.sum_append]
theorem numQ_tot:∀{b:Lq},(b.map (·.1)).Nodup->∀ts,numQ b ts=tot b ts
 | [],_,_=>rfl
 | x :: b,nd,ts=>by
   rw [List.map_cons,List.nodup_cons] at nd
   rw [numQ_cons,numQ_tot nd.2]
   show _=(if x.1=ts then x.2 else 0)+tot b ts
   split
   ·rename_i c
    rw [<- c,tot_out nd.1]
    omega
   ·omega
noncomputable def spBallots44:Sp:=fun vs H Q _=>∃(l:Addr) (ls:Ls),vs=[.ref l]/\H l=some (.lst (vls ls))/\GoodL H ls/\ls.length<=60/\∀H':Hp,Same H H'->Q (.int (nsumQ (dsOf ls))) H'
noncomputable def spApart44:Sp:=fun vs H Q _=>∃(l o:Addr) (ls os:Ls),vs=[.ref l,.ref o]/\H l=some (.lst (vls ls))/\GoodL H ls/\ls.length<=60/\H o=some (.lst (vls os))/\GoodL H os/\os.length<=60/\((dsOf os).map (·.1)).Nodup/\∀H':Hp,Same H H'->Q (.int (apartQ (dsOf ls) (dsOf os))) H'
noncomputable def spDeeds44:Sp:=fun vs H Q _=>∃(c:Int) (h:Nat),vs=[.int c,.int (h:Int)]/\Sz 200 c/\1<=h/\h<=12/\∀(l:Addr) (ds:List De) (H':Hp),H l=none->Same H H'->H' l=some (.lst (dev ds))->(∀x∈ds,DeG H' x)->OkD h (ds.map (·.2)) (2 ^ h - 1)->(ds.map (·.2)).countP isSeat<=3->ds.length<=h->Q (.ref l) H'
noncomputable def spOther44 (K:PySem.W.Frag):Sp:=fun vs H Q _=>∃(p l:Addr) (ns:List Int) (ls:Ls) (h:Nat),vs=[.ref p,.ref l,.int (h:Int)]/\SqL K H p (ns.map V.int)/\ns.length<=63/\H l=some (.lst (vls ls))/\GoodL H ls/\((dsOf ls).map (·.1)).Nodup/\(∀q∈dsOf ls,OkT h q.1/\1<=q.2)/\ls.length<=13/\1<=h/\h<=12 /\
 ∀(o:Addr) (os:Ls) (H':Hp),H o=none->Same H H'->H' o=some (.lst (vls os))->GoodL H' os->((dsOf os).map (·.1)).Nodup->(∀q∈dsOf os,OkT h q.1/\1<=q.2)->nsumQ (dsOf os)=nsumQ (dsOf ls)->os.length<=21->Q (.ref o) H'
theorem okd_of {h:Nat} (h12:h<=12):∀{dd:List Dd} {m:Int},0<=m->(dd.map Dd.num).Nodup->(∀d∈dd,(d=.seat d.num\/d=.out d.num)/\d.num < h/\bit m d.num=true)->OkD h dd m
 | [],_,_,_,_=>trivial
 | d :: dd,m,m0,nd,o=>by
   rw [List.map_cons,List.nodup_cons] at nd
   obtain ⟨o1,o2,o3⟩:=o d (List.mem_cons_self ..)
   obtain ⟨l1,l2,_⟩:=less_len m0 o3 (by omega)
   refine ⟨⟨d.num,o1,o2,o3⟩,okd_of h12 l1 nd.2 fun x k=>?_⟩
   obtain ⟨x1,x2,x3⟩:=o x (List.mem_cons_of_mem _ k)
   have ne:x.num≠d.num:=fun z=>nd.1 (by rw [<- z];exact List.mem_map.mpr ⟨x,k,rfl⟩)
   exact ⟨x1,x2,by rw [l2,x3,decide_eq_true ne];rfl⟩
noncomputable def TalV (h:Nat) (fs:List Fq) (f:Nat->Rat):Prop:=fs.map (·.2)=((List.range (h+1)).map f).map pr
theorem TalV.len {h:Nat} {fs:List Fq} {f:Nat->Rat} (e:TalV h fs f):fs.length=h+1:=by
 have:=congrArg List.length e
 rw [List.length_map,List.length_map,List.length_map,List.length_range] at this
 exact this
theorem TalV.at {h j:Nat} {fs:List Fq} {f:Nat->Rat} (e:TalV h fs f) (hj:j < h+1):∃x,fs[j]?=some x/\x.2=pr (f j):=by
 have k:(fs.map (·.2))[j]?=(((List.range (h+1)).map f).map pr)[j]?:=by rw [show fs.map (·.2)=_ from e]
 rw [List.getElem?_map,List.getElem?_map,List.getElem?_map,List.getElem?_range hj] at k
 obtain ⟨x,hx,e⟩:=Option.map_eq_some_iff.mp k
 exact ⟨x,hx,e⟩
theorem TalV.get {h j:Nat} {fs:List Fq} {f:Nat->Rat} {x:Fq} (e:TalV h fs f) (hx:fs[j]?=some x):j < h+1/\x.2=pr (f j):=by
 have hj:j < h+1:=by
  have:=(List.getElem?_eq_some_iff.mp hx).1
  rw [e.len] at this
  exact this
 obtain ⟨y,hy,ey⟩:=e.at hj
 rw [hx] at hy
 cases hy
 exact ⟨hj,ey⟩
theorem pr_num (r:Rat):((pr r).1:Rat)=r*((pr r).2:Rat):=by
 have e:=vq_pr r
 have b:=vq_ne (pr_b0 r)
 unfold vq at e
 have k:=Rat.div_mul_cancel (a:=((pr r).1:Rat)) b
 rw [e] at k
 exact k.symm
theorem gap_le {x y:Rat} {n:Int} (h:x - y<=(n:Rat)):(pr x).1*(pr y).2 - (pr y).1*(pr x).2<=n*((pr x).2*(pr y).2):=by
 have bx:=pr_b0 x
 have by':=pr_b0 y
 refine Rat.intCast_le_intCast.mp ?_
 rw [Rat.intCast_sub,Rat.intCast_mul,Rat.intCast_mul,Rat.intCast_mul,Rat.intCast_mul,pr_num x,pr_num y]
 have p:(0:Rat)<=((pr x).2:Rat)*((pr y).2:Rat):=Rat.mul_nonneg (Rat.intCast_nonneg.mpr (by omega)) (Rat.intCast_nonneg.mpr (by omega))
 have k:=Rat.mul_le_mul_of_nonneg_right h p
 generalize ((pr x).2:Rat)=u at k ⊢
 generalize ((pr y).2:Rat)=v at k ⊢
 grind
structure GapV (n:Int) (w:Int × Int):Prop where
 b:0 < w.2
 u:w.1<=n*w.2
 l:-(n*w.2)<=w.1
 s1:Sz 9402 w.1
 s2:Sz 9402 w.2
theorem gap_two {n:Int} {w v:Int × Int} (a:GapV n w) (b:GapV n v):w.1*v.2 - v.1*w.2<=2*n*w.2*v.2:=by
 have k1:=Int.mul_le_mul_of_nonneg_right a.u (Int.le_of_lt b.b)
 have k2:=Int.mul_le_mul_of_nonneg_right b.l (Int.le_of_lt a.b)
 have e1:2*n*w.2*v.2=n*w.2*v.2+n*v.2*w.2:=by
  rw [show 2*n*w.2*v.2=2*(n*w.2*v.2) from by rw [Int.mul_assoc,Int.mul_assoc,Int.mul_assoc],show n*v.2*w.2=n*w.2*v.2 from by rw [Int.mul_assoc,Int.mul_comm v.2,<- Int.mul_assoc]]
  omega
 rw [Int.neg_mul] at k2
 omega
noncomputable def spGood44:Sp:=fun vs H Q _=>∃(fl dl:Addr) (h:Nat) (N qu:Int) (fs:List Fq) (f:Nat->Rat) (ds:List De),vs=[.ref fl,.int (h:Int),.int N,.ref dl,.int qu]/\H fl=some (.lst (fqv fs))/\(∀x∈fs,FqG H x)/\TalV h fs f/\(∀j,j < h+1->Fz (f j))/\(sumB f (h+1) fun _=>true)=(N:Rat)/\H dl=some (.lst (dev ds))/\(∀x∈ds,DeG H x)/\(∀x∈ds,x.2.num < h/\((x.2=.seat x.2.num/\f x.2.num<=(qu:Rat))\/(x.2=.out x.2.num/\f x.2.num=0)))/\h<=12/\Sz 64 qu/\Sz 64 N/\∀H':Hp,Same H H'->Q (.bl true) H'
noncomputable def spNear44:Sp:=fun vs H Q _=>∃(a b:Addr) (h:Nat) (n:Int) (fs gs:List Fq) (f g:Nat->Rat),vs=[.ref a,.ref b,.int (h:Int),.int n]/\H a=some (.lst (fqv fs))/\(∀x∈fs,FqG H x)/\TalV h fs f/\H b=some (.lst (fqv gs))/\(∀x∈gs,FqG H x)/\TalV h gs g/\(∀j,j < h+1->Fz (f j)/\Fz (g j)/\f j - g j<=(n:Rat)/\g j - f j<=(n:Rat))/\h<=12/\Sz 64 n/\∀H':Hp,Same H H'->Q (.bl true) H'
noncomputable def spWhere44 (K:PySem.W.Frag):Sp:=fun vs H Q _=>∃(p:Addr) (ts:List Int) (s:Int) (h:Nat),vs=[.ref p,.int s]/\SqT K H p (ts.map V.int)/\OkT h ts/\∀(l:Addr) (H':Hp),H l=none->Same H H'->H' l=some (.lst ((whereI ts s).map V.int))->Q (.ref l) H'
noncomputable def spLowest44:Sp:=fun vs H Q _=>∃t b:Int,vs=[.int t,.int b]/\0<=t/\0 < b/\Sz 13500 t/\Sz 13500 b/\∀(p:Addr) (H':Hp),H p=none->Same H H'->FqG H' (p,pr ((t:Rat) / (b:Rat)))->Q (.ref p) H'
noncomputable def Fw (v:Rat):Prop:=0<=v/\Sz 500 (pr v).1/\Sz 500 (pr v).2
structure FreeV (H:Hp) (fl:Addr) (fr:List Fq) (ls:Ls) (φ:List Int->Sr):Prop where
 l:H fl=some (.lst (fqv fr))
 g:∀x∈fr,FqG H x
 v:fr.map (·.2)=ls.map fun p=>pr (φ p.2.2.1).1
 z:∀p∈ls,Fw (φ p.2.2.1).1
theorem FreeV.same {H J:Hp} {fl:Addr} {fr:List Fq} {ls:Ls} {φ:List Int->Sr} (s:Same H J) (f:FreeV H fl fr ls φ):FreeV J fl fr ls φ:=⟨s _ _ f.l,fun x m=>(f.g x m).same s,f.v,f.z⟩
theorem FreeV.at {H:Hp} {fl:Addr} {fr:List Fq} {ls:Ls} {φ:List Int->Sr} (f:FreeV H fl fr ls φ) {i:Nat} {p} (e:ls[i]?=some p):∃x,fr[i]?=some x/\x.2=pr (φ p.2.2.1).1/\FqG H x/\Fw (φ p.2.2.1).1:=by
 have k:(fr.map (·.2))[i]?=(ls.map fun p=>pr (φ p.2.2.1).1)[i]?:=by rw [f.v]
 rw [List.getElem?_map,List.getElem?_map,e] at k
 obtain ⟨x,hx,ex⟩:=Option.map_eq_some_iff.mp k
 exact ⟨x,hx,ex,f.g x (List.mem_of_getElem? hx),f.z p (List.mem_of_getElem? e)⟩
noncomputable def spTally44:Sp:=fun vs H Q _=>∃(l fl:Addr) (h hd:Nat) (ls:Ls) (fr:List Fq) (φ:List Int->Sr) (s:Int),vs=[.ref l,.ref fl,.int s,.int (hd:Int)]/\H l=some (.lst (vls ls))/\GoodL H ls/\(∀q∈ls,OkT h q.2.2.1/\0<=q.2.2.2/\Sz 64 q.2.2.2)/\ls.length<=13/\FreeV H fl fr ls φ/\hd < 12/\h<=12/\∀(a:Addr) (H':Hp),H a=none->Same H H'->FqG H' (a,pr (sumF (dsOf ls) fun ts=>shareR ts s hd (φ ts).1))->Q (.ref a) H'
theorem addD_szw {x y:Int × Int} {n:Nat} (h1:Sz n x.1) (h2:Sz n x.2) (h3:Sz 564 y.1) (h4:Sz 564 y.2):Sz (n+566) (addD x y).1/\Sz (n+566) (addD x y).2:=by
 unfold addD
 by_cases c:y.1=0
 ·rw [if_pos c];exact ⟨h1.mono (by omega),h2.mono (by omega)⟩
 ·rw [if_neg c]
  by_cases c2:x.2=y.2
  ·rw [if_pos c2];exact ⟨(h1.add h3).mono (by omega),h2.mono (by omega)⟩
  ·rw [if_neg c2];exact ⟨((h1.mul h4).add (h3.mul h2)).mono (by omega),(h2.mul h4).mono (by omega)⟩
theorem addD_nn {x y:Int × Int} (x0:0<=x.1) (xb:0 < x.2) (y0:0<=y.1) (yb:0 < y.2):0<=(addD x y).1:=by
 unfold addD
 split
 ·exact x0
 ·split
  ·show 0<=x.1+y.1
   omega
  ·have a:=Int.mul_nonneg x0 (Int.le_of_lt yb)
   have b:=Int.mul_nonneg y0 (Int.le_of_lt xb)
   show 0<=x.1*y.2+y.1*x.2
   omega
theorem flat_int (ns:List Int):(ns.map V.int).all flatV=true:=List.all_eq_true.mpr fun x m=>by
 obtain ⟨n,_,rfl⟩:=List.mem_map.mp m
 rfl
theorem sumF_snoc (a:Lq) (p:List Int × Int) (f:List Int->Rat):sumF (a++[p]) f=sumF a f+(p.2:Rat)*f p.1:=by
 unfold sumF
 rw [List.map_append,List.sum_append]
 show _+((p.2:Rat)*f p.1+0)=_
 grind
theorem share_vq {r:Rat} {n:Int} {k:Nat} (k1:1<=k):vq ((pr r).1*n,(pr r).2*(k:Int))=(n:Rat)*(r / (k:Rat)):=by
 have b:=vq_ne (pr_b0 r)
 have nz:=q0_ne k1
 unfold vq
 dsimp only
 rw [Rat.intCast_mul,Rat.intCast_mul,pr_num,show (((k:Nat):Int):Rat)=(k:Rat) from rfl]
 generalize ((pr r).2:Rat)=u at b ⊢
 grind
theorem where_iff {ts:List Int} {s:Int} {hd:Nat} (h:hd < 12):(hd:Int)∈whereI ts s↔bit (lieI ts s) hd=true:=by
 unfold whereI
 rw [hands_mem]
 constructor
 ·rintro ⟨i,_,b,e⟩
  have:i=hd:=by omega
  rw [<- this];exact b
 ·intro b
  exact ⟨hd,h,b,rfl⟩
noncomputable def spBehind44:Sp:=fun vs H Q _=>∃(l fl:Addr) (h hd:Nat) (ls:Ls) (fr:List Fq) (φ:List Int->Sr) (s qu:Int) (ta:Addr) (t:Rat),vs=[.ref l,.ref fl,.int s,.int (hd:Int),.ref ta,.int qu]/\H l=some (.lst (vls ls))/\GoodL H ls/\(∀q∈ls,OkT h q.2.2.1/\0<=q.2.2.2/\Sz 64 q.2.2.2)/\ls.length<=13/\FreeV H fl fr ls φ/\hd < 12/\h<=12/\t=(sumF (dsOf ls) fun ts=>shareR ts s hd (φ ts).1)/\FqG H (ta,pr t)/\0<=t/\Sz 600 (pr t).1/\Sz 600 (pr t).2/\1<=qu/\Sz 64 qu /\
 ∀(a:Addr) (ws:List Fq) (H':Hp),H a=none->Same H H'->H' a=some (.lst (fqv ws))->(∀x∈ws,FqG H' x)->ws.map (·.2)=(ls.map fun p=>pr (nxF (dsOf ls) φ s hd qu p.2.2.1).1)->Q (.ref a) H'
theorem low_vq {f:Rat} {l0 l1:Int} (b1:0 < l1):(((pr f).1*l0:Int):Rat) / (((pr f).2*l1:Int):Rat)=f*((l0:Rat) / (l1:Rat)):=by
 have b:=vq_ne (pr_b0 f)
 have c:=vq_ne (v:=(l0,l1)) b1
 dsimp only at c
 rw [Rat.intCast_mul,Rat.intCast_mul,pr_num]
 generalize ((pr f).2:Rat)=u at b ⊢
 generalize (l1:Rat)=w at c ⊢
 grind
theorem left_one {f:Rat} {n:Nat} (n1:1<=n):f*((((n:Int) - 1:Int):Rat) / (((n:Int):Int):Rat))=f - f / (n:Rat)*1:=by
 have nz:=q0_ne n1
 rw [Rat.intCast_sub,show (((n:Nat):Int):Rat)=(n:Rat) from rfl,show ((1:Int):Rat)=1 from rfl]
 grind
theorem left_q {f t:Rat} {n:Nat} {q:Int} (n1:1<=n) (q1:1<=q) (lt:(q:Rat) < t):f*((((n:Int)*(pr t).1 - q*(pr t).2:Int):Rat) / (((n:Int)*(pr t).1:Int):Rat))=f - f / (n:Rat)*((q:Rat) / t):=by
 have nz:=q0_ne n1
 have hq:(1:Rat)<=(q:Rat):=Rat.intCast_le_intCast.mpr q1
 have tz:t≠0:=by grind
 have b:=vq_ne (pr_b0 t)
 rw [Rat.intCast_sub,Rat.intCast_mul,Rat.intCast_mul,pr_num,show (((n:Nat):Int):Rat)=(n:Rat) from rfl]
 generalize ((pr t).2:Rat)=u at b ⊢
 grind
theorem lt_num {t:Rat} {q:Int}:q*(pr t).2 < (pr t).1↔(q:Rat) < t:=by
 have:=lt_pr (q:Rat) t
 rw [pr_q] at this
 dsimp only at this
 rw [Int.mul_one] at this
 exact this
noncomputable def spWalked44:Sp:=fun vs H Q _=>∃(l dl:Addr) (h:Nat) (qu:Int) (ls:Ls) (ds:List De),vs=[.ref l,.int (h:Int),.int qu,.ref dl]/\H l=some (.lst (vls ls))/\GoodL H ls/\(∀q∈ls,OkT h q.2.2.1/\0<=q.2.2.2/\Sz 64 q.2.2.2)/\ls.length<=13/\nsumQ (dsOf ls) < 2 ^ 40/\1<=qu/\Sz 64 qu/\H dl=some (.lst (dev ds))/\(∀x∈ds,DeG H x)/\OkD h (ds.map (·.2)) (2 ^ h - 1)/\(ds.map (·.2)).countP isSeat<=3/\h<=12 /\
 ∀(p:Addr) (fs:List Fq) (H':Hp),H p=none->Same H H'->H' p=some (.lst (fqv fs))->(∀f∈fs,FqG H' f)->fs.map (·.2)=((List.range h).map (alongR (dsOf ls) h qu (ds.map (·.2)))).map pr->Q (.ref p) H'
theorem rep_flat {α:Type} (x:α):∀n:Nat,(List.replicate n [x]).flatten=List.replicate n x
 | 0=>rfl
 | n+1=>by rw [List.replicate_succ,List.flatten_cons,rep_flat x n,List.replicate_succ];rfl
theorem tal_ok {ds:Lq} {h hd:Nat} {M m:Int} {φ:List Int->Sr} (si:StI M h (stF ds φ)) (hd12:hd < 12) (hn:∀p∈ds,0<=p.2):0<=(sumF ds fun ts=>shareR ts m hd (φ ts).1)/\(sumF ds fun ts=>shareR ts m hd (φ ts).1)<=((nsumQ ds:Int):Rat)/\IntM (M*27720) (sumF ds fun ts=>shareR ts m hd (φ ts).1):=by
 have k:∀r∈ds.map (fun p=>shareR p.1 m hd (φ p.1).1),0<=r/\r<=1/\IntM (M*27720) r:=fun r rm=>by
  obtain ⟨p,pm,rfl⟩:=List.mem_map.mp rm
  obtain ⟨a,b,c⟩:=si.free (φ p.1) (List.mem_map.mpr ⟨p,pm,rfl⟩)
  have s:=share_nn (ts:=p.1) (s:=m) a hd12
  exact ⟨s.1,Rat.le_trans s.2 b,share_int c hd12⟩
 rw [<- wsum_f]
 exact ⟨wsumR_nn hn fun r rm=>(k r rm).1,wsumR_le hn fun r rm=>⟨(k r rm).1,(k r rm).2.1⟩,wsumR_int fun r rm=>(k r rm).2.2⟩
theorem FreeV.put {H:Hp} {fl F:Addr} {fr:List Fq} {ls:Ls} {φ:List Int->Sr} {ys:List V} {o:HO} (f:FreeV H fl fr ls φ) (e:H F=some (.lst ys)) (ne:fl≠F):FreeV (upd H F o) fl fr ls φ:=⟨by rw [upd_ne ne];exact f.l,fun x m=>FqG.upd (f.g x m) e,f.v,f.z⟩
theorem fd_set {fs:List Fq} {fd:List Rat} {i:Nat} {a:Addr} {r:Rat} (e:fs.map (·.2)=fd.map pr):(fs.set i (a,pr r)).map (·.2)=(fd.set i r).map pr:=by
 rw [List.map_set,List.map_set,e]
noncomputable def gF (ds:Lq) (φ:List Int->Sr) (m:Int) (fd:List Rat) (i j:Nat):Rat:=if bit m j=true/\j < i then sumF ds fun ts=>shareR ts m j (φ ts).1 else fd.getD j 0
theorem gF_zero {ds:Lq} {φ:List Int->Sr} {m:Int} {fd:List Rat} {h:Nat} (l:fd.length=h):(List.range h).map (gF ds φ m fd 0)=fd:=by
 refine List.ext_getElem? fun j=>?_
 rcases (by omega:j < h\/h<=j) with c | c
 ·rw [List.getElem?_map,List.getElem?_range c]
  show some (gF ds φ m fd 0 j)=_
  unfold gF
  rw [if_neg (fun z=>Nat.not_lt_zero _ z.2),List.getD_eq_getElem?_getD,List.getElem?_eq_getElem (by omega)]
  rfl
 ·rw [List.getElem?_eq_none (by rw [List.length_map,List.length_range];exact c),List.getElem?_eq_none (by omega)]
theorem gF_no {ds:Lq} {φ:List Int->Sr} {m:Int} {fd:List Rat} {h i:Nat} (b:¬ bit m i=true):(List.range h).map (gF ds φ m fd (i+1))=(List.range h).map (gF ds φ m fd i):=List.map_congr_left fun j _=>by
 unfold gF
 by_cases c:j=i
 ·rw [c,if_neg (fun z=>b z.1),if_neg (fun z=>b z.1)]
 ·by_cases d:bit m j=true/\j < i
  ·rw [if_pos d,if_pos ⟨d.1,by omega⟩]
  ·rw [if_neg d,if_neg (fun z=>d ⟨z.1,by have:=z.2;omega⟩)]
theorem gF_yes {ds:Lq} {φ:List Int->Sr} {m:Int} {fd:List Rat} {h i:Nat} (b:bit m i=true) (hi:i < h):(List.range h).map (gF ds φ m fd (i+1))=((List.range h).map (gF ds φ m fd i)).set i (sumF ds fun ts=>shareR ts m i (φ ts).1):=by
 refine List.ext_getElem? fun j=>?_
 rw [List.getElem?_set,List.length_map,List.length_range]
 by_cases c:i=j
 ·subst c
  rw [if_pos rfl,if_pos hi,List.getElem?_map,List.getElem?_range hi]
  show some (gF ds φ m fd (i+1) i)=_
  unfold gF
  rw [if_pos ⟨b,by omega⟩]
 ·rw [if_neg c,List.getElem?_map,List.getElem?_map]
  rcases (by omega:j < h\/h<=j) with d | d
  ·rw [List.getElem?_range d]
   show some (gF ds φ m fd (i+1) j)=some (gF ds φ m fd i j)
   unfold gF
   by_cases d:bit m j=true/\j < i
   ·rw [if_pos d,if_pos ⟨d.1,by omega⟩]
   ·rw [if_neg d,if_neg (fun z=>d ⟨z.1,by have:=z.2;omega⟩)]
  ·rw [List.getElem?_eq_none (by rw [List.length_range];exact d)]
   rfl
theorem gF_end {ds:Lq} {φ:List Int->Sr} {m:Int} {fd:List Rat} {h:Nat}:(List.range h).map (gF ds φ m fd h)=(List.range h).map (endR ds h φ m fd):=List.map_congr_left fun j k=>by
 have hj:=List.mem_range.mp k
 unfold gF endR
 rw [if_pos hj]
 by_cases c:bit m j=true
 ·rw [if_pos ⟨c,hj⟩,if_pos c]
 ·rw [if_neg (fun z=>c z.1),if_neg c]
theorem mB_le3:∀{k:Nat},k<=3->mB k<=498:=fun {k} h=>by
 rcases (by omega:k=0\/k=1\/k=2\/k=3) with rfl | rfl | rfl | rfl <;> decide
theorem fw_of {M:Int} {z:Rat} (M0:0 < M) (Mz:Sz 498 M) (h0:0<=z) (h1:z<=1) (i:IntM M z):Fw z:=by
 have f:=fqm_pr h0 h1 i
 exact ⟨h0,(f.szt M0 Mz).mono (by decide),(f.szb M0 Mz).mono (by decide)⟩
theorem fw_one:Fw 1:=⟨by decide,sz_of (by decide) (by decide),sz_of (by decide) (by decide)⟩
theorem tal_sz {M:Int} {t:Rat} {N:Int} (M0:0 < M) (Mz:Sz 498 M) (t0:0<=t) (tN:t<=(N:Rat)) (N40:N < 2 ^ 40) (i:IntM (M*27720) t):Sz 600 (pr t).1/\Sz 600 (pr t).2:=by
 have Mz5:Sz 513 (M*27720):=(Mz.mul (sz_of (by decide) (by decide):Sz 15 (27720:Int))).mono (by decide)
 have b:=dvd_sz i.dvd (show 0 < M*27720 by omega) Mz5
 have k:=num_le tN
 have k0:=pr_t0 t0
 have bb:=pr_b0 t
 have N0:0<=N:=by
  have:(0:Rat)<=(N:Rat):=Rat.le_trans t0 tN
  exact Rat.intCast_nonneg.mp this
 have nz:Sz 40 N:=sz_of (by omega) N40
 have nb:=nz.mul b
 refine ⟨?_,b.mono (by decide)⟩
 have:Sz 553 (pr t).1:=by
  have nb':Sz 553 (N*(pr t).2):=nb
  generalize N*(pr t).2=y at k nb'
  unfold Sz at nb' ⊢
  omega
 exact this.mono (by decide)
theorem pick3 {x0 x1 x2:Int} (P:Int->Prop) (m:Int) (h0:0<=m) (h3:m < 3) (p0:P x0) (p1:P x1) (p2:P x2):∃v,atI [V.int x0,V.int x1,V.int x2] m=some (.int v)/\P v:=by
 rcases (by omega:m=0\/m=1\/m=2) with rfl | rfl | rfl
 ·exact ⟨x0,rfl,p0⟩
 ·exact ⟨x1,rfl,p1⟩
 ·exact ⟨x2,rfl,p2⟩
theorem go_fd {ds:Lq} {h:Nat} {q:Int} (hn:∀p∈ds,0<=p.2) (q1:1<=q) (h12:h<=12) {j:Nat} (hj:j < h):∀(dd:List Dd) (φ:List Int->Sr) (m:Int) (fd:List Rat),0<=m->OkD h dd m->RunA ds h φ m fd->bit m j=false->goA ds h q dd φ m fd j=fd.getD j 0
 | [],φ,m,fd,_,_,_,b=>by
   show endR ds h φ m fd j=_
   unfold endR
   rw [if_pos hj,if_neg (by rw [b];decide)]
 | d :: dd,φ,m,fd,m0,o,R,b=>by
   obtain ⟨R2,m2⟩:=R.step hn q1 h12 m0 o.1
   obtain ⟨hd,c,hh,bh⟩:=o.1
   obtain ⟨_,lb,_⟩:=less_len m0 bh (by omega)
   have ne:hd≠j:=fun z=>by rw [z,b] at bh;cases bh
   have dn:d.num=hd:=by rcases c with c | c <;> rw [c] <;> rfl
   have ih:=go_fd hn q1 h12 hj dd _ _ _ m2 o.2 R2 (by rw [dn,lb,b];rfl)
   refine Eq.trans ih ?_
   rcases c with c | c
   ·rw [c]
    show (fd.set hd _).getD j 0=_
    rw [getD_set (by rw [R.fl];exact hj),if_neg ne]
   ·rw [c]
    rfl
theorem go_dd {ds:Lq} {h:Nat} {q:Int} (hn:∀p∈ds,0<=p.2) (q1:1<=q) (h12:h<=12):∀(dd:List Dd) (φ:List Int->Sr) (m:Int) (fd:List Rat),0<=m->OkD h dd m->RunA ds h φ m fd->∀d∈dd,d.num < h/\((d=.seat d.num/\goA ds h q dd φ m fd d.num<=(q:Rat))\/(d=.out d.num/\goA ds h q dd φ m fd d.num=0))
 | [],_,_,_,_,_,_,d,k=>nomatch k
 | d :: dd,φ,m,fd,m0,o,R,x,k=>by
   obtain ⟨R2,m2⟩:=R.step hn q1 h12 m0 o.1
   rcases List.mem_cons.mp k with rfl | k
   ·obtain ⟨hd,c,hh,bh⟩:=o.1
    obtain ⟨_,lb,_⟩:=less_len m0 bh (by omega)
    have dn:x.num=hd:=by rcases c with c | c <;> rw [c] <;> rfl
    have e:=go_fd hn q1 h12 hh dd _ _ _ m2 o.2 R2 (by rw [dn,lb,decide_eq_false (fun z=>z rfl),Bool.and_false])
    have e2:goA ds h q (x :: dd) φ m fd hd=(fndA ds q φ m fd x).getD hd 0:=e
    rw [dn,e2]
    refine ⟨hh,?_⟩
    rcases c with c | c
    ·refine .inl ⟨c,?_⟩
     rw [c]
     show (fd.set hd _).getD hd 0<=_
     rw [getD_set (by rw [R.fl];exact hh),if_pos rfl]
     unfold capR
     split
     ·exact Rat.le_refl
     ·rename_i z;exact Rat.not_lt.mp z
    ·refine .inr ⟨c,?_⟩
     rw [c]
     exact R.fz hd bh
   ·exact go_dd hn q1 h12 dd _ _ _ m2 o.2 R2 x k
theorem num_nsum:∀{ds:Lq},(∀q∈ds,0<=q.2)->∀q∈ds,q.2<=nsumQ ds
 | [],_,_,k=>nomatch k
 | x :: ds,h,q,k=>by
   have e:nsumQ (x :: ds)=x.2+nsumQ ds:=by unfold nsumQ;rw [List.map_cons,List.sum_cons]
   have n:0<=nsumQ ds:=by
    clear e k
    induction ds with
    | nil=>exact Int.le_refl _
    | cons y ds ih =>
      have e:nsumQ (y :: ds)=y.2+nsumQ ds:=by unfold nsumQ;rw [List.map_cons,List.sum_cons]
      have a:=h y (List.mem_cons_of_mem _ (List.mem_cons_self ..))
      have b:=ih fun q m=>h q (by
       rcases List.mem_cons.mp m with rfl | m
       ·exact List.mem_cons_self ..
       ·exact List.mem_cons_of_mem _ (List.mem_cons_of_mem _ m))
      omega
   rcases List.mem_cons.mp k with rfl | k
   ·omega
   ·have a:=num_nsum (fun q m=>h q (List.mem_cons_of_mem _ m)) q k
    have b:=h x (List.mem_cons_self ..)
    omega
theorem apart_in (b:Lq):∀{a:Lq},(∀p∈a,0<=p.2)->(∀ts,0<=numQ b ts)->0<=apartQ a b/\apartQ a b<=nsumQ a
 | [],_,_=>⟨Int.le_refl _,Int.le_refl _⟩
 | x :: a,h,n=>by
   obtain ⟨i,j⟩:=apart_in b (a:=a) (fun p m=>h p (List.mem_cons_of_mem _ m)) n
   have e1:nsumQ (x :: a)=x.2+nsumQ a:=by unfold nsumQ;rw [List.map_cons,List.sum_cons]
   have e3:apartQ (x :: a) b=max 0 (x.2 - numQ b x.1)+apartQ a b:=by unfold apartQ;rw [List.map_cons,List.sum_cons]
   have:=h x (List.mem_cons_self ..)
   have:=n x.1
   omega
noncomputable def deD (x:De):PyData:=ddD x.2.word x.2.data
theorem lay_des (ds:List De):Lay 4 (.list (ds.map deD)):=lay_list (lay_map (f:=deD) (fun x=>lay_dd47 x.2) _)
theorem reps_de {K:PySem.W.Frag} {H:Hp} {ds:List De} (g:∀x∈ds,DeG H x):Reps K H (dev ds) (ds.map deD):=reps_map fun x m=>rep_dd (g x m)
theorem lay_fs (fs:List Fq):Lay 2 (.list ((fs.map (·.2)).map fD)):=lay_list (lay_map lay_f _)
theorem lay_three {a b c:PyData} {k:Nat} (ha:Lay k a) (hb:Lay k b) (hc:Lay k c):Lay (k+1) (.list [a,b,c]):=lay_list fun x m=>by
 rcases List.mem_cons.mp m with rfl | m
 ·exact ha
 rcases List.mem_cons.mp m with rfl | m
 ·exact hb
 ·rw [List.mem_singleton.mp m];exact hc
theorem lay_duo {a b:PyData} {k:Nat} (ha:Lay k a) (hb:Lay k b):Lay (k+1) (.list [a,b]):=lay_list fun x m=>by
 rcases List.mem_cons.mp m with rfl | m
 ·exact ha
 ·rw [List.mem_singleton.mp m];exact hb
def top (i:Nat):Stmt:=PySem.Challenge.pw_pollproof_k44_tallies_of_two_sheets.main.body.getD i (.Pass ⟨0,0,0,0⟩)
abbrev s_all_of:Stmt:=top 4
abbrev s_holds:Stmt:=top 5
abbrev s_without:Stmt:=top 6
abbrev s_members:Stmt:=top 8
abbrev s_is_whole:Stmt:=top 10
abbrev s_divisor:Stmt:=top 11
abbrev s_lies:Stmt:=top 13
abbrev s_under:Stmt:=top 19
abbrev s_begin:Stmt:=top 21
abbrev s_with_kept:Stmt:=top 30
abbrev s_law_cell:Stmt:=top 35
abbrev s_law_mixed:Stmt:=top 36
abbrev s_law_mask:Stmt:=top 38
abbrev s_law_number:Stmt:=top 40
abbrev s_law_whole:Stmt:=top 42
abbrev s_law_divisor:Stmt:=top 43
abbrev s_law_added:Stmt:=top 45
abbrev s_law_apart:Stmt:=top 48
abbrev s_law_ballots:Stmt:=top 50
abbrev s_law_near:Stmt:=top 52
abbrev s_law_where:Stmt:=top 54
abbrev s_size:Stmt:=top 7
abbrev s_fraction:Stmt:=top 15
abbrev s_even_part:Stmt:=top 22
abbrev s_common_bottom:Stmt:=top 25
abbrev s_law_lots:Stmt:=top 37
abbrev s_law_slip:Stmt:=top 39
abbrev s_law_is_fraction:Stmt:=top 44
abbrev s_law_lowest:Stmt:=top 53
abbrev s_minus:Stmt:=top 16
abbrev s_times:Stmt:=top 17
abbrev s_parted:Stmt:=top 18
abbrev s_table_row:Stmt:=top 23
abbrev s_weighed:Stmt:=top 26
abbrev s_share_at:Stmt:=top 28
abbrev s_law_sheet:Stmt:=top 41
abbrev s_law_other:Stmt:=top 47
abbrev s_law_deeds:Stmt:=top 49
abbrev s_law_good:Stmt:=top 51
abbrev s_law_tally:Stmt:=top 55
abbrev s_law_behind:Stmt:=top 56
abbrev s_table:Stmt:=top 24
abbrev s_tallies:Stmt:=top 27
abbrev s_part_kept:Stmt:=top 29
abbrev s_law_walked:Stmt:=top 57
abbrev s_kept_by:Stmt:=top 31
abbrev s_state_behind:Stmt:=top 32
abbrev s_along:Stmt:=top 33
abbrev s_law:Stmt:=top 58
theorem sc_all_of:FnScope ["hands"] ["hands"] (defScope s_all_of):=⟨rfl,rfl,rfl,by decide +kernel,rfl,by decide +kernel,by decide +kernel⟩
theorem sc_holds:FnScope ["mask","hand"] ["mask","hand"] (defScope s_holds):=⟨rfl,rfl,rfl,by decide +kernel,rfl,by decide +kernel,by decide +kernel⟩
theorem sc_without:FnScope ["mask","hand"] ["mask","hand"] (defScope s_without):=⟨rfl,rfl,rfl,by decide +kernel,rfl,by decide +kernel,by decide +kernel⟩
theorem sc_members:FnScope ["mask"] ["mask"] (defScope s_members):=⟨rfl,rfl,rfl,by decide +kernel,rfl,by decide +kernel,by decide +kernel⟩
theorem sc_is_whole:FnScope ["thing"] ["thing"] (defScope s_is_whole):=⟨rfl,rfl,rfl,by decide +kernel,rfl,by decide +kernel,by decide +kernel⟩
theorem sc_divisor:FnScope ["one","other","great","small","rest"] ["one","other"] (defScope s_divisor):=⟨rfl,rfl,rfl,by decide +kernel,rfl,by decide +kernel,by decide +kernel⟩
theorem sc_lies:FnScope ["slip","standing","tier"] ["slip","standing"] (defScope s_lies):=⟨rfl,rfl,rfl,by decide +kernel,rfl,by decide +kernel,by decide +kernel⟩
theorem sc_under:FnScope ["one","other"] ["one","other"] (defScope s_under):=⟨rfl,rfl,rfl,by decide +kernel,rfl,by decide +kernel,by decide +kernel⟩
theorem sc_begin:FnScope ["sheet","hands"] ["sheet","hands"] (defScope s_begin):=⟨rfl,rfl,rfl,by decide +kernel,rfl,by decide +kernel,by decide +kernel⟩
theorem sc_with_kept:FnScope ["kept","hand","given","new"] ["kept","hand","given"] (defScope s_with_kept):=⟨rfl,rfl,rfl,by decide +kernel,rfl,by decide +kernel,by decide +kernel⟩
theorem sc_law_cell:FnScope ["_law_script","_law_k","_law_number_here"] ["_law_script","_law_k"] (defScope s_law_cell):=⟨rfl,rfl,rfl,by decide +kernel,rfl,by decide +kernel,by decide +kernel⟩
theorem sc_law_mixed:FnScope ["_law_cell_here","_law_by","_law_step"] ["_law_cell_here","_law_by"] (defScope s_law_mixed):=⟨rfl,rfl,rfl,by decide +kernel,rfl,by decide +kernel,by decide +kernel⟩
theorem sc_law_mask:FnScope ["_law_some"] ["_law_some"] (defScope s_law_mask):=⟨rfl,rfl,rfl,by decide +kernel,rfl,by decide +kernel,by decide +kernel⟩
theorem sc_law_number:FnScope ["_law_cell_here","_law_most"] ["_law_cell_here","_law_most"] (defScope s_law_number):=⟨rfl,rfl,rfl,by decide +kernel,rfl,by decide +kernel,by decide +kernel⟩
theorem sc_law_whole:FnScope ["_law_found"] ["_law_found"] (defScope s_law_whole):=⟨rfl,rfl,rfl,by decide +kernel,rfl,by decide +kernel,by decide +kernel⟩
theorem sc_law_divisor:FnScope ["_law_one","_law_other_here"] ["_law_one","_law_other_here"] (defScope s_law_divisor):=⟨rfl,rfl,rfl,by decide +kernel,rfl,by decide +kernel,by decide +kernel⟩
theorem sc_law_added:FnScope ["_law_one","_law_other_here"] ["_law_one","_law_other_here"] (defScope s_law_added):=⟨rfl,rfl,rfl,by decide +kernel,rfl,by decide +kernel,by decide +kernel⟩
theorem sc_law_apart:FnScope ["_law_sheet_here","_law_other_here","_law_many","_law_slip_here","_law_number_here"] ["_law_sheet_here","_law_other_here"] (defScope s_law_apart):=⟨rfl,rfl,rfl,by decide +kernel,rfl,by decide +kernel,by decide +kernel⟩
theorem sc_law_ballots:FnScope ["_law_sheet_here"] ["_law_sheet_here"] (defScope s_law_ballots):=⟨rfl,rfl,rfl,by decide +kernel,rfl,by decide +kernel,by decide +kernel⟩
theorem sc_law_near:FnScope ["_law_one","_law_other_here","_law_hands","_law_many","_law_gaps","_law_hand","_law_left","_law_right","_law_top","_law_bottom","_law_high","_law_low"] ["_law_one","_law_other_here","_law_hands","_law_many"] (defScope s_law_near):=⟨rfl,rfl,rfl,by decide +kernel,rfl,by decide +kernel,by decide +kernel⟩
theorem sc_law_where:FnScope ["_law_slip_here","_law_standing","_law_tier"] ["_law_slip_here","_law_standing"] (defScope s_law_where):=⟨rfl,rfl,rfl,by decide +kernel,rfl,by decide +kernel,by decide +kernel⟩
theorem sc_size:FnScope ["mask"] ["mask"] (defScope s_size):=⟨rfl,rfl,rfl,by decide +kernel,rfl,by decide +kernel,by decide +kernel⟩
theorem sc_fraction:FnScope ["top","bottom","common"] ["top","bottom"] (defScope s_fraction):=⟨rfl,rfl,rfl,by decide +kernel,rfl,by decide +kernel,by decide +kernel⟩
theorem sc_even_part:FnScope ["free","many","common"] ["free","many"] (defScope s_even_part):=⟨rfl,rfl,rfl,by decide +kernel,rfl,by decide +kernel,by decide +kernel⟩
theorem sc_common_bottom:FnScope ["bottoms","common","bottom"] ["bottoms"] (defScope s_common_bottom):=⟨rfl,rfl,rfl,by decide +kernel,rfl,by decide +kernel,by decide +kernel⟩
theorem sc_law_lots:FnScope ["_law_cell_here","_law_hands","_law_number_here","_law_left","_law_lots_here","_law_k","_law_lot"] ["_law_cell_here","_law_hands"] (defScope s_law_lots):=⟨rfl,rfl,rfl,by decide +kernel,rfl,by decide +kernel,by decide +kernel⟩
theorem sc_law_slip:FnScope ["_law_cell_here","_law_hands","_law_number_here","_law_way","_law_many","_law_left","_law_tiers","_law_k","_law_base","_law_lot"] ["_law_cell_here","_law_hands"] (defScope s_law_slip):=⟨rfl,rfl,rfl,by decide +kernel,rfl,by decide +kernel,by decide +kernel⟩
theorem sc_law_is_fraction:FnScope ["_law_found"] ["_law_found"] (defScope s_law_is_fraction):=⟨rfl,rfl,rfl,by decide +kernel,rfl,by decide +kernel,by decide +kernel⟩
theorem sc_law_lowest:FnScope ["_law_top","_law_bottom","_law_by"] ["_law_top","_law_bottom"] (defScope s_law_lowest):=⟨rfl,rfl,rfl,by decide +kernel,rfl,by decide +kernel,by decide +kernel⟩
theorem sc_minus:FnScope ["one","other"] ["one","other"] (defScope s_minus):=⟨rfl,rfl,rfl,by decide +kernel,rfl,by decide +kernel,by decide +kernel⟩
theorem sc_times:FnScope ["one","other"] ["one","other"] (defScope s_times):=⟨rfl,rfl,rfl,by decide +kernel,rfl,by decide +kernel,by decide +kernel⟩
theorem sc_parted:FnScope ["one","other"] ["one","other"] (defScope s_parted):=⟨rfl,rfl,rfl,by decide +kernel,rfl,by decide +kernel,by decide +kernel⟩
theorem sc_table_row:FnScope ["slip","free","kept","standing","row","where","part","hand"] ["slip","free","kept","standing"] (defScope s_table_row):=⟨rfl,rfl,rfl,by decide +kernel,rfl,by decide +kernel,by decide +kernel⟩
theorem sc_weighed:FnScope ["sheet","shares","tops","line","share","common"] ["sheet","shares"] (defScope s_weighed):=⟨rfl,rfl,rfl,by decide +kernel,rfl,by decide +kernel,by decide +kernel⟩
theorem sc_share_at:FnScope ["slip","free","standing","hand","where"] ["slip","free","standing","hand"] (defScope s_share_at):=⟨rfl,rfl,rfl,by decide +kernel,rfl,by decide +kernel,by decide +kernel⟩
theorem sc_law_sheet:FnScope ["_law_script","_law_at","_law_hands","_law_lines","_law_most","_law_slips","_law_many","_law_k","_law_slip_here"] ["_law_script","_law_at","_law_hands","_law_lines","_law_most"] (defScope s_law_sheet):=⟨rfl,rfl,rfl,by decide +kernel,rfl,by decide +kernel,by decide +kernel⟩
theorem sc_law_other:FnScope ["_law_script","_law_sheet_here","_law_hands","_law_many","_law_slip_here","_law_number_here","_law_k","_law_cell_here","_law_some","_law_moved","_law_put"] ["_law_script","_law_sheet_here","_law_hands"] (defScope s_law_other):=⟨rfl,rfl,rfl,by decide +kernel,rfl,by decide +kernel,by decide +kernel⟩
theorem sc_law_deeds:FnScope ["_law_cell_here","_law_hands","_law_lots_here","_law_number_here","_law_deeds_here","_law_seated","_law_k","_law_word"] ["_law_cell_here","_law_hands"] (defScope s_law_deeds):=⟨rfl,rfl,rfl,by decide +kernel,rfl,by decide +kernel,by decide +kernel⟩
theorem sc_law_good:FnScope ["_law_found","_law_hands","_law_ballots_here","_law_deeds_here","_law_quota","_law_sums","_law_one","_law_word","_law_hand"] ["_law_found","_law_hands","_law_ballots_here","_law_deeds_here","_law_quota"] (defScope s_law_good):=⟨rfl,rfl,rfl,by decide +kernel,rfl,by decide +kernel,by decide +kernel⟩
theorem sc_law_tally:FnScope ["_law_sheet_here","_law_frees","_law_standing","_law_hand","_law_sums","_law_k","_law_where_here","_law_share"] ["_law_sheet_here","_law_frees","_law_standing","_law_hand"] (defScope s_law_tally):=⟨rfl,rfl,rfl,by decide +kernel,rfl,by decide +kernel,by decide +kernel⟩
theorem sc_law_behind:FnScope ["_law_sheet_here","_law_frees","_law_standing","_law_hand","_law_tally_here","_law_quota","_law_behind_here","_law_k","_law_where_here","_law_left"] ["_law_sheet_here","_law_frees","_law_standing","_law_hand","_law_tally_here","_law_quota"] (defScope s_law_behind):=⟨rfl,rfl,rfl,by decide +kernel,rfl,by decide +kernel,by decide +kernel⟩
theorem sc_table:FnScope ["sheet","state","standing"] ["sheet","state","standing"] (defScope s_table):=⟨rfl,rfl,rfl,by decide +kernel,rfl,by decide +kernel,by decide +kernel⟩
theorem sc_tallies:FnScope ["sheet","rows","hands"] ["sheet","rows","hands"] (defScope s_tallies):=⟨rfl,rfl,rfl,by decide +kernel,rfl,by decide +kernel,by decide +kernel⟩
theorem sc_part_kept:FnScope ["tally","quota"] ["tally","quota"] (defScope s_part_kept):=⟨rfl,rfl,rfl,by decide +kernel,rfl,by decide +kernel,by decide +kernel⟩
theorem sc_law_walked:FnScope ["_law_sheet_here","_law_hands","_law_quota","_law_deeds_here","_law_frees","_law_standing","_law_found","_law_word","_law_hand","_law_tally_here"] ["_law_sheet_here","_law_hands","_law_quota","_law_deeds_here"] (defScope s_law_walked):=⟨rfl,rfl,rfl,by decide +kernel,rfl,by decide +kernel,by decide +kernel⟩
theorem sc_kept_by:FnScope ["sheet","state","standing","hand","quota","shares","part","reckoned","behind","one","share","asked","given"] ["sheet","state","standing","hand","quota"] (defScope s_kept_by):=⟨rfl,rfl,rfl,by decide +kernel,rfl,by decide +kernel,by decide +kernel⟩
theorem sc_state_behind:FnScope ["sheet","state","standing","deed","quota"] ["sheet","state","standing","deed","quota"] (defScope s_state_behind):=⟨rfl,rfl,rfl,by decide +kernel,rfl,by decide +kernel,by decide +kernel⟩
theorem sc_along:FnScope ["sheet","hands","quota","deeds","state","standing","deed"] ["sheet","hands","quota","deeds"] (defScope s_along):=⟨rfl,rfl,rfl,by decide +kernel,rfl,by decide +kernel,by decide +kernel⟩
theorem sc_law:FnScope ["_law_script","_law_hands","_law_most","_law_lines","_law_sheet_here","_law_other_here","_law_ballots_here","_law_deeds_here","_law_cell_here","_law_quota","_law_handed","_law_left","_law_right","_law_found","_law_kept","_law_again"] ["_law_script"] (defScope s_law):=⟨rfl,rfl,rfl,by decide +kernel,rfl,by decide +kernel,by decide +kernel⟩
set_option genInjectivity false in
set_option genSizeOf false in
structure Ads where
 f_all_of:Addr
 d_all_of:FuncData
 f_holds:Addr
 d_holds:FuncData
 f_without:Addr
 d_without:FuncData
 f_members:Addr
 d_members:FuncData
 f_is_whole:Addr
 d_is_whole:FuncData
 f_divisor:Addr
 d_divisor:FuncData
 f_lies:Addr
 d_lies:FuncData
 f_under:Addr
 d_under:FuncData
 f_begin:Addr
 d_begin:FuncData
 f_with_kept:Addr
 d_with_kept:FuncData
 f_law_cell:Addr
 d_law_cell:FuncData
 f_law_mixed:Addr
 d_law_mixed:FuncData
 f_law_mask:Addr
 d_law_mask:FuncData
 f_law_number:Addr
 d_law_number:FuncData
 f_law_whole:Addr
 d_law_whole:FuncData
 f_law_divisor:Addr
 d_law_divisor:FuncData
 f_law_added:Addr
 d_law_added:FuncData
 f_law_apart:Addr
 d_law_apart:FuncData
 f_law_ballots:Addr
 d_law_ballots:FuncData
 f_law_near:Addr
 d_law_near:FuncData
 f_law_where:Addr
 d_law_where:FuncData
 f_size:Addr
 d_size:FuncData
 f_fraction:Addr
 d_fraction:FuncData
 f_even_part:Addr
 d_even_part:FuncData
 f_common_bottom:Addr
 d_common_bottom:FuncData
 f_law_lots:Addr
 d_law_lots:FuncData
 f_law_slip:Addr
 d_law_slip:FuncData
 f_law_is_fraction:Addr
 d_law_is_fraction:FuncData
 f_law_lowest:Addr
 d_law_lowest:FuncData
 f_minus:Addr
 d_minus:FuncData
 f_times:Addr
 d_times:FuncData
 f_parted:Addr
 d_parted:FuncData
 f_table_row:Addr
 d_table_row:FuncData
 f_weighed:Addr
 d_weighed:FuncData
 f_share_at:Addr
 d_share_at:FuncData
 f_law_sheet:Addr
 d_law_sheet:FuncData
 f_law_other:Addr
 d_law_other:FuncData
 f_law_deeds:Addr
 d_law_deeds:FuncData
 f_law_good:Addr
 d_law_good:FuncData
 f_law_tally:Addr
 d_law_tally:FuncData
 f_law_behind:Addr
 d_law_behind:FuncData
 f_table:Addr
 d_table:FuncData
 f_tallies:Addr
 d_tallies:FuncData
 f_part_kept:Addr
 d_part_kept:FuncData
 f_law_walked:Addr
 d_law_walked:FuncData
 f_kept_by:Addr
 d_kept_by:FuncData
 f_state_behind:Addr
 d_state_behind:FuncData
 f_along:Addr
 d_along:FuncData
 f_law:Addr
 d_law:FuncData
structure Tx (K:PySem.W.Frag) (mg:Str->Option Value) (a:Ads):Prop where
 m_all_of:mg "all_of"=some (.ref a.f_all_of)
 m_holds:mg "holds"=some (.ref a.f_holds)
 m_without:mg "without"=some (.ref a.f_without)
 m_members:mg "members"=some (.ref a.f_members)
 m_is_whole:mg "is_whole"=some (.ref a.f_is_whole)
 m_divisor:mg "divisor"=some (.ref a.f_divisor)
 m_lies:mg "lies"=some (.ref a.f_lies)
 m_under:mg "under"=some (.ref a.f_under)
 m_begin:mg "begin"=some (.ref a.f_begin)
 m_with_kept:mg "with_kept"=some (.ref a.f_with_kept)
 m_law_cell:mg "_law_cell"=some (.ref a.f_law_cell)
 m_law_mixed:mg "_law_mixed"=some (.ref a.f_law_mixed)
 m_law_mask:mg "_law_mask"=some (.ref a.f_law_mask)
 m_law_number:mg "_law_number"=some (.ref a.f_law_number)
 m_law_whole:mg "_law_whole"=some (.ref a.f_law_whole)
 m_law_divisor:mg "_law_divisor"=some (.ref a.f_law_divisor)
 m_law_added:mg "_law_added"=some (.ref a.f_law_added)
 m_law_apart:mg "_law_apart"=some (.ref a.f_law_apart)
 m_law_ballots:mg "_law_ballots"=some (.ref a.f_law_ballots)
 m_law_near:mg "_law_near"=some (.ref a.f_law_near)
 m_law_where:mg "_law_where"=some (.ref a.f_law_where)
 m_size:mg "size"=some (.ref a.f_size)
 m_fraction:mg "fraction"=some (.ref a.f_fraction)
 m_even_part:mg "even_part"=some (.ref a.f_even_part)
 m_common_bottom:mg "common_bottom"=some (.ref a.f_common_bottom)
 m_law_lots:mg "_law_lots"=some (.ref a.f_law_lots)
 m_law_slip:mg "_law_slip"=some (.ref a.f_law_slip)
 m_law_is_fraction:mg "_law_is_fraction"=some (.ref a.f_law_is_fraction)
 m_law_lowest:mg "_law_lowest"=some (.ref a.f_law_lowest)
 m_minus:mg "minus"=some (.ref a.f_minus)
 m_times:mg "times"=some (.ref a.f_times)
 m_parted:mg "parted"=some (.ref a.f_parted)
 m_table_row:mg "table_row"=some (.ref a.f_table_row)
 m_weighed:mg "weighed"=some (.ref a.f_weighed)
 m_share_at:mg "share_at"=some (.ref a.f_share_at)
 m_law_sheet:mg "_law_sheet"=some (.ref a.f_law_sheet)
 m_law_other:mg "_law_other"=some (.ref a.f_law_other)
 m_law_deeds:mg "_law_deeds"=some (.ref a.f_law_deeds)
 m_law_good:mg "_law_good"=some (.ref a.f_law_good)
 m_law_tally:mg "_law_tally"=some (.ref a.f_law_tally)
 m_law_behind:mg "_law_behind"=some (.ref a.f_law_behind)
 m_table:mg "table"=some (.ref a.f_table)
 m_tallies:mg "tallies"=some (.ref a.f_tallies)
 m_part_kept:mg "part_kept"=some (.ref a.f_part_kept)
 m_law_walked:mg "_law_walked"=some (.ref a.f_law_walked)
 m_kept_by:mg "kept_by"=some (.ref a.f_kept_by)
 m_state_behind:mg "state_behind"=some (.ref a.f_state_behind)
 m_along:mg "along"=some (.ref a.f_along)
 m_law:mg "law"=some (.ref a.f_law)
 z_abs:mg "abs"=none
 z_bool:mg "bool"=none
 z_int:mg "int"=none
 z_isinstance:mg "isinstance"=none
 z_len:mg "len"=none
 z_list:mg "list"=none
 z_max:mg "max"=none
 z_min:mg "min"=none
 z_range:mg "range"=none
 z_sorted:mg "sorted"=none
 z_sum:mg "sum"=none
 z_tuple:mg "tuple"=none
 z_zip:mg "zip"=none
 F_all_of:Fun K "all_of" "all_of" s_all_of a.f_all_of a.d_all_of
 b_all_of:Binds K a.d_all_of ["hands"] []
 F_holds:Fun K "holds" "holds" s_holds a.f_holds a.d_holds
 b_holds:Binds K a.d_holds ["mask","hand"] []
 F_without:Fun K "without" "without" s_without a.f_without a.d_without
 b_without:Binds K a.d_without ["mask","hand"] []
 F_members:Fun K "members" "members" s_members a.f_members a.d_members
 b_members:Binds K a.d_members ["mask"] []
 F_is_whole:Fun K "is_whole" "is_whole" s_is_whole a.f_is_whole a.d_is_whole
 b_is_whole:Binds K a.d_is_whole ["thing"] []
 F_divisor:Fun K "divisor" "divisor" s_divisor a.f_divisor a.d_divisor
 b_divisor:Binds K a.d_divisor ["one","other"] []
 F_lies:Fun K "lies" "lies" s_lies a.f_lies a.d_lies
 b_lies:Binds K a.d_lies ["slip","standing"] []
 F_under:Fun K "under" "under" s_under a.f_under a.d_under
 b_under:Binds K a.d_under ["one","other"] []
 F_begin:Fun K "begin" "begin" s_begin a.f_begin a.d_begin
 b_begin:Binds K a.d_begin ["sheet","hands"] []
 F_with_kept:Fun K "with_kept" "with_kept" s_with_kept a.f_with_kept a.d_with_kept
 b_with_kept:Binds K a.d_with_kept ["kept","hand","given"] []
 F_law_cell:Fun K "_law_cell" "_law_cell" s_law_cell a.f_law_cell a.d_law_cell
 b_law_cell:Binds K a.d_law_cell ["_law_script","_law_k"] []
 F_law_mixed:Fun K "_law_mixed" "_law_mixed" s_law_mixed a.f_law_mixed a.d_law_mixed
 b_law_mixed:Binds K a.d_law_mixed ["_law_cell_here","_law_by"] []
 F_law_mask:Fun K "_law_mask" "_law_mask" s_law_mask a.f_law_mask a.d_law_mask
 b_law_mask:Binds K a.d_law_mask ["_law_some"] []
 F_law_number:Fun K "_law_number" "_law_number" s_law_number a.f_law_number a.d_law_number
 b_law_number:Binds K a.d_law_number ["_law_cell_here","_law_most"] []
 F_law_whole:Fun K "_law_whole" "_law_whole" s_law_whole a.f_law_whole a.d_law_whole
 b_law_whole:Binds K a.d_law_whole ["_law_found"] []
 F_law_divisor:Fun K "_law_divisor" "_law_divisor" s_law_divisor a.f_law_divisor a.d_law_divisor
 b_law_divisor:Binds K a.d_law_divisor ["_law_one","_law_other_here"] []
 F_law_added:Fun K "_law_added" "_law_added" s_law_added a.f_law_added a.d_law_added
 b_law_added:Binds K a.d_law_added ["_law_one","_law_other_here"] []
 F_law_apart:Fun K "_law_apart" "_law_apart" s_law_apart a.f_law_apart a.d_law_apart
 b_law_apart:Binds K a.d_law_apart ["_law_sheet_here","_law_other_here"] []
 F_law_ballots:Fun K "_law_ballots" "_law_ballots" s_law_ballots a.f_law_ballots a.d_law_ballots
 b_law_ballots:Binds K a.d_law_ballots ["_law_sheet_here"] []
 F_law_near:Fun K "_law_near" "_law_near" s_law_near a.f_law_near a.d_law_near
 b_law_near:Binds K a.d_law_near ["_law_one","_law_other_here","_law_hands","_law_many"] []
 F_law_where:Fun K "_law_where" "_law_where" s_law_where a.f_law_where a.d_law_where
 b_law_where:Binds K a.d_law_where ["_law_slip_here","_law_standing"] []
 F_size:Fun K "size" "size" s_size a.f_size a.d_size
 b_size:Binds K a.d_size ["mask"] []
 F_fraction:Fun K "fraction" "fraction" s_fraction a.f_fraction a.d_fraction
 b_fraction:Binds K a.d_fraction ["top","bottom"] []
 F_even_part:Fun K "even_part" "even_part" s_even_part a.f_even_part a.d_even_part
 b_even_part:Binds K a.d_even_part ["free","many"] []
 F_common_bottom:Fun K "common_bottom" "common_bottom" s_common_bottom a.f_common_bottom a.d_common_bottom
 b_common_bottom:Binds K a.d_common_bottom ["bottoms"] []
 F_law_lots:Fun K "_law_lots" "_law_lots" s_law_lots a.f_law_lots a.d_law_lots
 b_law_lots:Binds K a.d_law_lots ["_law_cell_here","_law_hands"] []
 F_law_slip:Fun K "_law_slip" "_law_slip" s_law_slip a.f_law_slip a.d_law_slip
 b_law_slip:Binds K a.d_law_slip ["_law_cell_here","_law_hands"] []
 F_law_is_fraction:Fun K "_law_is_fraction" "_law_is_fraction" s_law_is_fraction a.f_law_is_fraction a.d_law_is_fraction
 b_law_is_fraction:Binds K a.d_law_is_fraction ["_law_found"] []
 F_law_lowest:Fun K "_law_lowest" "_law_lowest" s_law_lowest a.f_law_lowest a.d_law_lowest
 b_law_lowest:Binds K a.d_law_lowest ["_law_top","_law_bottom"] []
 F_minus:Fun K "minus" "minus" s_minus a.f_minus a.d_minus
 b_minus:Binds K a.d_minus ["one","other"] []
 F_times:Fun K "times" "times" s_times a.f_times a.d_times
 b_times:Binds K a.d_times ["one","other"] []
 F_parted:Fun K "parted" "parted" s_parted a.f_parted a.d_parted
 b_parted:Binds K a.d_parted ["one","other"] []
 F_table_row:Fun K "table_row" "table_row" s_table_row a.f_table_row a.d_table_row
 b_table_row:Binds K a.d_table_row ["slip","free","kept","standing"] []
 F_weighed:Fun K "weighed" "weighed" s_weighed a.f_weighed a.d_weighed
 b_weighed:Binds K a.d_weighed ["sheet","shares"] []
 F_share_at:Fun K "share_at" "share_at" s_share_at a.f_share_at a.d_share_at
 b_share_at:Binds K a.d_share_at ["slip","free","standing","hand"] []
 F_law_sheet:Fun K "_law_sheet" "_law_sheet" s_law_sheet a.f_law_sheet a.d_law_sheet
 b_law_sheet:Binds K a.d_law_sheet ["_law_script","_law_at","_law_hands","_law_lines","_law_most"] []
 F_law_other:Fun K "_law_other" "_law_other" s_law_other a.f_law_other a.d_law_other
 b_law_other:Binds K a.d_law_other ["_law_script","_law_sheet_here","_law_hands"] []
 F_law_deeds:Fun K "_law_deeds" "_law_deeds" s_law_deeds a.f_law_deeds a.d_law_deeds
 b_law_deeds:Binds K a.d_law_deeds ["_law_cell_here","_law_hands"] []
 F_law_good:Fun K "_law_good" "_law_good" s_law_good a.f_law_good a.d_law_good
 b_law_good:Binds K a.d_law_good ["_law_found","_law_hands","_law_ballots_here","_law_deeds_here","_law_quota"] []
 F_law_tally:Fun K "_law_tally" "_law_tally" s_law_tally a.f_law_tally a.d_law_tally
 b_law_tally:Binds K a.d_law_tally ["_law_sheet_here","_law_frees","_law_standing","_law_hand"] []
 F_law_behind:Fun K "_law_behind" "_law_behind" s_law_behind a.f_law_behind a.d_law_behind
 b_law_behind:Binds K a.d_law_behind ["_law_sheet_here","_law_frees","_law_standing","_law_hand","_law_tally_here","_law_quota"] []
 F_table:Fun K "table" "table" s_table a.f_table a.d_table
 b_table:Binds K a.d_table ["sheet","state","standing"] []
 F_tallies:Fun K "tallies" "tallies" s_tallies a.f_tallies a.d_tallies
 b_tallies:Binds K a.d_tallies ["sheet","rows","hands"] []
 F_part_kept:Fun K "part_kept" "part_kept" s_part_kept a.f_part_kept a.d_part_kept
 b_part_kept:Binds K a.d_part_kept ["tally","quota"] []
 F_law_walked:Fun K "_law_walked" "_law_walked" s_law_walked a.f_law_walked a.d_law_walked
 b_law_walked:Binds K a.d_law_walked ["_law_sheet_here","_law_hands","_law_quota","_law_deeds_here"] []
 F_kept_by:Fun K "kept_by" "kept_by" s_kept_by a.f_kept_by a.d_kept_by
 b_kept_by:Binds K a.d_kept_by ["sheet","state","standing","hand","quota"] []
 F_state_behind:Fun K "state_behind" "state_behind" s_state_behind a.f_state_behind a.d_state_behind
 b_state_behind:Binds K a.d_state_behind ["sheet","state","standing","deed","quota"] []
 F_along:Fun K "along" "along" s_along a.f_along a.d_along
 b_along:Binds K a.d_along ["sheet","hands","quota","deeds"] []
 F_law:Fun K "law" "law" s_law a.f_law a.d_law
local macro_rules | `(tactic| trivial)=>`(tactic| refine Sz.neg (by trivial))
local macro_rules | `(tactic| trivial)=>`(tactic| refine Sz.fdiv (by trivial))
local macro_rules | `(tactic| trivial)=>`(tactic| refine Sz.sub (by trivial) (by trivial))
local macro_rules | `(tactic| trivial)=>`(tactic| refine Sz.add (by trivial) (by trivial))
local macro_rules | `(tactic| trivial)=>`(tactic| refine Sz.mul (by trivial) (by trivial))
local macro_rules | `(tactic| trivial)=>`(tactic| exact sz_fmod _ (by first | decide | decide +kernel) (szd 200))
local macro_rules | `(tactic| trivial)=>`(tactic| first | assumption | exact szd 64 | exact szd 200 | exact szd 1000)
local macro_rules | `(tactic| and_intros)=>`(tactic| (repeat (first | refine ⟨_,rfl,?_⟩ | refine ⟨_,_,rfl,rfl,?_⟩ | refine ⟨rfl,?_⟩ | refine ⟨(by show (_:Int)≠0;first | decide | decide +kernel),?_⟩ | refine ⟨⟨(by show (_:Int)≠0;decide),szd 9000⟩,?_⟩ | refine ⟨(by show CPow _ _;exact ⟨by decide,by decide,by decide⟩),?_⟩ | refine ⟨(by show CMulB _ _;refine ⟨_,_,(by trivial),(by trivial),?_⟩;decide +kernel),?_⟩ | refine ⟨_,_,_,_,rfl,rfl,SqL.of (by assumption),(by rfl),?_⟩ | refine ⟨_,_,_,_,rfl,rfl,SqT.of (by assumption),(by rfl),?_⟩ | refine ⟨_,_,rfl,.inl (SqL.of (by assumption)),?_⟩ | refine ⟨_,_,rfl,.inr (SqT.of (by assumption)),?_⟩)))
local macro_rules | `(tactic| subst_eqs)=>`(tactic| (repeat (first | with_reducible refine seq_hide fun _ _=>?_ | refine ⟨_,rfl,?_⟩ | refine ⟨_,_,rfl,rfl,?_⟩ | refine ⟨rfl,?_⟩ | refine ⟨(by show (_:Int)≠0;first | decide | decide +kernel),?_⟩ | refine ⟨⟨(by show (_:Int)≠0;decide),szd 9000⟩,?_⟩ | refine ⟨(by show CPow _ _;exact ⟨by decide,by decide,by decide⟩),?_⟩ | refine ⟨(by show CMulB _ _;refine ⟨_,_,(by trivial),(by trivial),?_⟩;decide +kernel),?_⟩ | refine ⟨_,_,_,_,rfl,rfl,SqL.of (by assumption),(by rfl),?_⟩ | refine ⟨_,_,_,_,rfl,rfl,SqT.of (by assumption),(by rfl),?_⟩ | refine ⟨_,_,rfl,.inl (SqL.of (by assumption)),?_⟩ | refine ⟨_,_,rfl,.inr (SqT.of (by assumption)),?_⟩ | refine un_hid2 (by assumption) ?_ | refine un_hide (by assumption) ?_)))
section
variable {P:Program} {w:World} {K:PySem.W.Frag} {mg:Str->Option Value} {base:Heap} {ad:Ads}
theorem ok_all_of (T:Tx K mg ad):FnOk P w K mg base CX0 1 ad.f_all_of ad.d_all_of ["hands"] spAll:=by
 refine T.F_all_of.ok sc_all_of (fun vs H Q E h=>?_) (fun cdv A outer s H vs Q E hr h=>?_)
 ·obtain ⟨h,rfl,_⟩:=h
  rfl
 obtain ⟨h,rfl,h0,h1,q⟩:=h
 refine ⟨_,(@pss_one _ _ _ (@ps_ret _ _ _ _ (@pe_op _ _ _ _ _ _ _ _ op_sub (@pe_op _ _ _ _ _ _ _ _ op_shl pe_int (pv 0)) pe_int))),?_⟩
 exact ⟨_,rfl,_,_,rfl,rfl,⟨h0,by omega,by decide⟩,_,_,rfl,rfl,q⟩
theorem ok_holds (T:Tx K mg ad):FnOk P w K mg base CX0 1 ad.f_holds ad.d_holds ["mask","hand"] spHolds:=by
 refine T.F_holds.ok sc_holds (fun vs H Q E h=>?_) (fun cdv A outer s H vs Q E hr h=>?_)
 ·obtain ⟨m,h,rfl,_⟩:=h
  rfl
 obtain ⟨m,h,rfl,h0,q⟩:=h
 refine ⟨_,(@pss_one _ _ _ (@ps_ret _ _ _ _ (@pe_cmpR _ _ _ _ _ _ _ _ op_eq (@pe_op _ _ _ _ _ _ _ _ op_and (@pe_op _ _ _ _ _ _ _ _ op_shr (pv 0) (pv 1)) pe_int) pe_int (nomark _)))),?_⟩
 refine ⟨_,rfl,_,rfl,_,_,rfl,rfl,h0,_,_,rfl,rfl,rfl,?_⟩
 show Q (.bl (decide (V.int (Builtin.bitAnd (m / 2 ^ h.toNat) 1)=V.int 1))) H
 rw [holds_bit]
 exact q
theorem ok_without (T:Tx K mg ad):FnOk P w K mg base CX0 1 ad.f_without ad.d_without ["mask","hand"] spWithout:=by
 refine T.F_without.ok sc_without (fun vs H Q E h=>?_) (fun cdv A outer s H vs Q E hr h=>?_)
 ·obtain ⟨m,h,rfl,_⟩:=h
  rfl
 obtain ⟨m,h,rfl,h0,h1,q⟩:=h
 refine ⟨_,(@pss_one _ _ _ (@ps_ret _ _ _ _ (@pe_op _ _ _ _ _ _ _ _ op_and (pv 0) (@pe_un _ _ _ _ _ _ un_inv (@pe_op _ _ _ _ _ _ _ _ op_shl pe_int (pv 1)))))),?_⟩
 exact ⟨_,rfl,_,rfl,_,_,rfl,rfl,⟨h0,by omega,by decide⟩,_,rfl,_,_,rfl,rfl,q⟩
theorem ok_members (T:Tx K mg ad):FnOk P w K mg base CX0 1 ad.f_members ad.d_members ["mask"] spMembers:=by
 refine T.F_members.ok sc_members (fun vs H Q E h=>?_) (fun cdv A outer s H vs Q E hr h=>?_)
 ·obtain ⟨m,rfl,_⟩:=h
  rfl
 obtain ⟨m,rfl,m0,m1,q⟩:=h
 refine ⟨_,(@pss_one _ _ _ (@ps_ret _ _ _ _ (pe_comp (fsc:=defScope s_members) (N:=["mask"]) (Nc:=["mask","hand"]) rfl rfl ⟨rfl,by decide +kernel,by decide +kernel,rfl,by decide +kernel,rfl,by decide +kernel,rfl,by decide +kernel⟩ rfl (pi_range1 rfl T.z_range (@pa_cons _ _ _ _ _ (pe_bm0 PySem.F.plainAttrs_int PySem.F.slot_int_bit_length PySem.F.type_int_bit_length mt_bits (pv 0)) pa_nil (by rfl))) (fun _ _ _ _=>(pif_one (@pt_cmpR _ _ _ _ _ _ _ _ op_eq (@pe_op _ _ _ _ _ _ _ _ op_and (@pe_op _ _ _ _ _ _ _ _ op_shr (pv 0) (pv 1)) pe_int) pe_int (nomark _)))) (fun _ _ _ _=>(pv 1))))),?_⟩
 have hb:(Builtin.Int.intBits m)<=12:=intBits_le_iff.mpr (by show m.natAbs < 4096;omega)
 refine ⟨_,rfl,rfl,m,rfl,rfl,_,rfl,by omega,by omega,?_⟩
 have en:((Builtin.Int.intBits m:Nat):Int).toNat=Builtin.Int.intBits m:=by omega
 rw [en]
 refine comp_range (small63 (by omega)) (fun D i ys H'=>ys=(hands i (bit m)).map V.int/\H'=upd H D (.lst ys)) (fun D hD=>⟨rfl,rfl⟩) (fun D i ys H' hq_=>by obtain ⟨e1,e2⟩:=hq_;rw [e2,e1];exact ⟨upd_same,by rw [List.length_map];exact hands_len i (bit m)⟩) ?_ ?_
 ·rintro D i ys H' K1 K2 hD hi ⟨e1,rfl⟩ k1 k2
  have ei:(0+(i:Int)).toNat=i:=by omega
  refine ⟨_,rfl,_,rfl,_,_,rfl,rfl,(by show (0:Int)<=0+(i:Int);omega),_,_,rfl,rfl,rfl,_,rfl,?_⟩
  dsimp only
  rw [show decide (V.int (Builtin.bitAnd (m / 2 ^ (0+(i:Int)).toNat) 1)=V.int 1)=bit m i from by rw [holds_bit,ei]]
  have ms:=hands_succ i (bit m)
  cases e:bit m i with
  | true =>
    rw [e,if_pos rfl] at ms
    refine iteT ⟨_,rfl,?_⟩
    refine k1 _ _ upd_same ⟨?_,by rw [upd_upd]⟩
    rw [ms,List.map_append,e1,Int.zero_add]
    rfl
  | false =>
    rw [e,if_neg (by decide)] at ms
    refine iteF ?_
    exact k2 _ ⟨by rw [ms];exact e1,rfl⟩
 ·rintro D ys H' hD ⟨rfl,rfl⟩
  refine q D _ hD (same_new hD _) ?_
  rw [upd_same,bits_all m0 m1]
theorem ok_is_whole (T:Tx K mg ad):FnOk P w K mg base CX0 1 ad.f_is_whole ad.d_is_whole ["thing"] spWhole:=by
 refine T.F_is_whole.ok sc_is_whole (fun vs H Q E h=>?_) (fun cdv A outer s H vs Q E hr h=>?_)
 ·obtain ⟨c,rfl,_⟩:=h
  rfl
 obtain ⟨c,rfl,q⟩:=h
 refine ⟨_,(@pss_one _ _ _ (@ps_ret _ _ _ _ (@pe_and _ _ _ _ _ _ _ (@pe_callB _ _ _ _ _ _ _ _ _ call_isi (by rfl) T.z_isinstance PyProof.Rows.boot_isinstance (@pa_cons _ _ _ _ _ (pv 0) (@pa_cons _ _ _ _ _ (pe_bltn (v:=.ty "int") rfl T.z_int PyProof.Rows.boot_int rfl) pa_nil (by rfl)) (by rfl)) (by decide) (by decide) (by rfl) (by rfl)) (@pe_one _ _ _ _ _ (@pe_not _ _ _ _ (@pe_callB _ _ _ _ _ _ _ _ _ call_isi (by rfl) T.z_isinstance PyProof.Rows.boot_isinstance (@pa_cons _ _ _ _ _ (pv 0) (@pa_cons _ _ _ _ _ (pe_bltn (v:=.ty "bool") rfl T.z_bool PyProof.Rows.boot_bool rfl) pa_nil (by rfl)) (by rfl)) (by decide) (by decide) (by rfl) (by rfl))))))),?_⟩
 refine ⟨_,rfl,_,_,_,_,rfl,TyOf.int c,kit_int_int,_,rfl,?_⟩
 refine iteT ?_
 exact ⟨_,rfl,_,_,_,_,rfl,TyOf.int c,kit_int_bool,_,rfl,q⟩
theorem ok_divisor (T:Tx K mg ad):FnOk P w K mg base CX0 1 ad.f_divisor ad.d_divisor ["one","other"] spDivisor:=by
 refine T.F_divisor.ok sc_divisor (fun vs H Q E h=>?_) (fun cdv A outer s H vs Q E hr h=>?_)
 ·obtain ⟨a,b,rfl,_⟩:=h
  rfl
 obtain ⟨a,b,rfl,q⟩:=h
 refine ⟨_,(@pss_cons _ _ _ _ _ (@ps_set _ _ (2) _ _ _ _ sc_divisor.nd rfl (Or.inl rfl) (@pe_callB _ _ _ _ _ _ _ _ _ call_abs (by rfl) T.z_abs PyProof.Rows.boot_abs (@pa_cons _ _ _ _ _ (pv 0) pa_nil (by rfl)) (by decide) (by decide) (by rfl) (by rfl)) (by rfl) (by first | exact .inl rfl | exact .inr rfl | assumption)) (@pss_cons _ _ _ _ _ (@ps_set _ _ (3) _ _ _ _ sc_divisor.nd rfl (Or.inl rfl) (@pe_callB _ _ _ _ _ _ _ _ _ call_abs (by rfl) T.z_abs PyProof.Rows.boot_abs (@pa_cons _ _ _ _ _ (pv 1) pa_nil (by rfl)) (by decide) (by decide) (by rfl) (by rfl)) (by rfl) (by first | exact .inl rfl | exact .inr rfl | assumption)) (@pss_cons _ _ _ _ _ (ps_while PassesOwn.never (@pt_cmpR _ _ _ _ _ _ _ _ op_gt (pv 3) pe_int (nomark _)) (@pss_cons _ _ _ _ _ (@ps_set _ _ (4) _ _ _ _ sc_divisor.nd rfl (Or.inl rfl) (@pe_op _ _ _ _ _ _ _ _ op_modN (pv 2) (pv 3)) (by rfl) (by first | exact .inl rfl | exact .inr rfl | assumption)) (@pss_cons _ _ _ _ _ (@ps_set _ _ (2) _ _ _ _ sc_divisor.nd rfl (Or.inl rfl) (pv 3) (by rfl) (by first | exact .inl rfl | exact .inr rfl | assumption)) (@pss_one _ _ _ (@ps_set _ _ (3) _ _ _ _ sc_divisor.nd rfl (Or.inl rfl) (pv 4) (by rfl) (by first | exact .inl rfl | exact .inr rfl | assumption)))))) (@pss_one _ _ _ (@ps_ret _ _ _ _ (pv 2)))))),?_⟩
 refine ⟨_,rfl,_,rfl,?_⟩
 refine ⟨_,rfl,_,rfl,?_⟩
 refine while_by (fun σ' H'=>∃(x y:Int) (v:Option V),σ'=[some (.int a),some (.int b),some (.int x),some (.int y),v]/\H'=H/\0<=x/\0<=y/\Int.gcd x y=Int.gcd a b) (fun σ' _=>match σ' with | [_,_,_,some (.int y),_]=>y.toNat | _=>0) ⟨_,_,_,rfl,rfl,?_,?_,gcd_abs a b⟩ ?_ while_mono1
 ·rw [absI];omega
 ·rw [absI];omega
 rintro σ1 H1 ⟨x,y,v,rfl,rfl,x0,y0,g⟩
 refine ⟨_,rfl,_,_,rfl,rfl,_,rfl,?_⟩
 refine ite2 (fun c=>?_) (fun c=>?_)
 ·have c':0 < y:=of_decide_eq_true c
  have m:=fmod_in x c'
  refine ⟨_,rfl,_,rfl,_,_,rfl,rfl,Int.ne_of_gt c',?_⟩
  refine ⟨_,rfl,?_⟩
  refine ⟨_,rfl,?_⟩
  refine ⟨⟨y,x.fmod y,_,rfl,rfl,y0,m.1,(gcd_turn x0 c').trans g⟩,?_⟩
  show (x.fmod y).toNat < y.toNat
  omega
 ·have c':¬ 0 < y:=fun e=>c (decide_eq_true e)
  refine ⟨_,rfl,?_⟩
  have e:=gcd_end x0 y0 c'
  have e2:gcdI x y=gcdI a b:=by unfold gcdI;rw [g]
  rw [e,e2]
  exact q
theorem ok_lies (T:Tx K mg ad):FnOk P w K mg base CX0 1 ad.f_lies ad.d_lies ["slip","standing"] (spLies K):=by
 refine T.F_lies.ok sc_lies (fun vs H Q E h=>?_) (fun cdv A outer s H vs Q E hr h=>?_)
 ·obtain ⟨p,ts,st,rfl,_⟩:=h
  rfl
 obtain ⟨p,ts,st,rfl,hT,q⟩:=h
 refine ⟨_,(@pss_cons _ _ _ _ _ (ps_for PassesOwn.never rfl (pi_tup (pv 0)) (pg_name (i:=2) sc_lies.nd rfl (Or.inl rfl)) (@pss_one _ _ _ (@ps_if _ _ _ _ _ _ _ _ (@pt_cmpR _ _ _ _ _ _ _ _ op_ne (@pe_op _ _ _ _ _ _ _ _ op_and (pv 2) (pv 1)) pe_int (nomark _)) (@pss_one _ _ _ (@ps_ret _ _ _ _ (@pe_op _ _ _ _ _ _ _ _ op_and (pv 2) (pv 1)))) pss_nil))) (@pss_one _ _ _ (@ps_ret _ _ _ _ pe_int))),?_⟩
 refine ⟨_,rfl,p,rfl,⟨_,hT⟩,for_tup (xs:=ts.map V.int) (fun i σ' H'=>∃v,σ'=[some (.ref p),some (.int st),v]/\H'=H/\lieI (ts.drop i) st=lieI ts st) ⟨none,rfl,rfl,rfl⟩ (fun i σ' H' _ hq_=>by obtain ⟨v,_,e2,_⟩:=hq_;rw [e2];exact hT) ?_ ?_⟩
 ·rintro i x σ' H' hx ⟨v,rfl,rfl,e⟩
  obtain ⟨t,ht,rfl⟩:=int_at hx
  have ed:ts.drop i=t :: ts.drop (i+1):=by
   obtain ⟨hlt,e⟩:=List.getElem?_eq_some_iff.mp ht
   rw [List.drop_eq_getElem_cons hlt,e]
  rw [ed] at e
  have e':(if Builtin.bitAnd t st=0 then lieI (ts.drop (i+1)) st else Builtin.bitAnd t st)=lieI ts st:=e
  and_intros
  by_cases z:Builtin.bitAnd t st=0
  ·rw [if_pos z] at e'
   exact ifF (ne_f z) ⟨_,rfl,rfl,e'⟩
  ·rw [if_neg z] at e'
   refine ifT (ne_t z) ⟨_,rfl,_,rfl,_,_,rfl,rfl,?_⟩
   show Q (V.int (Builtin.bitAnd t st)) H'
   rw [e']
   exact q
 ·rintro σ' H' ⟨v,rfl,rfl,e⟩
  rw [List.length_map,List.drop_of_length_le (Nat.le_refl _)] at e
  have e':(0:Int)=lieI ts st:=e
  show Q (V.int 0) H'
  rw [e']
  exact q
theorem ok_under (T:Tx K mg ad):FnOk P w K mg base CX0 1 ad.f_under ad.d_under ["one","other"] spUnder20:=by
 refine T.F_under.ok sc_under (fun vs H Q E h=>?_) (fun cdv A outer s H vs Q E hr h=>?_)
 ·obtain ⟨p,r,t,b,u,c,rfl,_⟩:=h
  rfl
 obtain ⟨p,r,t,b,u,c,rfl,h1,h2,st,sb,su,sc,q⟩:=h
 refine ⟨_,(@pss_one _ _ _ (@ps_ret _ _ _ _ (@pe_cmpR _ _ _ _ _ _ _ _ op_lt (@pe_op _ _ _ _ _ _ _ _ op_mulB (@pe_ix _ _ _ _ _ _ _ ix_tup (pv 0) pe_int (fun _ _=>rfl)) (@pe_ix _ _ _ _ _ _ _ ix_tup (pv 1) pe_int (fun _ _=>rfl))) (@pe_op _ _ _ _ _ _ _ _ op_mulB (@pe_ix _ _ _ _ _ _ _ ix_tup (pv 1) pe_int (fun _ _=>rfl)) (@pe_ix _ _ _ _ _ _ _ ix_tup (pv 0) pe_int (fun _ _=>rfl))) (nomark _)))),?_⟩
 and_intros
 exact q
theorem ok_begin (T:Tx K mg ad):FnOk P w K mg base CX0 1 ad.f_begin ad.d_begin ["sheet","hands"] spBegin:=by
 refine T.F_begin.ok sc_begin (fun vs H Q E h=>?_) (fun cdv A outer s H vs Q E hr h=>?_)
 ·obtain ⟨l,h,ls,rfl,_⟩:=h
  rfl
 obtain ⟨l,h,ls,rfl,hl,l60,h12,q⟩:=h
 refine ⟨_,(@pss_one _ _ _ (@ps_ret _ _ _ _ (pe_comp (fsc:=defScope s_begin) (N:=["sheet","hands"]) (Nc:=["sheet","hands","line"]) rfl rfl ⟨rfl,by decide +kernel,by decide +kernel,rfl,by decide +kernel,rfl,by decide +kernel,rfl,by decide +kernel⟩ rfl (pi_list (pv 0)) (fun _ _ _ _=>pif_nil) (fun _ _ _ _=>(@pe_tup _ _ _ _ _ (@pa_cons _ _ _ _ _ (@pe_tup _ _ _ _ _ (@pa_cons _ _ _ _ _ pe_int (@pa_cons _ _ _ _ _ pe_int pa_nil (by rfl)) (by rfl))) (@pa_cons _ _ _ _ _ (by exact (pe_compIn0 (fsc:=defScope s_begin) (Nc:=["sheet","hands","line"]) (Nd:=["sheet","hands","line","hand"]) rfl ⟨rfl,by decide +kernel,by decide +kernel,rfl,by decide +kernel,rfl,by decide +kernel,rfl,by decide +kernel⟩ rfl (pi_range1 rfl T.z_range (@pa_cons _ _ _ _ _ (pv 1) pa_nil (by rfl))) (fun _ _ _ _=>pif_nil) (fun _ _ _ _=>(@pe_tup _ _ _ _ _ (@pa_cons _ _ _ _ _ pe_int (@pa_cons _ _ _ _ _ pe_int pa_nil (by rfl)) (by rfl)))))) pa_nil (by rfl)) (by rfl))))))),?_⟩
 have vl:=vls_len ls
 subst_eqs
 refine ⟨⟨_,SqL.of hl⟩,?_⟩
 refine comp_list (xs:=vls ls) (by rw [vl];exact small63 (by omega)) (fun D i ys J=>∃xs:List Sh,ys=shv xs/\xs.length=i/\J D=some (.lst ys)/\Same H J/\(∀x∈xs,ShG J x/\x.2.1.2=(1,1)/\x.2.2.2.map (·.2)=List.replicate h (0,1)/\H x.2.2.1=none/\x.2.2.1≠D)/\(xs.map fun x=>x.2.2.1).Nodup) (fun D hD=>⟨[],rfl,rfl,upd_same,same_new hD _,(fun _ m=>absurd m List.not_mem_nil),List.nodup_nil⟩) (fun D i ys J hq_=>by obtain ⟨xs,f1,f2,f3,_⟩:=hq_;exact ⟨f3,by rw [f1];unfold shv;rw [List.length_map,f2];exact Nat.le_refl _⟩) (fun D i ys J hD hq_=>by obtain ⟨_,_,_,_,f4,_⟩:=hq_;exact SqL.of (f4 _ _ hl)) ?_ ?_
 ·rintro D i y ys J K1 K2 hD hy ⟨xs,rfl,n1,n2,n3,n4,n5⟩ kk1 kk2
  refine yes (ifT rfl ?_)
  refine ⟨(by show 2<=sizeLine;decide),fun f1 hf1=>?_⟩
  have s1:=same_new hf1 (.tup [V.int 1,V.int 1])
  have e1:(upd J f1 (.tup [V.int 1,V.int 1])) f1=some (.tup [V.int 1,V.int 1]):=upd_same
  generalize upd J f1 (.tup [V.int 1,V.int 1])=J1 at s1 e1 ⊢
  refine ⟨_,rfl,(h:Int),rfl,by omega,by omega,?_⟩
  rw [Int.toNat_natCast]
  refine comp_range (small63 (by omega)) (fun D2 k ys J2=>∃fs:List Fq,ys=fqv fs/\J2 D2=some (.lst ys)/\Same J1 J2/\(∀f∈fs,FqG J2 f)/\fs.map (·.2)=List.replicate k (0,1)) (fun D2 hD2=>⟨[],rfl,upd_same,same_new hD2 _,(fun _ m=>absurd m List.not_mem_nil),rfl⟩) (fun D2 k ys J2 hq_=>by obtain ⟨fs,f1,f2,_,_,f5⟩:=hq_;exact ⟨f2,by rw [f1];unfold fqv;rw [List.length_map,<- List.length_map (f:=(·.2)),f5,List.length_replicate];exact Nat.le_refl _⟩) ?_ ?_
  ·rintro D2 k ys J2 L1 L2 hD2 hk ⟨fs,rfl,m1,m2,m3,m4⟩ ll1 ll2
   refine yes (ifT rfl ?_)
   refine ⟨(by show 2<=sizeLine;decide),fun t0 ht0=>?_⟩
   have s2:=same_new ht0 (.tup [V.int 0,V.int 1])
   have e2:(upd J2 t0 (.tup [V.int 0,V.int 1])) t0=some (.tup [V.int 0,V.int 1]):=upd_same
   generalize upd J2 t0 (.tup [V.int 0,V.int 1])=J3 at s2 e2 ⊢
   have m1':=s2 _ _ m1
   refine ll1 _ _ m1' ⟨fs++[(t0,0,1)],by unfold fqv;rw [List.map_append];rfl,upd_same,same_upd (m2.trans s2) hD2,(fun f m=>FqG.upd ?_ m1'),?_⟩
   ·rcases List.mem_append.mp m with m | m
    ·exact (m3 f m).same s2
    ·rw [List.mem_singleton.mp m];exact e2
   ·rw [List.map_append,m4,List.replicate_succ']
    rfl
  rintro D2 ys J2 hD2 ⟨fs,rfl,m1,m2,m3,m4⟩
  refine ⟨(by show 2<=sizeLine;decide),fun t ht=>?_⟩
  have s3:=same_new ht (.tup [V.ref f1,V.ref D2])
  have e3:(upd J2 t (.tup [V.ref f1,V.ref D2])) t=some (.tup [V.ref f1,V.ref D2]):=upd_same
  generalize upd J2 t (.tup [V.ref f1,V.ref D2])=J3 at s3 e3 ⊢
  have s13:=s1.trans (m2.trans s3)
  have n2':=s13 _ _ n2
  have dD:D2≠D:=fun z=>by rw [z,s1 _ _ n2] at hD2;cases hD2
  have hDn:H D2=none:=none_of (n3.trans s1) hD2
  refine kk1 _ _ n2' ⟨xs++[(t,(f1,1,1),D2,fs)],by unfold shv;rw [List.map_append];rfl,by rw [List.length_append,n1];rfl,upd_same,same_upd (n3.trans s13) hD,(fun x m=>?_),?_⟩
  ·rcases List.mem_append.mp m with m | m
   ·obtain ⟨a1,a2,a3,a4,a5⟩:=n4 x m
    exact ⟨(a1.same s13).upd n2' a5,a2,a3,a4,a5⟩
   ·rw [List.mem_singleton.mp m]
    exact ⟨ShG.upd ⟨e3,(m2.trans s3) _ _ e1,s3 _ _ m1,fun f m=>(m3 f m).same s3⟩ n2' dD,rfl,m4,hDn,dD⟩
  ·rw [List.map_append,List.nodup_append]
   refine ⟨n5,List.nodup_cons.mpr ⟨(fun m=>nomatch m),List.nodup_nil⟩,fun x m y k e=>?_⟩
   obtain ⟨x0,xm,rfl⟩:=List.mem_map.mp m
   rw [List.mem_singleton.mp k] at e
   have:=(n4 x0 xm).1.l
   rw [e] at this
   have:=s1 _ _ this
   rw [hD2] at this
   cases this
 rintro D ys J hD ⟨xs,rfl,n1,n2,n3,n4,n5⟩
 rw [vl] at n1
 exact q D xs J hD n3 n2 n4 n5 n1
theorem ok_with_kept (T:Tx K mg ad):FnOk P w K mg base CX0 1 ad.f_with_kept ad.d_with_kept ["kept","hand","given"] spWithKept:=by
 refine T.F_with_kept.ok sc_with_kept (fun vs H Q E h=>?_) (fun cdv A outer s H vs Q E hr h=>?_)
 ·obtain ⟨kl,hd,ks,g,rfl,_⟩:=h
  rfl
 obtain ⟨kl,hd,ks,g,rfl,hk,gk,gg,hh,k12,q⟩:=h
 refine ⟨_,(@pss_cons _ _ _ _ _ (@ps_set _ _ (3) _ _ _ _ sc_with_kept.nd rfl (Or.inl rfl) (@pe_callTy _ _ _ _ _ _ _ _ _ call_list_of (by rfl) T.z_list PyProof.Rows.boot_list (@pa_cons _ _ _ _ _ (pv 0) pa_nil (by rfl)) (by decide) (by decide) (by rfl) (by rfl)) (by rfl) (by first | exact .inl rfl | exact .inr rfl | assumption)) (@pss_cons _ _ _ _ _ (ps_asg (pv 2) (pg_sub (pv 3) (pv 1) set_list)) (@pss_one _ _ _ (@ps_ret _ _ _ _ (pv 3))))),?_⟩
 and_intros
 intro l hl
 have s1:=same_new hl (.lst (fqv ks))
 have e1:(upd H l (.lst (fqv ks))) l=some (.lst (fqv ks)):=upd_same
 generalize upd H l (.lst (fqv ks))=H1 at s1 e1 ⊢
 and_intros
 refine ⟨l,_,_,hd,rfl,rfl,e1,ixN_nat (by unfold fqv;rw [List.length_map];exact hh),?_⟩
 rw [show (fqv ks).set hd (V.ref g.1)=fqv (ks.set hd g) from fqv_set ks hd g]
 exact ⟨_,rfl,q l _ hl (same_upd s1 hl) upd_same⟩
theorem ok_law_cell (T:Tx K mg ad):FnOk P w K mg base CX0 1 ad.f_law_cell ad.d_law_cell ["_law_script","_law_k"] (spC40 K):=by
 refine T.F_law_cell.ok sc_law_cell (fun vs H Q E h=>?_) (fun cdv A outer s H vs Q E hr h=>?_)
 ·obtain ⟨p,ns,k,rfl,_⟩:=h
  rfl
 obtain ⟨p,ns,k,rfl,hS,h63,k0,k1,q⟩:=h
 refine ⟨_,(@pss_cons _ _ _ _ _ (@ps_if _ _ _ _ _ _ _ _ (@pt_cmpR _ _ _ _ _ _ _ _ op_lt (pv 1) (@pe_callB _ _ _ _ _ _ _ _ _ call_len_seq (by rfl) T.z_len PySem.boot_len (@pa_cons _ _ _ _ _ (pv 0) pa_nil (by rfl)) (by decide) (by decide) (by rfl) (by rfl)) (nomark _)) (@pss_one _ _ _ (@ps_ret _ _ _ _ (@pe_op _ _ _ _ _ _ _ _ op_modN (@pe_ix _ _ _ _ _ _ _ ix_list (pv 0) (pv 1) (fun _ _=>rfl)) (@pe_op _ _ _ _ _ _ _ _ op_pow pe_int pe_int)))) pss_nil) (@pss_cons _ _ _ _ _ (@ps_set _ _ (2) _ _ _ _ sc_law_cell.nd rfl (Or.inl rfl) (@pe_op _ _ _ _ _ _ _ _ op_add (@pe_op _ _ _ _ _ _ _ _ op_mulB (pv 1) pe_int) pe_int) (by rfl) (by first | exact .inl rfl | exact .inr rfl | assumption)) (@pss_cons _ _ _ _ _ (@ps_ifJ _ _ _ _ _ _ _ _ (@pt_cmpR _ _ _ _ _ _ _ _ op_gt (@pe_callB _ _ _ _ _ _ _ _ _ call_len_seq (by rfl) T.z_len PySem.boot_len (@pa_cons _ _ _ _ _ (pv 0) pa_nil (by rfl)) (by decide) (by decide) (by rfl) (by rfl)) pe_int (nomark _)) (@pss_one _ _ _ (@ps_set _ _ (2) _ _ _ _ sc_law_cell.nd rfl (Or.inl rfl) (@pe_op _ _ _ _ _ _ _ _ op_add (@pe_op _ _ _ _ _ _ _ _ op_mulB (@pe_op _ _ _ _ _ _ _ _ op_modN (@pe_ix _ _ _ _ _ _ _ ix_list (pv 0) (@pe_op _ _ _ _ _ _ _ _ op_modN (@pe_op _ _ _ _ _ _ _ _ op_mulB (pv 1) pe_int) (@pe_callB _ _ _ _ _ _ _ _ _ call_len_seq (by rfl) T.z_len PySem.boot_len (@pa_cons _ _ _ _ _ (pv 0) pa_nil (by rfl)) (by decide) (by decide) (by rfl) (by rfl))) (fun _ _=>rfl)) (@pe_op _ _ _ _ _ _ _ _ op_pow pe_int pe_int)) pe_int) (@pe_op _ _ _ _ _ _ _ _ op_mulB (@pe_op _ _ _ _ _ _ _ _ op_mulB (pv 1) (pv 1)) pe_int)) (by rfl) (by first | exact .inl rfl | exact .inr rfl | assumption))) pss_nil) (@pss_one _ _ _ (@ps_ret _ _ _ _ (@pe_op _ _ _ _ _ _ _ _ op_modN (@pe_op _ _ _ _ _ _ _ _ op_mulB (@pe_op _ _ _ _ _ _ _ _ op_modN (pv 2) pe_int) pe_int) pe_int)))))),?_⟩
 have hl:(ns.map V.int).length=ns.length:=List.length_map _
 have szk:Sz 64 k:=sz_of (by omega) (by omega)
 have p40:(0:Int) < 10 ^ (40:Int).toNat:=by decide +kernel
 refine ⟨_,rfl,_,rfl,p,_,rfl,.inl hS,_,_,rfl,rfl,_,rfl,?_⟩
 refine ite2 (fun c=>?_) (fun c=>?_)
 ·have c':k < (((ns.map V.int).length:Nat):Int):=of_decide_eq_true c
  rw [hl] at c'
  obtain ⟨v,hv⟩:=item_at k0 c'
  refine ⟨_,rfl,_,rfl,p,_,_,_,rfl,rfl,hS,hv,_,_,rfl,rfl,cpow40,_,_,rfl,rfl,(Int.ne_of_gt p40),?_⟩
  exact q _ (fmod_in v p40).1 (fmod_in v p40).2
 ·and_intros
  refine ⟨fun σ' H'=>∃z:Int,σ'=[some (.ref p),some (.int k),some (.int z)]/\H=H',?_,?_⟩
  ·refine ⟨_,rfl,p,_,rfl,.inl hS,_,_,rfl,rfl,_,rfl,?_⟩
   refine ite2 (fun c2=>?_) (fun c2=>?_)
   ·have c2':0 < (((ns.map V.int).length:Nat):Int):=of_decide_eq_true c2
    rw [hl] at c2'
    have m:=fmod_in (k*7) c2'
    obtain ⟨v,hv⟩:=item_at m.1 m.2
    refine ⟨_,rfl,?_⟩
    and_intros
    refine ⟨p,_,rfl,.inl hS,?_⟩
    rw [hl]
    refine ⟨_,_,rfl,rfl,(by show (_:Int)≠0;omega),?_⟩
    refine ⟨p,_,_,_,rfl,rfl,hS,hv,_,_,rfl,rfl,cpow40,_,_,rfl,rfl,(Int.ne_of_gt p40),?_⟩
    have szv:Sz 200 (v.fmod (10 ^ (40:Int).toNat)):=sz40 (fmod_in v p40).1 (fmod_in v p40).2
    and_intros
    exact rfl
   ·exact ⟨_,rfl,rfl⟩
  rintro σ' H' ⟨z,rfl,rfl⟩
  have m1:=fmod_in z (show (0:Int) < 2147483647 by decide)
  have sz1:Sz 64 (z.fmod 2147483647):=sz_of (by omega) (by omega)
  and_intros
  have m:=fmod_in (z.fmod 2147483647*69621) (show (0:Int) < 2147483629 by decide)
  exact q _ m.1 (Int.lt_trans m.2 (by decide))
theorem ok_law_mixed (T:Tx K mg ad):FnOk P w K mg base CX0 1 ad.f_law_mixed ad.d_law_mixed ["_law_cell_here","_law_by"] spMix71:=by
 refine T.F_law_mixed.ok sc_law_mixed (fun vs H Q E h=>?_) (fun cdv A outer s H vs Q E hr h=>?_)
 ·obtain ⟨c,b,rfl,_⟩:=h
  rfl
 obtain ⟨c,b,rfl,szc,b0,b1,q⟩:=h
 refine ⟨_,(@pss_cons _ _ _ _ _ (@ps_set _ _ (2) _ _ _ _ sc_law_mixed.nd rfl (Or.inl rfl) (@pe_op _ _ _ _ _ _ _ _ op_add pe_int (@pe_op _ _ _ _ _ _ _ _ op_mulB (pv 1) pe_int)) (by rfl) (by first | exact .inl rfl | exact .inr rfl | assumption)) (@pss_one _ _ _ (@ps_ret _ _ _ _ (@pe_op _ _ _ _ _ _ _ _ op_modN (@pe_op _ _ _ _ _ _ _ _ op_mulB (@pe_op _ _ _ _ _ _ _ _ op_add (pv 0) pe_int) (pv 2)) (@pe_op _ _ _ _ _ _ _ _ op_add (@pe_op _ _ _ _ _ _ _ _ op_pow pe_int pe_int) pe_int))))),?_⟩
 have szb:Sz 64 b:=sz_of (by omega) (by omega)
 and_intros
 have m:=fmod_in ((c+3)*(618033988749894848204586834365+b*271828182845904523536028747)) (show (0:Int) < 10 ^ (30:Int).toNat+57 by decide)
 exact q _ m.1 (Int.lt_trans m.2 (by decide))
theorem ok_law_mask (T:Tx K mg ad):FnOk P w K mg base CX0 1 ad.f_law_mask ad.d_law_mask ["_law_some"] spMask:=by
 refine T.F_law_mask.ok sc_law_mask (fun vs H Q E h=>?_) (fun cdv A outer s H vs Q E hr h=>?_)
 ·obtain ⟨l,hs,rfl,_⟩:=h
  rfl
 obtain ⟨l,hs,rfl,hl,l100,h64,q⟩:=h
 refine ⟨_,(@pss_one _ _ _ (@ps_ret _ _ _ _ (@pe_callB _ _ _ _ _ _ _ _ _ (call_sum rfl) (by rfl) T.z_sum PyProof.Rows.boot_sum (@pa_cons _ _ _ _ _ (pe_comp (fsc:=defScope s_law_mask) (N:=["_law_some"]) (Nc:=["_law_some","_law_hand"]) rfl rfl ⟨rfl,by decide +kernel,by decide +kernel,rfl,by decide +kernel,rfl,by decide +kernel,rfl,by decide +kernel⟩ rfl (pi_list (pv 0)) (fun _ _ _ _=>pif_nil) (fun _ _ _ _=>(@pe_op _ _ _ _ _ _ _ _ op_shl pe_int (pv 1)))) pa_nil (by rfl)) (by decide) (by decide) (by rfl) (by rfl)))),?_⟩
 and_intros
 refine ⟨⟨_,SqL.of hl⟩,?_⟩
 refine comp_list (xs:=hs.map V.int) (by rw [List.length_map];exact small900 (by omega)) (fun D i ys H'=>ys=((hs.take i).map fun h=>(1:Int)*2 ^ h.toNat).map V.int/\H'=upd H D (.lst ys)) (fun D hD=>⟨rfl,rfl⟩) (fun D i ys H' hq_=>by obtain ⟨f1,f2⟩:=hq_;exact ⟨by rw [f2];exact upd_same,by rw [f1,List.length_map,List.length_map];exact List.length_take_le _ _⟩) (fun D i ys H' hD hq_=>by obtain ⟨_,f2⟩:=hq_;rw [f2];exact SqL.of (same_new hD _ _ _ hl)) ?_ ?_
 ·rintro D i x ys H' K1 K2 hD hx ⟨f1,rfl⟩ k1 k2
  obtain ⟨z,hz,rfl⟩:=int_at hx
  have et:hs.take (i+1)=hs.take i++[z]:=by rw [List.take_succ,hz];rfl
  obtain ⟨z0,z64⟩:=h64 z (List.mem_of_getElem? hz)
  refine yes (ifT rfl ?_)
  refine ⟨_,rfl,_,_,rfl,rfl,⟨by omega,by omega,by decide⟩,?_⟩
  refine k1 _ _ upd_same ⟨?_,by rw [upd_upd]⟩
  rw [f1,et,List.map_append,List.map_append]
  rfl
 ·rintro D ys H' hD ⟨rfl,rfl⟩
  refine ⟨D,_,rfl,SqL.of upd_same,?_⟩
  rw [List.length_map,List.take_length]
  exact q _ (same_new hD _)
theorem ok_law_number (T:Tx K mg ad):FnOk P w K mg base CX0 1 ad.f_law_number ad.d_law_number ["_law_cell_here","_law_most"] spNumber16:=by
 refine T.F_law_number.ok sc_law_number (fun vs H Q E h=>?_) (fun cdv A outer s H vs Q E hr h=>?_)
 ·obtain ⟨c,m,rfl,_⟩:=h
  rfl
 obtain ⟨c,m,rfl,szc,m1,m9,q⟩:=h
 refine ⟨_,(@pss_one _ _ _ (@ps_ret _ _ _ _ (@pe_op _ _ _ _ _ _ _ _ op_add pe_int (@pe_op _ _ _ _ _ _ _ _ op_modN (@pe_op _ _ _ _ _ _ _ _ op_modN (@pe_op _ _ _ _ _ _ _ _ op_add (@pe_op _ _ _ _ _ _ _ _ op_mulB (pv 0) pe_int) pe_int) pe_int) (pv 1))))),?_⟩
 and_intros
 refine ⟨(by show (_:Int)≠0;omega),?_⟩
 have k:=fmod_in ((c*48271+5).fmod 1000000007) (show (0:Int) < m by omega)
 and_intros
 exact q _ (by omega) (by omega)
theorem ok_law_whole (T:Tx K mg ad):FnOk P w K mg base CX0 1 ad.f_law_whole ad.d_law_whole ["_law_found"] spWhole:=by
 refine T.F_law_whole.ok sc_law_whole (fun vs H Q E h=>?_) (fun cdv A outer s H vs Q E hr h=>?_)
 ·obtain ⟨c,rfl,_⟩:=h
  rfl
 obtain ⟨c,rfl,q⟩:=h
 refine ⟨_,(@pss_one _ _ _ (@ps_ret _ _ _ _ (@pe_and _ _ _ _ _ _ _ (@pe_callB _ _ _ _ _ _ _ _ _ call_isi (by rfl) T.z_isinstance PyProof.Rows.boot_isinstance (@pa_cons _ _ _ _ _ (pv 0) (@pa_cons _ _ _ _ _ (pe_bltn (v:=.ty "int") rfl T.z_int PyProof.Rows.boot_int rfl) pa_nil (by rfl)) (by rfl)) (by decide) (by decide) (by rfl) (by rfl)) (@pe_one _ _ _ _ _ (@pe_not _ _ _ _ (@pe_callB _ _ _ _ _ _ _ _ _ call_isi (by rfl) T.z_isinstance PyProof.Rows.boot_isinstance (@pa_cons _ _ _ _ _ (pv 0) (@pa_cons _ _ _ _ _ (pe_bltn (v:=.ty "bool") rfl T.z_bool PyProof.Rows.boot_bool rfl) pa_nil (by rfl)) (by rfl)) (by decide) (by decide) (by rfl) (by rfl))))))),?_⟩
 refine ⟨_,rfl,_,_,_,_,rfl,TyOf.int c,kit_int_int,_,rfl,?_⟩
 refine iteT ?_
 exact ⟨_,rfl,_,_,_,_,rfl,TyOf.int c,kit_int_bool,_,rfl,q⟩
theorem ok_law_divisor (T:Tx K mg ad):FnOk P w K mg base CX0 1 ad.f_law_divisor ad.d_law_divisor ["_law_one","_law_other_here"] spDiv42:=by
 refine T.F_law_divisor.ok sc_law_divisor (fun vs H Q E h=>?_) (fun cdv A outer s H vs Q E hr h=>?_)
 ·obtain ⟨a,b,rfl,_⟩:=h
  rfl
 obtain ⟨a,b,rfl,a0,b0,q⟩:=h
 refine ⟨_,(@pss_cons _ _ _ _ _ (ps_while PassesOwn.never (@pt_cmpR _ _ _ _ _ _ _ _ op_ne (pv 1) pe_int (nomark _)) (@pss_one _ _ _ (ps_par (i:=0) (j:=1) rfl sc_law_divisor.nd rfl rfl (by decide) rfl rfl (@pa_cons _ _ _ _ _ (pv 1) (@pa_cons _ _ _ _ _ (@pe_op _ _ _ _ _ _ _ _ op_modN (pv 0) (pv 1)) pa_nil (by rfl)) (by rfl)) rfl))) (@pss_one _ _ _ (@ps_ret _ _ _ _ (@pe_callB _ _ _ _ _ _ _ _ _ call_abs (by rfl) T.z_abs PyProof.Rows.boot_abs (@pa_cons _ _ _ _ _ (pv 0) pa_nil (by rfl)) (by decide) (by decide) (by rfl) (by rfl))))),?_⟩
 refine while_by (fun σ' H'=>∃x y:Int,σ'=[some (.int x),some (.int y)]/\H'=H/\0<=x/\0<=y/\Int.gcd x y=Int.gcd a b) (fun σ' _=>match σ' with | [_,some (.int y)]=>y.toNat | _=>0) ⟨_,_,rfl,rfl,a0,b0,rfl⟩ ?_ while_monoN
 rintro σ1 H1 ⟨x,y,rfl,rfl,x0,y0,g⟩
 and_intros
 by_cases c:y=0
 ·refine ifF (ne_f c) ?_
  and_intros
  have e:=gcd_end x0 y0 (by omega)
  have e2:gcdI x y=gcdI a b:=by unfold gcdI;rw [g]
  rw [if_neg (by omega),show x=gcdI a b from e.trans e2]
  exact q
 ·refine ifT (ne_t c) ?_
  have c':0 < y:=by omega
  have m:=fmod_in x c'
  and_intros
  refine ⟨Int.ne_of_gt c',?_⟩
  refine ⟨_,_,rfl,?_⟩
  refine ⟨⟨y,x.fmod y,rfl,rfl,y0,m.1,(gcd_turn x0 c').trans g⟩,?_⟩
  show (x.fmod y).toNat < y.toNat
  omega
theorem ok_law_added (T:Tx K mg ad):FnOk P w K mg base CX0 1 ad.f_law_added ad.d_law_added ["_law_one","_law_other_here"] spAdded45:=by
 refine T.F_law_added.ok sc_law_added (fun vs H Q E h=>?_) (fun cdv A outer s H vs Q E hr h=>?_)
 ·obtain ⟨f,g,rfl,_⟩:=h
  rfl
 obtain ⟨f,g,rfl,gf,gg,f1,f2,g1,g2,q⟩:=h
 refine ⟨_,(@pss_cons _ _ _ _ _ (@ps_if _ _ _ _ _ _ _ _ (@pt_cmpR _ _ _ _ _ _ _ _ op_eq (@pe_ix _ _ _ _ _ _ _ ix_tup (pv 1) pe_int (fun _ _=>rfl)) pe_int (nomark _)) (@pss_one _ _ _ (@ps_ret _ _ _ _ (pv 0))) pss_nil) (@pss_cons _ _ _ _ _ (@ps_if _ _ _ _ _ _ _ _ (@pt_cmpR _ _ _ _ _ _ _ _ op_eq (@pe_ix _ _ _ _ _ _ _ ix_tup (pv 0) pe_int (fun _ _=>rfl)) (@pe_ix _ _ _ _ _ _ _ ix_tup (pv 1) pe_int (fun _ _=>rfl)) (nomark _)) (@pss_one _ _ _ (@ps_ret _ _ _ _ (@pe_tup _ _ _ _ _ (@pa_cons _ _ _ _ _ (@pe_op _ _ _ _ _ _ _ _ op_add (@pe_ix _ _ _ _ _ _ _ ix_tup (pv 0) pe_int (fun _ _=>rfl)) (@pe_ix _ _ _ _ _ _ _ ix_tup (pv 1) pe_int (fun _ _=>rfl))) (@pa_cons _ _ _ _ _ (@pe_ix _ _ _ _ _ _ _ ix_tup (pv 0) pe_int (fun _ _=>rfl)) pa_nil (by rfl)) (by rfl))))) pss_nil) (@pss_one _ _ _ (@ps_ret _ _ _ _ (@pe_tup _ _ _ _ _ (@pa_cons _ _ _ _ _ (@pe_op _ _ _ _ _ _ _ _ op_add (@pe_op _ _ _ _ _ _ _ _ op_mulB (@pe_ix _ _ _ _ _ _ _ ix_tup (pv 0) pe_int (fun _ _=>rfl)) (@pe_ix _ _ _ _ _ _ _ ix_tup (pv 1) pe_int (fun _ _=>rfl))) (@pe_op _ _ _ _ _ _ _ _ op_mulB (@pe_ix _ _ _ _ _ _ _ ix_tup (pv 1) pe_int (fun _ _=>rfl)) (@pe_ix _ _ _ _ _ _ _ ix_tup (pv 0) pe_int (fun _ _=>rfl)))) (@pa_cons _ _ _ _ _ (@pe_op _ _ _ _ _ _ _ _ op_mulB (@pe_ix _ _ _ _ _ _ _ ix_tup (pv 0) pe_int (fun _ _=>rfl)) (@pe_ix _ _ _ _ _ _ _ ix_tup (pv 1) pe_int (fun _ _=>rfl))) pa_nil (by rfl)) (by rfl))))))),?_⟩
 have gf':H f.1=some (.tup [.int f.2.1,.int f.2.2]):=gf
 have gg':H g.1=some (.tup [.int g.2.1,.int g.2.2]):=gg
 and_intros
 by_cases c:g.2.1=0
 ·refine ifT (eq_t c) ?_
  have e:addD f.2 g.2=f.2:=by unfold addD;rw [if_pos c]
  exact ⟨_,rfl,q f.1 H (fun _ _ e=>e) (by rw [e];exact gf)⟩
 refine ifF (eq_f c) ?_
 and_intros
 by_cases c2:f.2.2=g.2.2
 ·refine ifT (eq_t c2) ?_
  have e:addD f.2 g.2=(f.2.1+g.2.1,f.2.2):=by unfold addD;rw [if_neg c,if_pos c2]
  and_intros
  refine ⟨(by show 2<=sizeLine;decide),fun a ha=>?_⟩
  exact q a _ (same_new ha _) (by rw [e];exact upd_same)
 refine ifF (eq_f c2) ?_
 have e:addD f.2 g.2=(f.2.1*g.2.2+g.2.1*f.2.2,f.2.2*g.2.2):=by unfold addD;rw [if_neg c,if_neg c2]
 and_intros
 refine ⟨(by show 2<=sizeLine;decide),fun a ha=>?_⟩
 exact q a _ (same_new ha _) (by rw [e];exact upd_same)
theorem ok_law_apart (T:Tx K mg ad):FnOk P w K mg base CX0 1 ad.f_law_apart ad.d_law_apart ["_law_sheet_here","_law_other_here"] spApart44:=by
 refine T.F_law_apart.ok sc_law_apart (fun vs H Q E h=>?_) (fun cdv A outer s H vs Q E hr h=>?_)
 ·obtain ⟨l,o,ls,os,rfl,_⟩:=h
  rfl
 obtain ⟨l,o,ls,os,rfl,hl,gl,l60,ho,go,o60,nd,q⟩:=h
 refine ⟨_,(@pss_cons _ _ _ _ _ (@ps_set _ _ (2) _ _ _ _ sc_law_apart.nd rfl (Or.inr rfl) pe_dnewT (by rfl) (by first | exact .inl rfl | exact .inr rfl | assumption)) (@pss_cons _ _ _ _ _ (ps_for PassesOwn.never rfl (pi_list (pv 1)) (pg_tup rfl (pgs_cons (pg_name (i:=3) sc_law_apart.nd rfl (Or.inl rfl)) (pgs_cons (pg_name (i:=4) sc_law_apart.nd rfl (Or.inl rfl)) pgs_nil))) (@pss_one _ _ _ (ps_dput (u1 hr.units) (pv 2) (pv 3) (pv 4) rfl))) (@pss_one _ _ _ (@ps_ret _ _ _ _ (@pe_callB _ _ _ _ _ _ _ _ _ (call_sum rfl) (by rfl) T.z_sum PyProof.Rows.boot_sum (@pa_cons _ _ _ _ _ (pe_comp2 (fsc:=defScope s_law_apart) (N:=["_law_sheet_here","_law_other_here","_law_many","_law_slip_here","_law_number_here"]) (Nc:=["_law_sheet_here","_law_other_here","_law_many",".s3",".s4","_law_slip_here","_law_number_here"]) rfl rfl ⟨rfl,by decide +kernel,by decide +kernel,by decide +kernel,by decide +kernel,rfl,by decide +kernel,rfl,by decide +kernel⟩ rfl (pi_list (pv 0)) (fun _ _ _ _=>pif_nil) (fun _ _ _ _=>(@pe_callB _ _ _ _ _ _ _ _ _ (call_max2 rfl) (by rfl) T.z_max PyProof.Rows.boot_max (@pa_cons _ _ _ _ _ pe_int (@pa_cons _ _ _ _ _ (@pe_op _ _ _ _ _ _ _ _ op_sub (pv 6) (pe_dget2 (u1 hr.units) (pv 2) (pv 5) pe_int ⟨rfl,rfl,rfl,rfl⟩)) pa_nil (by rfl)) (by rfl)) (by decide) (by decide) (by rfl) (by rfl)))) pa_nil (by rfl)) (by decide) (by decide) (by rfl) (by rfl)))))),?_⟩
 have vl:=vls_len ls
 have vo:=vls_len os
 subst_eqs
 intro d hd
 have s1:=same_new hd (.dT [])
 have e1:(upd H d (.dT [])) d=some (.dT []):=upd_same
 generalize upd H d (.dT [])=H1 at s1 e1 ⊢
 have ho1:=s1 _ _ ho
 subst_eqs
 refine ⟨⟨_,SqL.of ho1⟩,for_list (xs:=vls os) (fun i σ' J=>∃(v3 v4:Option V) (kvs:List (List Key × V)),σ'=[some (.ref l),some (.ref o),some (.ref d),v3,v4]/\Same H J/\J d=some (.dT kvs)/\DictOf ((dsOf os).take i) kvs) ⟨none,none,[],rfl,s1,e1,DictOf.nil⟩ (fun i σ' J _ hq_=>by obtain ⟨_,_,_,_,e,_⟩:=hq_;exact SqL.of (e _ _ ho)) ?_ ?_⟩
 ·rintro i w σ' J hw ⟨v3,v4,kvs,rfl,sJ,eD,dk⟩
  obtain ⟨f,hf,rfl,fm,et⟩:=vls_get hw
  obtain ⟨g1,g2⟩:=go.same sJ f fm
  have lim:kvs.length<=60:=by
   have:=dk.len (p:=((dsOf os).take i).map (·.1)) fun q m=>List.mem_map.mpr ⟨q,m,rfl⟩
   rw [List.length_map,List.length_take] at this
   have il:=(List.getElem?_eq_some_iff.mp hf).1
   omega
  have ed:(dsOf os).take (i+1)=(dsOf os).take i++[(f.2.2.1,f.2.2.2)]:=by
   rw [List.take_succ]
   unfold dsOf
   rw [List.getElem?_map,hf]
   rfl
  have nk:f.2.2.1 ∉ ((dsOf os).take i).map (·.1):=by
   have hn:=nd.sublist ((List.take_sublist (i+1) (dsOf os)).map (·.1))
   rw [ed,List.map_append,List.nodup_append] at hn
   exact fun m=>hn.2.2 _ m _ (List.mem_singleton.mpr rfl) rfl
  refine ⟨f.1,_,rfl,SqT.of g1,rfl,_,_,rfl,_,_,rfl,rfl,?_⟩
  subst_eqs
  have kt:J f.2.1=some (.tup ((f.2.2.1.map Sum.inl:List Key).map kV)):=by rw [kv_map];exact g2
  refine ⟨d,_,rfl,DPut.t eD kt (small1000 (by omega)),?_⟩
  have pt:=dk.put f.2.2.1 f.2.2.2
  rw [tot_out nk,Int.zero_add,<- ed] at pt
  exact ⟨_,_,_,rfl,same_upd sJ hd,upd_same,pt⟩
 rintro σ' J ⟨v3,v4,kvs,rfl,sJ,eD,dk⟩
 rw [vo,List.take_of_length_le (show (dsOf os).length<=os.length by unfold dsOf;rw [List.length_map];exact Nat.le_refl _)] at dk
 have hl1:=sJ _ _ hl
 have gl1:=gl.same sJ
 subst_eqs
 refine ⟨⟨_,SqL.of hl1⟩,?_⟩
 refine comp_pairs (zs:=vls ls) rfl rfl (by rw [vl];exact small63 (by omega)) (fun D i ys H'=>ys=(((dsOf ls).take i).map fun p=>max 0 (p.2 - numQ (dsOf os) p.1)).map V.int/\H'=upd J D (.lst ys)) (fun D hD=>⟨rfl,rfl⟩) (fun D i ys H' hq_=>by obtain ⟨f1,f2⟩:=hq_;exact ⟨by rw [f2];exact upd_same,by rw [f1,List.length_map,List.length_map];exact List.length_take_le _ _⟩) (fun D i ys H' hD hq_=>by obtain ⟨_,f2⟩:=hq_;rw [f2];exact SqL.of (same_new hD _ _ _ hl1)) ?_ ?_
 ·rintro D i x ys H' K1 K2 hD hx ⟨f1,rfl⟩ k1 k2
  obtain ⟨f,hf,rfl,fm,et⟩:=vls_get hx
  have g:=gl1 f fm
  refine ⟨f.1,_,_,rfl,SqT.of (same_new hD _ _ _ g.1),?_⟩
  refine yes (ifT rfl ?_)
  have eD2:=same_new hD (.lst ys) _ _ eD
  have kt:(upd J D (.lst ys)) f.2.1=some (.tup ((f.2.2.1.map Sum.inl:List Key).map kV)):=by rw [kv_map];exact same_new hD _ _ _ g.2
  subst_eqs
  refine ⟨.inr ⟨_,.inl eD2⟩,?_⟩
  refine ⟨_,rfl,_,DGet.t eD2 kt,?_⟩
  rw [old_val dk]
  refine ⟨_,_,rfl,rfl,?_⟩
  refine ⟨_,_,rfl,?_⟩
  refine k1 _ _ upd_same ⟨?_,by rw [upd_upd]⟩
  have ed:(dsOf ls).take (i+1)=(dsOf ls).take i++[(f.2.2.1,f.2.2.2)]:=by
   rw [List.take_succ]
   unfold dsOf
   rw [List.getElem?_map,hf]
   rfl
  rw [ed,List.map_append,List.map_append,f1]
  congr 1
  show [V.int (if f.2.2.2 - tot (dsOf os) f.2.2.1 > 0 then f.2.2.2 - tot (dsOf os) f.2.2.1 else 0)]=[V.int (max 0 (f.2.2.2 - numQ (dsOf os) f.2.2.1))]
  rw [numQ_tot nd]
  congr 2
  split <;> omega
 rintro D ys H' hD ⟨rfl,rfl⟩
 rw [vl,List.take_of_length_le (show (dsOf ls).length<=ls.length by unfold dsOf;rw [List.length_map];exact Nat.le_refl _)]
 exact ⟨D,_,rfl,SqL.of upd_same,q _ (sJ.trans (same_new hD _))⟩
theorem ok_law_ballots (T:Tx K mg ad):FnOk P w K mg base CX0 1 ad.f_law_ballots ad.d_law_ballots ["_law_sheet_here"] spBallots44:=by
 refine T.F_law_ballots.ok sc_law_ballots (fun vs H Q E h=>?_) (fun cdv A outer s H vs Q E hr h=>?_)
 ·obtain ⟨l,ls,rfl,_⟩:=h
  rfl
 obtain ⟨l,ls,rfl,hl,g,l60,q⟩:=h
 refine ⟨_,(@pss_one _ _ _ (@ps_ret _ _ _ _ (@pe_callB _ _ _ _ _ _ _ _ _ (call_sum rfl) (by rfl) T.z_sum PyProof.Rows.boot_sum (@pa_cons _ _ _ _ _ (pe_comp2 (fsc:=defScope s_law_ballots) (N:=["_law_sheet_here"]) (Nc:=["_law_sheet_here","_law_slip_here","_law_number_here"]) rfl rfl ⟨rfl,by decide +kernel,by decide +kernel,by decide +kernel,by decide +kernel,rfl,by decide +kernel,rfl,by decide +kernel⟩ rfl (pi_list (pv 0)) (fun _ _ _ _=>pif_nil) (fun _ _ _ _=>(pv 2))) pa_nil (by rfl)) (by decide) (by decide) (by rfl) (by rfl)))),?_⟩
 refine ⟨_,rfl,l,rfl,⟨_,SqL.of hl⟩,?_⟩
 refine comp_pairs (zs:=vls ls) rfl rfl (by rw [vls_len];exact small63 (by omega)) (fun D i ys H'=>ys=((dsOf (ls.take i)).map (·.2)).map V.int/\H'=upd H D (.lst ys)) (fun D hD=>⟨rfl,rfl⟩) (fun D i ys H' hq_=>by obtain ⟨f1,f2⟩:=hq_;exact ⟨by rw [f2];exact upd_same,by rw [f1,List.length_map,List.length_map];unfold dsOf;rw [List.length_map];exact List.length_take_le _ _⟩) (fun D i ys H' hD hq_=>by obtain ⟨_,f2⟩:=hq_;rw [f2];exact SqL.of (same_new hD _ _ _ hl)) ?_ ?_
 ·rintro D i x ys H' K1 K2 hD hx ⟨f1,rfl⟩ k1 k2
  obtain ⟨f,hf,rfl,fm,et⟩:=vls_get hx
  refine ⟨f.1,_,_,rfl,SqT.of (same_new hD _ _ _ (g f fm).1),?_⟩
  refine yes (ifT rfl ?_)
  refine ⟨_,rfl,?_⟩
  refine k1 _ _ upd_same ⟨?_,by rw [upd_upd]⟩
  rw [et,dsOf_append,List.map_append,List.map_append,f1]
  rfl
 rintro D ys H' hD ⟨rfl,rfl⟩
 rw [vls_len,List.take_of_length_le (Nat.le_refl _)]
 exact ⟨D,_,rfl,SqL.of upd_same,q _ (same_new hD _)⟩
theorem ok_law_near (T:Tx K mg ad):FnOk P w K mg base CX0 1 ad.f_law_near ad.d_law_near ["_law_one","_law_other_here","_law_hands","_law_many"] spNear44:=by
 refine T.F_law_near.ok sc_law_near (fun vs H Q E h=>?_) (fun cdv A outer s H vs Q E hr h=>?_)
 ·obtain ⟨a,b,h,n,fs,gs,f,g,rfl,_⟩:=h
  rfl
 obtain ⟨a,b,h,n,fs,gs,f,g,rfl,ha,gf,tf,hb,gg,tg,near,h12,nz,q⟩:=h
 refine ⟨_,(@pss_cons _ _ _ _ _ (@ps_set _ _ (4) _ _ _ _ sc_law_near.nd rfl (Or.inl rfl) (@pe_lst _ _ _ _ pa_nil) (by rfl) (by first | exact .inl rfl | exact .inr rfl | assumption)) (@pss_cons _ _ _ _ _ (ps_for PassesOwn.never rfl (pi_range1 rfl T.z_range (@pa_cons _ _ _ _ _ (@pe_op _ _ _ _ _ _ _ _ op_add (pv 2) pe_int) pa_nil (by rfl))) (pg_name (i:=5) sc_law_near.nd rfl (Or.inl rfl)) (@pss_cons _ _ _ _ _ (@ps_set _ _ (6) _ _ _ _ sc_law_near.nd rfl (Or.inl rfl) (@pe_ix _ _ _ _ _ _ _ ix_list (pv 0) (pv 5) (fun _ _=>rfl)) (by rfl) (by first | exact .inl rfl | exact .inr rfl | assumption)) (@pss_cons _ _ _ _ _ (@ps_set _ _ (7) _ _ _ _ sc_law_near.nd rfl (Or.inl rfl) (@pe_ix _ _ _ _ _ _ _ ix_list (pv 1) (pv 5) (fun _ _=>rfl)) (by rfl) (by first | exact .inl rfl | exact .inr rfl | assumption)) (@pss_cons _ _ _ _ _ (@ps_set _ _ (8) _ _ _ _ sc_law_near.nd rfl (Or.inl rfl) (@pe_op _ _ _ _ _ _ _ _ op_sub (@pe_op _ _ _ _ _ _ _ _ op_mulB (@pe_ix _ _ _ _ _ _ _ ix_tup (pv 6) pe_int (fun _ _=>rfl)) (@pe_ix _ _ _ _ _ _ _ ix_tup (pv 7) pe_int (fun _ _=>rfl))) (@pe_op _ _ _ _ _ _ _ _ op_mulB (@pe_ix _ _ _ _ _ _ _ ix_tup (pv 7) pe_int (fun _ _=>rfl)) (@pe_ix _ _ _ _ _ _ _ ix_tup (pv 6) pe_int (fun _ _=>rfl)))) (by rfl) (by first | exact .inl rfl | exact .inr rfl | assumption)) (@pss_cons _ _ _ _ _ (@ps_set _ _ (9) _ _ _ _ sc_law_near.nd rfl (Or.inl rfl) (@pe_op _ _ _ _ _ _ _ _ op_mulB (@pe_ix _ _ _ _ _ _ _ ix_tup (pv 6) pe_int (fun _ _=>rfl)) (@pe_ix _ _ _ _ _ _ _ ix_tup (pv 7) pe_int (fun _ _=>rfl))) (by rfl) (by first | exact .inl rfl | exact .inr rfl | assumption)) (@pss_cons _ _ _ _ _ (@ps_expr _ _ _ _ (pe_bm PySem.F.plainAttrs_list PySem.F.slot_list_append PySem.F.type_list_append mt_append (pv 4) (@pa_cons _ _ _ _ _ (@pe_tup _ _ _ _ _ (@pa_cons _ _ _ _ _ (pv 8) (@pa_cons _ _ _ _ _ (pv 9) pa_nil (by rfl)) (by rfl))) pa_nil (by rfl))) (by rfl)) (@pss_one _ _ _ (@ps_if _ _ _ _ _ _ _ _ (@pt_cmpR _ _ _ _ _ _ _ _ op_gt (@pe_callB _ _ _ _ _ _ _ _ _ call_abs (by rfl) T.z_abs PyProof.Rows.boot_abs (@pa_cons _ _ _ _ _ (pv 8) pa_nil (by rfl)) (by decide) (by decide) (by rfl) (by rfl)) (@pe_op _ _ _ _ _ _ _ _ op_mulB (pv 3) (pv 9)) (nomark _)) (@pss_one _ _ _ (@ps_ret _ _ _ _ pe_bl)) pss_nil)))))))) (@pss_cons _ _ _ _ _ (ps_for PassesOwn.never rfl (pi_list (pv 4)) (pg_tup rfl (pgs_cons (pg_name (i:=8) sc_law_near.nd rfl (Or.inl rfl)) (pgs_cons (pg_name (i:=9) sc_law_near.nd rfl (Or.inl rfl)) pgs_nil))) (@pss_one _ _ _ (ps_for PassesOwn.never rfl (pi_list (pv 4)) (pg_tup rfl (pgs_cons (pg_name (i:=10) sc_law_near.nd rfl (Or.inl rfl)) (pgs_cons (pg_name (i:=11) sc_law_near.nd rfl (Or.inl rfl)) pgs_nil))) (@pss_one _ _ _ (@ps_if _ _ _ _ _ _ _ _ (@pt_cmpR _ _ _ _ _ _ _ _ op_gt (@pe_op _ _ _ _ _ _ _ _ op_sub (@pe_op _ _ _ _ _ _ _ _ op_mulB (pv 8) (pv 11)) (@pe_op _ _ _ _ _ _ _ _ op_mulB (pv 10) (pv 9))) (@pe_op _ _ _ _ _ _ _ _ op_mulB (@pe_op _ _ _ _ _ _ _ _ op_mulB (@pe_op _ _ _ _ _ _ _ _ op_mulB pe_int (pv 3)) (pv 9)) (pv 11)) (nomark _)) (@pss_one _ _ _ (@ps_ret _ _ _ _ pe_bl)) pss_nil))))) (@pss_one _ _ _ (@ps_ret _ _ _ _ pe_bl))))),?_⟩
 subst_eqs
 refine ⟨(by show 0<=sizeLine;decide),fun L hL=>?_⟩
 have s1:=same_new hL (.lst [])
 have e1:(upd H L (.lst [])) L=some (.lst (fqv [])):=upd_same
 generalize upd H L (.lst [])=H1 at s1 e1 ⊢
 subst_eqs
 refine ⟨by omega,by omega,for_range (fun i σ' J=>∃(v5 v6 v7 v8 v9:Option V) (ws:List Fq),σ'=[some (.ref a),some (.ref b),some (.int (h:Int)),some (.int n),some (.ref L),v5,v6,v7,v8,v9,none,none]/\Same H J/\J L=some (.lst (fqv ws))/\ws.length=i/\∀w∈ws,FqG J w/\GapV n w.2) ⟨none,none,none,none,none,[],rfl,s1,e1,rfl,fun _ m=>absurd m List.not_mem_nil⟩ ?_ ?_⟩
 ·rintro i σ' J hi ⟨v5,v6,v7,v8,v9,ws,rfl,sJ,eL,wl,gw⟩
  have hi':i < h+1:=by omega
  obtain ⟨x,hx,xv⟩:=tf.at hi'
  obtain ⟨y,hy,yv⟩:=tg.at hi'
  obtain ⟨⟨x0,xz1,xz2⟩,⟨y0,yz1,yz2⟩,d1,d2⟩:=near i hi'
  have gx:J x.1=some (.tup [.int x.2.1,.int x.2.2]):=(gf x (List.mem_of_getElem? hx)).same sJ
  have gy:J y.1=some (.tup [.int y.2.1,.int y.2.2]):=(gg y (List.mem_of_getElem? hy)).same sJ
  have haJ:=sJ _ _ ha
  have hbJ:=sJ _ _ hb
  have l1:=gap_le d1
  have l2:=gap_le d2
  have xb:=pr_b0 (f i)
  have yb:=pr_b0 (g i)
  rw [<- xv] at xz1 xz2 l1 l2 xb
  rw [<- yv] at yz1 yz2 l1 l2 yb
  have z0:(0:Int)+(i:Int)=(i:Int):=Int.zero_add _
  have gv:GapV n (x.2.1*y.2.2 - y.2.1*x.2.2,x.2.2*y.2.2):=⟨Int.mul_pos xb yb,l1,by
   show -(n*(x.2.2*y.2.2))<=_
   rw [Int.mul_comm y.2.2 x.2.2] at l2
   omega,((xz1.mul yz2).sub (yz1.mul xz2)).mono (by decide),(xz2.mul yz2).mono (by decide)⟩
  subst_eqs
  refine ⟨a,_,_,_,rfl,rfl,SqL.of haJ,(by rw [z0];exact fqv_at hx),?_⟩
  subst_eqs
  refine ⟨b,_,_,_,rfl,rfl,SqL.of hbJ,(by rw [z0];exact fqv_at hy),?_⟩
  subst_eqs
  refine ⟨.inl ⟨rfl,_,SqL.of eL⟩,?_⟩
  subst_eqs
  refine ⟨(by show 2<=sizeLine;decide),fun t ht=>?_⟩
  dsimp only
  generalize x.2.1*y.2.2 - y.2.1*x.2.2=tp at gv ⊢
  generalize x.2.2*y.2.2=bt at gv ⊢
  have j1:=same_new ht (.tup [V.int tp,V.int bt])
  have et:(upd J t (.tup [V.int tp,V.int bt])) t=some (.tup [V.int tp,V.int bt]):=upd_same
  generalize upd J t (.tup [V.int tp,V.int bt])=J1 at j1 et ⊢
  have eL1:=j1 _ _ eL
  refine ⟨L,_,_,rfl,rfl,eL1,(by unfold fqv;rw [List.length_map,wl];exact small1000 (by omega)),?_⟩
  have tu:∀{w:Fq},FqG J1 w->FqG (upd J1 L (.lst (fqv ws++[V.ref t]))) w:=fun {w} k=>FqG.upd k eL1
  have gw':∀w∈ws++[(t,tp,bt)],FqG (upd J1 L (.lst (fqv ws++[V.ref t]))) w/\GapV n w.2:=fun w m=>by
   rcases List.mem_append.mp m with m | m
   ·exact ⟨tu ((gw w m).1.same j1),(gw w m).2⟩
   ·rw [List.mem_singleton.mp m]
    exact ⟨tu et,gv⟩
  have bz:=gv.s2
  subst_eqs
  have u:=gv.u
  have l:=gv.l
  dsimp only at u l
  refine ifF (decide_eq_false ?_) ?_
  ·split <;> omega
  exact ⟨_,_,_,_,_,ws++[(t,tp,bt)],rfl,same_upd (sJ.trans j1) hL,by rw [upd_same];unfold fqv;rw [List.map_append];rfl,by rw [List.length_append,wl];rfl,gw'⟩
 rintro σ' J ⟨v5,v6,v7,v8,v9,ws,rfl,sJ,eL,wl,gw⟩
 have wget:∀{i:Nat} {v:V},(fqv ws)[i]?=some v->∃w∈ws,v=.ref w.1:=fun {i v} hv=>by
  unfold fqv at hv
  rw [List.getElem?_map] at hv
  obtain ⟨x,h1,h2⟩:=Option.map_eq_some_iff.mp hv
  exact ⟨x,List.mem_of_getElem? h1,h2.symm⟩
 subst_eqs
 refine ⟨⟨_,SqL.of eL⟩,for_list (xs:=fqv ws) (fun i σ' G=>∃(v8 v9 v10 v11:Option V),σ'=[some (.ref a),some (.ref b),some (.int (h:Int)),some (.int n),some (.ref L),v5,v6,v7,v8,v9,v10,v11]/\J=G) ⟨v8,v9,none,none,rfl,rfl⟩ (fun i σ' G _ hq=>by
  obtain ⟨_,_,_,_,_,rfl⟩:=hq
  exact SqL.of eL) ?_ ?_⟩
 ·rintro i w σ' G hw ⟨v8',v9',v10',v11',rfl,rfl⟩
  obtain ⟨x,xm,rfl⟩:=wget hw
  obtain ⟨gx,vx⟩:=gw x xm
  have gx':J x.1=some (.tup [.int x.2.1,.int x.2.2]):=gx
  refine ⟨x.1,_,rfl,SqT.of gx',rfl,_,_,rfl,_,_,rfl,rfl,?_⟩
  subst_eqs
  refine ⟨⟨_,SqL.of eL⟩,for_list (xs:=fqv ws) (fun i σ' G=>∃(v10 v11:Option V),σ'=[some (.ref a),some (.ref b),some (.int (h:Int)),some (.int n),some (.ref L),v5,v6,v7,some (.int x.2.1),some (.int x.2.2),v10,v11]/\J=G) ⟨v10',v11',rfl,rfl⟩ (fun i σ' G _ hq=>by
   obtain ⟨_,_,_,rfl⟩:=hq
   exact SqL.of eL) ?_ ?_⟩
  ·rintro k w σ' G hw ⟨v10'',v11'',rfl,rfl⟩
   obtain ⟨y,ym,rfl⟩:=wget hw
   obtain ⟨gy,vy⟩:=gw y ym
   have gy':J y.1=some (.tup [.int y.2.1,.int y.2.2]):=gy
   refine ⟨y.1,_,rfl,SqT.of gy',rfl,_,_,rfl,_,_,rfl,rfl,?_⟩
   have z1:=vx.s1
   have z2:=vx.s2
   have z3:=vy.s1
   have z4:=vy.s2
   have g2:=gap_two vx vy
   subst_eqs
   refine ifF (decide_eq_false (by omega)) ?_
   exact ⟨_,_,rfl,rfl⟩
  ·rintro σ' G ⟨v10'',v11'',rfl,rfl⟩
   exact ⟨_,_,_,_,rfl,rfl⟩
 rintro σ' G ⟨v8',v9',v10',v11',rfl,rfl⟩
 subst_eqs
 exact q J sJ
theorem ok_law_where (T:Tx K mg ad):FnOk P w K mg base CX0 1 ad.f_law_where ad.d_law_where ["_law_slip_here","_law_standing"] (spWhere44 K):=by
 refine T.F_law_where.ok sc_law_where (fun vs H Q E h=>?_) (fun cdv A outer s H vs Q E hr h=>?_)
 ·obtain ⟨p,ts,st,h,rfl,_⟩:=h
  rfl
 obtain ⟨p,ts,st,h,rfl,hT,ok,q⟩:=h
 refine ⟨_,(@pss_cons _ _ _ _ _ (ps_for PassesOwn.never rfl (pi_tup (pv 0)) (pg_name (i:=2) sc_law_where.nd rfl (Or.inr rfl)) (@pss_one _ _ _ (@ps_if _ _ _ _ _ _ _ _ (@pt_cmpR _ _ _ _ _ _ _ _ op_gt (@pe_op _ _ _ _ _ _ _ _ op_and (pv 2) (pv 1)) pe_int (nomark _)) (@pss_one _ _ _ (@ps_ret _ _ _ _ (pe_comp (fsc:=defScope s_law_where) (N:=["_law_slip_here","_law_standing","_law_tier"]) (Nc:=["_law_slip_here","_law_standing","_law_tier","_law_hand"]) rfl rfl ⟨rfl,by decide +kernel,by decide +kernel,rfl,by decide +kernel,rfl,by decide +kernel,rfl,by decide +kernel⟩ rfl (pi_range1 rfl T.z_range (@pa_cons _ _ _ _ _ pe_int pa_nil (by rfl))) (fun _ _ _ _=>(pif_one (@pt_cmpR _ _ _ _ _ _ _ _ op_eq (@pe_op _ _ _ _ _ _ _ _ op_and (@pe_op _ _ _ _ _ _ _ _ op_shr (@pe_op _ _ _ _ _ _ _ _ op_and (pv 2) (pv 1)) (pv 3)) pe_int) pe_int (nomark _)))) (fun _ _ _ _=>(pv 3))))) pss_nil))) (@pss_one _ _ _ (@ps_ret _ _ _ _ (@pe_lst _ _ _ _ pa_nil)))),?_⟩
 refine ⟨_,rfl,p,rfl,⟨_,hT⟩,for_tup (xs:=ts.map V.int) (fun i σ' H'=>∃v,σ'=[some (.ref p),some (.int st),v]/\H'=H/\lieI (ts.drop i) st=lieI ts st) ⟨none,rfl,rfl,rfl⟩ (fun i σ' H' _ hq_=>by obtain ⟨v,_,e2,_⟩:=hq_;rw [e2];exact hT) ?_ ?_⟩
 ·rintro i x σ' H' hx ⟨v,rfl,rfl,e⟩
  obtain ⟨t,ht,rfl⟩:=int_at hx
  have ed:ts.drop i=t :: ts.drop (i+1):=by
   obtain ⟨hlt,e⟩:=List.getElem?_eq_some_iff.mp ht
   rw [List.drop_eq_getElem_cons hlt,e]
  rw [ed] at e
  have e':(if Builtin.bitAnd t st=0 then lieI (ts.drop (i+1)) st else Builtin.bitAnd t st)=lieI ts st:=e
  have tn:=ok.1 t (List.mem_of_getElem? ht)
  have an:=and_in (s:=st) (Int.le_of_lt tn.1) tn.2
  and_intros
  by_cases z:Builtin.bitAnd t st=0
  ·rw [if_pos z] at e'
   exact ifF (decide_eq_false (by omega)) ⟨_,rfl,rfl,e'⟩
  ·rw [if_neg z] at e'
   refine ifT (decide_eq_true (by omega)) ?_
   generalize hm:lieI ts st=m at *
   and_intros
   refine ⟨by decide,by decide,?_⟩
   refine comp_range (small63 (by decide)) (fun D i ys G=>ys=(hands i (bit m)).map V.int/\G=upd H' D (.lst ys)) (fun D hD=>⟨rfl,rfl⟩) (fun D i ys G hq=>by
    obtain ⟨e1,e2⟩:=hq
    rw [e2,e1]
    exact ⟨upd_same,by rw [List.length_map];exact hands_len i (bit m)⟩) ?_ ?_
   ·rintro D k ys G K1 K2 hD hi ⟨e1,rfl⟩ k1 k2
    have ei:(0+(k:Int)).toNat=k:=by omega
    and_intros
    refine ⟨(by show (0:Int)<=0+(k:Int);omega),?_⟩
    and_intros
    rw [e',show decide (V.int (Builtin.bitAnd (m / 2 ^ (0+(k:Int)).toNat) 1)=V.int 1)=bit m k from by rw [holds_bit,ei]]
    have ms:=hands_succ k (bit m)
    cases e:bit m k with
    | true =>
      rw [e,if_pos rfl] at ms
      refine iteT ⟨_,rfl,?_⟩
      refine k1 _ _ upd_same ⟨?_,by rw [upd_upd]⟩
      rw [ms,List.map_append,e1,Int.zero_add]
      rfl
    | false =>
      rw [e,if_neg (by decide)] at ms
      refine iteF ?_
      exact k2 _ ⟨by rw [ms];exact e1,rfl⟩
   ·rintro D ys G hD ⟨rfl,rfl⟩
    refine q D _ hD (same_new hD _) ?_
    rw [upd_same]
    unfold whereI
    rw [hm]
    rfl
 ·rintro σ' H' ⟨v,rfl,rfl,e⟩
  rw [List.length_map,List.drop_of_length_le (Nat.le_refl _)] at e
  have e':(0:Int)=lieI ts st:=e
  and_intros
  refine ⟨(by show 0<=sizeLine;decide),fun z hz=>?_⟩
  refine q z _ hz (same_new hz _) ?_
  rw [upd_same]
  unfold whereI
  rw [<- e']
  rfl
theorem ok_size (T:Tx K mg ad):FnOk P w K mg base CX0 2 ad.f_size ad.d_size ["mask"] spSize20:=by
 refine T.F_size.ok sc_size (fun vs H Q E h=>?_) (fun cdv A outer s H vs Q E hr h=>?_)
 ·obtain ⟨m,rfl,_⟩:=h
  rfl
 obtain ⟨m,rfl,m0,m1,q⟩:=h
 refine ⟨_,(@pss_one _ _ _ (@ps_ret _ _ _ _ (@pe_callB _ _ _ _ _ _ _ _ _ call_len_seq (by rfl) T.z_len PySem.boot_len (@pa_cons _ _ _ _ _ (@pe_call _ _ _ _ _ _ _ _ _ _ _ _ _ _ _ _ (ok_members T) (hr.mono (by decide)) rfl T.m_members T.F_members.kp T.b_members .nil pass0 (@pa_cons _ _ _ _ _ (pv 0) pa_nil (by rfl)) (by decide) (by rfl) (by rfl)) pa_nil (by rfl)) (by decide) (by decide) (by rfl) (by rfl)))),?_⟩
 and_intros
 refine ⟨m0,m1,fun p H' hp s e=>?_⟩
 and_intros
 rw [List.length_map]
 exact q H' s
theorem ok_fraction (T:Tx K mg ad):FnOk P w K mg base CX0 2 ad.f_fraction ad.d_fraction ["top","bottom"] spLowest:=by
 refine T.F_fraction.ok sc_fraction (fun vs H Q E h=>?_) (fun cdv A outer s H vs Q E hr h=>?_)
 ·obtain ⟨t,b,rfl,_⟩:=h
  rfl
 obtain ⟨t,b,rfl,b0,szt,szb,q⟩:=h
 refine ⟨_,(@pss_cons _ _ _ _ _ (@ps_if _ _ _ _ _ _ _ _ (PW.pt (@pw_or _ _ _ _ _ _ _ (@pt_not _ _ _ _ (@pt_val _ _ _ (@pe_call _ _ _ _ _ _ _ _ _ _ _ _ _ _ _ _ (ok_is_whole T) (hr.mono (by decide)) rfl T.m_is_whole T.F_is_whole.kp T.b_is_whole .nil pass0 (@pa_cons _ _ _ _ _ (pv 0) pa_nil (by rfl)) (by decide) (by rfl) (by rfl)) (by intro _;rfl))) (@pw_or1 _ _ _ _ (@pt_not _ _ _ _ (@pt_val _ _ _ (@pe_call _ _ _ _ _ _ _ _ _ _ _ _ _ _ _ _ (ok_is_whole T) (hr.mono (by decide)) rfl T.m_is_whole T.F_is_whole.kp T.b_is_whole .nil pass0 (@pa_cons _ _ _ _ _ (pv 1) pa_nil (by rfl)) (by decide) (by rfl) (by rfl)) (by intro _;rfl)))))) (@pss_one _ _ _ ps_never) pss_nil) (@pss_cons _ _ _ _ _ (@ps_if _ _ _ _ _ _ _ _ (@pt_cmpR _ _ _ _ _ _ _ _ op_eq (pv 1) pe_int (nomark _)) (@pss_one _ _ _ ps_never) pss_nil) (@pss_cons _ _ _ _ _ (@ps_set _ _ (2) _ _ _ _ sc_fraction.nd rfl (Or.inl rfl) (@pe_call _ _ _ _ _ _ _ _ _ _ _ _ _ _ _ _ (ok_divisor T) (hr.mono (by decide)) rfl T.m_divisor T.F_divisor.kp T.b_divisor .nil pass0 (@pa_cons _ _ _ _ _ (pv 0) (@pa_cons _ _ _ _ _ (pv 1) pa_nil (by rfl)) (by rfl)) (by decide) (by rfl) (by rfl)) (by rfl) (by first | exact .inl rfl | exact .inr rfl | assumption)) (@pss_cons _ _ _ _ _ (@ps_ifJ _ _ _ _ _ _ _ _ (@pt_cmpR _ _ _ _ _ _ _ _ op_lt (pv 1) pe_int (nomark _)) (@pss_one _ _ _ (@ps_set _ _ (2) _ _ _ _ sc_fraction.nd rfl (Or.inl rfl) (@pe_un _ _ _ _ _ _ un_neg (pv 2)) (by rfl) (by first | exact .inl rfl | exact .inr rfl | assumption))) pss_nil) (@pss_one _ _ _ (@ps_ret _ _ _ _ (@pe_tup _ _ _ _ _ (@pa_cons _ _ _ _ _ (@pe_op _ _ _ _ _ _ _ _ op_fdivW (pv 0) (pv 2)) (@pa_cons _ _ _ _ _ (@pe_op _ _ _ _ _ _ _ _ op_fdivW (pv 1) (pv 2)) pa_nil (by rfl)) (by rfl))))))))),?_⟩
 refine ⟨_,rfl,_,rfl,_,rfl,?_⟩
 refine iteF ?_
 refine ⟨_,rfl,_,rfl,_,rfl,?_⟩
 refine iteF ?_
 refine ⟨_,rfl,rfl,_,rfl,?_⟩
 refine ite2 (fun c=>absurd (V.int.inj (of_decide_eq_true c)) b0) (fun _=>?_)
 refine ⟨_,rfl,_,rfl,t,b,rfl,?_⟩
 refine ⟨fun σ' H'=>σ'=[some (.int t),some (.int b),some (.int (byOf t b))]/\H'=H,?_,?_⟩
 ·refine ⟨_,rfl,_,_,rfl,rfl,_,rfl,?_⟩
  refine ite2 (fun c=>?_) (fun c=>?_)
  ·have c':b < 0:=of_decide_eq_true c
   refine ⟨_,rfl,_,rfl,?_⟩
   refine ⟨?_,rfl⟩
   show [some (V.int t),some (V.int b),some (V.int (-(gcdI t b)))]=[some (V.int t),some (V.int b),some (V.int (byOf t b))]
   unfold byOf
   rw [if_pos c']
  ·have c':¬ b < 0:=fun e=>c (decide_eq_true e)
   refine ⟨?_,rfl⟩
   show [some (V.int t),some (V.int b),some (V.int (gcdI t b))]=[some (V.int t),some (V.int b),some (V.int (byOf t b))]
   unfold byOf
   rw [if_neg c']
 rintro σ' H' ⟨rfl,rfl⟩
 have ne:=byOf_ne (t:=t) b0
 refine ⟨_,rfl,_,rfl,_,_,rfl,rfl,⟨ne,szt⟩,_,rfl,_,rfl,_,_,rfl,rfl,⟨ne,szb⟩,(by show 2<=sizeLine;decide),fun r hr'=>?_⟩
 exact q r _ (same_new hr' _) upd_same
theorem ok_even_part (T:Tx K mg ad):FnOk P w K mg base CX0 2 ad.f_even_part ad.d_even_part ["free","many"] (spEven 4500):=by
 refine T.F_even_part.ok sc_even_part (fun vs H Q E h=>?_) (fun cdv A outer s H vs Q E hr h=>?_)
 ·obtain ⟨f,n,rfl,_⟩:=h
  rfl
 obtain ⟨f,n,rfl,gf,fb,n1,n12,q⟩:=h
 refine ⟨_,(@pss_cons _ _ _ _ _ (@ps_set _ _ (2) _ _ _ _ sc_even_part.nd rfl (Or.inl rfl) (@pe_call _ _ _ _ _ _ _ _ _ _ _ _ _ _ _ _ (ok_divisor T) (hr.mono (by decide)) rfl T.m_divisor T.F_divisor.kp T.b_divisor .nil pass0 (@pa_cons _ _ _ _ _ (@pe_ix _ _ _ _ _ _ _ ix_tup (pv 0) pe_int (fun _ _=>rfl)) (@pa_cons _ _ _ _ _ (pv 1) pa_nil (by rfl)) (by rfl)) (by decide) (by rfl) (by rfl)) (by rfl) (by first | exact .inl rfl | exact .inr rfl | assumption)) (@pss_one _ _ _ (@ps_ret _ _ _ _ (@pe_tup _ _ _ _ _ (@pa_cons _ _ _ _ _ (@pe_op _ _ _ _ _ _ _ _ op_fdivB (@pe_ix _ _ _ _ _ _ _ ix_tup (pv 0) pe_int (fun _ _=>rfl)) (pv 2)) (@pa_cons _ _ _ _ _ (@pe_op _ _ _ _ _ _ _ _ op_mulB (@pe_ix _ _ _ _ _ _ _ ix_tup (pv 0) pe_int (fun _ _=>rfl)) (@pe_op _ _ _ _ _ _ _ _ op_fdivB (pv 1) (pv 2))) pa_nil (by rfl)) (by rfl)))))),?_⟩
 have szt:=fb.szt
 have szb:=fb.szb
 have g0:gcdI f.2.1 (n:Int)≠0:=by
  unfold gcdI
  have:0 < Int.gcd f.2.1 (n:Int):=Int.gcd_pos_of_ne_zero_right _ (by omega)
  omega
 have gz:Sz 60 (gcdI f.2.1 (n:Int)):=by
  show ((Int.gcd f.2.1 (n:Int):Nat):Int).natAbs < _
  rw [Int.natAbs_natCast]
  have:Int.gcd f.2.1 (n:Int)<=n:=Nat.gcd_le_right _ (by show 0 < (n:Int).natAbs;omega)
  exact Nat.lt_of_le_of_lt this (Nat.lt_of_le_of_lt n12 (by decide))
 have nz:Sz 60 ((n:Int).fdiv (gcdI f.2.1 (n:Int))):=(show Sz 60 (n:Int) from sz_of (by omega) (by omega)).fdiv
 have gf':H f.1=some (.tup [.int f.2.1,.int f.2.2]):=gf
 and_intros
 refine ⟨_,_,rfl,?_⟩
 and_intros
 refine ⟨⟨g0,gz.mono (by decide)⟩,?_⟩
 and_intros
 refine ⟨⟨g0,gz.mono (by decide)⟩,?_⟩
 and_intros
 refine ⟨(by show 2<=sizeLine;decide),fun T hT=>?_⟩
 exact q T _ hT (same_new hT _) upd_same
theorem ok_common_bottom (T:Tx K mg ad):FnOk P w K mg base CX0 2 ad.f_common_bottom ad.d_common_bottom ["bottoms"] spCommonM:=by
 refine T.F_common_bottom.ok sc_common_bottom (fun vs H Q E h=>?_) (fun cdv A outer s H vs Q E hr h=>?_)
 ·obtain ⟨d,ps,M,rfl,_⟩:=h
  rfl
 obtain ⟨d,ps,M,rfl,hd,tb,M0,Mz,l60,q⟩:=h
 refine ⟨_,(@pss_cons _ _ _ _ _ (@ps_set _ _ (1) _ _ _ _ sc_common_bottom.nd rfl (Or.inl rfl) pe_int (by rfl) (by first | exact .inl rfl | exact .inr rfl | assumption)) (@pss_cons _ _ _ _ _ (ps_for PassesOwn.never rfl (pi_list (pe_sortR rfl (by rfl) T.z_sorted (pv 0))) (pg_name (i:=2) sc_common_bottom.nd rfl (Or.inl rfl)) (@pss_one _ _ _ (@ps_if _ _ _ _ _ _ _ _ (@pt_cmpR _ _ _ _ _ _ _ _ op_ne (@pe_op _ _ _ _ _ _ _ _ op_modN (pv 1) (pv 2)) pe_int (nomark _)) (@pss_one _ _ _ (@ps_set _ _ (1) _ _ _ _ sc_common_bottom.nd rfl (Or.inl rfl) (@pe_op _ _ _ _ _ _ _ _ op_mulB (pv 1) (@pe_op _ _ _ _ _ _ _ _ op_fdivB (pv 2) (@pe_call _ _ _ _ _ _ _ _ _ _ _ _ _ _ _ _ (ok_divisor T) (hr.mono (by decide)) rfl T.m_divisor T.F_divisor.kp T.b_divisor .nil pass0 (@pa_cons _ _ _ _ _ (pv 1) (@pa_cons _ _ _ _ _ (pv 2) pa_nil (by rfl)) (by rfl)) (by decide) (by rfl) (by rfl)))) (by rfl) (by first | exact .inl rfl | exact .inr rfl | assumption))) pss_nil))) (@pss_one _ _ _ (@ps_ret _ _ _ _ (pv 1))))),?_⟩
 and_intros
 refine ⟨d,encI ps,ps.map (·.1),rfl,.inl hd,(by unfold encI;rw [List.map_map,List.map_map];rfl),(by rw [List.length_map];omega),fun l ms pm _ hl=>?_⟩
 have s1:=same_new hl (.lst (ms.map V.int))
 have e1:(upd H l (.lst (ms.map V.int))) l=some (.lst (ms.map V.int)):=upd_same
 generalize upd H l (.lst (ms.map V.int))=H1 at s1 e1 ⊢
 have inm:∀b∈ms,∃q∈ps,q.1=b:=fun b k=>by
  obtain ⟨q,qm,e⟩:=List.mem_map.mp (pm.mem_iff.mp k)
  exact ⟨q,qm,e⟩
 have ml:ms.length<=60:=by rw [pm.length_eq,List.length_map];exact l60
 refine ⟨l,rfl,⟨_,SqL.of e1⟩,for_list (xs:=ms.map V.int) (fun i σ' J=>∃(c:Int) (v2:Option V),σ'=[some (.ref d),some (.int c),v2]/\J=H1/\0 < c/\(∀b∈ms.take i,b ∣ c)/\c ∣ M) ⟨1,none,rfl,rfl,(by decide),(fun _ m=>absurd m List.not_mem_nil),Int.one_dvd M⟩ (fun i σ' J _ hq_=>by obtain ⟨_,_,_,e,_⟩:=hq_;rw [e];exact SqL.of e1) ?_ ?_⟩
 ·rintro i x σ' J hx ⟨c,v2,rfl,rfl,c0,cd,csz⟩
  obtain ⟨b,hb,rfl⟩:=int_at hx
  have il:=(List.getElem?_eq_some_iff.mp hb).1
  obtain ⟨q0,qm,e⟩:=inm b (List.mem_of_getElem? hb)
  have b0:0 < b:=by rw [<- e];exact (tb q0 qm).1
  have bM:b ∣ M:=by rw [<- e];exact (tb q0 qm).2
  have bsz:Sz 4500 b:=dvd_sz bM M0 Mz
  have csz':Sz 6100 c:=(dvd_sz csz M0 Mz).mono (by decide)
  have tk:ms.take (i+1)=ms.take i++[b]:=by rw [List.take_add_one,hb];rfl
  obtain ⟨d1,d2,d3⟩:=stepB_dvd c0 b0
  have st:∀(v:Option V),[some (V.ref d),some (.int (stepB c b)),some (.int b)]=[some (V.ref d),some (.int (stepB c b)),some (.int b)]/\J=J/\0 < stepB c b/\(∀y∈ms.take (i+1),y ∣ stepB c b)/\stepB c b ∣ M:=fun _=>⟨rfl,rfl,d3,(fun y k=>by
   rw [tk] at k
   rcases List.mem_append.mp k with k | k
   ·exact Int.dvd_trans (cd y k) d1
   ·rw [List.mem_singleton.mp k];exact d2),stepB_M c0 b0 csz bM⟩
  and_intros
  refine ⟨(by show (_:Int)≠0;omega),?_⟩
  and_intros
  by_cases c2:c.fmod b=0
  ·refine ifF (ne_f c2) ?_
   have e2:stepB c b=c:=by unfold stepB;rw [if_neg (fun h=>h c2)]
   obtain ⟨_,_,k3,k4,k5⟩:=st none
   rw [e2] at k3 k4 k5
   exact ⟨c,_,rfl,rfl,k3,k4,k5⟩
  ·refine ifT (ne_t c2) ?_
   have e2:stepB c b=c*b.fdiv (gcdI c b):=by unfold stepB;rw [if_pos c2]
   have g0:gcdI c b≠0:=by
    unfold gcdI
    have:0 < Int.gcd c b:=Int.gcd_pos_of_ne_zero_left _ (Int.ne_of_gt c0)
    omega
   have gz:Sz 4500 (gcdI c b):=by
    show ((Int.gcd c b:Nat):Int).natAbs < _
    rw [Int.natAbs_natCast]
    exact Nat.lt_of_le_of_lt (Nat.gcd_le_right _ (by omega)) bsz
   have bz:Sz 4500 (b.fdiv (gcdI c b)):=bsz.fdiv
   and_intros
   refine ⟨c,b,rfl,?_⟩
   and_intros
   refine ⟨⟨g0,gz.mono (by decide)⟩,?_⟩
   obtain ⟨_,_,k3,k4,k5⟩:=st none
   rw [e2] at k3 k4 k5
   and_intros
   exact ⟨k3,k4,k5⟩
 rintro σ' J ⟨c,v2,rfl,rfl,c0,cd,csz⟩
 rw [List.length_map] at cd
 rw [List.take_of_length_le (Nat.le_refl _)] at cd
 refine ⟨_,rfl,q c J s1 c0 (fun q0 k=>cd q0.1 (pm.mem_iff.mpr (List.mem_map.mpr ⟨q0,k,rfl⟩))) csz⟩
theorem ok_law_lots (T:Tx K mg ad):FnOk P w K mg base CX0 2 ad.f_law_lots ad.d_law_lots ["_law_cell_here","_law_hands"] spLots71:=by
 refine T.F_law_lots.ok sc_law_lots (fun vs H Q E h=>?_) (fun cdv A outer s H vs Q E hr h=>?_)
 ·obtain ⟨c,h,rfl,_⟩:=h
  rfl
 obtain ⟨c,h,rfl,szc,h1,h12,q⟩:=h
 refine ⟨_,(@pss_cons _ _ _ _ _ (@ps_set _ _ (2) _ _ _ _ sc_law_lots.nd rfl (Or.inl rfl) (@pe_call _ _ _ _ _ _ _ _ _ _ _ _ _ _ _ _ (ok_law_mixed T) (hr.mono (by decide)) rfl T.m_law_mixed T.F_law_mixed.kp T.b_law_mixed .nil pass0 (@pa_cons _ _ _ _ _ (pv 0) (@pa_cons _ _ _ _ _ pe_int pa_nil (by rfl)) (by rfl)) (by decide) (by rfl) (by rfl)) (by rfl) (by first | exact .inl rfl | exact .inr rfl | assumption)) (@pss_cons _ _ _ _ _ (@ps_set _ _ (3) _ _ _ _ sc_law_lots.nd rfl (Or.inl rfl) (pe_listrange rfl (by rfl) T.z_list (by rfl) T.z_range (pv 1)) (by rfl) (by first | exact .inl rfl | exact .inr rfl | assumption)) (@pss_cons _ _ _ _ _ (@ps_set _ _ (4) _ _ _ _ sc_law_lots.nd rfl (Or.inl rfl) (@pe_lst _ _ _ _ pa_nil) (by rfl) (by first | exact .inl rfl | exact .inr rfl | assumption)) (@pss_cons _ _ _ _ _ (ps_for PassesOwn.never rfl (pi_range1 rfl T.z_range (@pa_cons _ _ _ _ _ (pv 1) pa_nil (by rfl))) (pg_name (i:=5) sc_law_lots.nd rfl (Or.inl rfl)) (@pss_cons _ _ _ _ _ (@ps_set _ _ (6) _ _ _ _ sc_law_lots.nd rfl (Or.inl rfl) (@pe_op _ _ _ _ _ _ _ _ op_modN (pv 2) (@pe_callB _ _ _ _ _ _ _ _ _ call_len_seq (by rfl) T.z_len PySem.boot_len (@pa_cons _ _ _ _ _ (pv 3) pa_nil (by rfl)) (by decide) (by decide) (by rfl) (by rfl))) (by rfl) (by first | exact .inl rfl | exact .inr rfl | assumption)) (@pss_cons _ _ _ _ _ (@ps_set _ _ (2) _ _ _ _ sc_law_lots.nd rfl (Or.inl rfl) (@pe_op _ _ _ _ _ _ _ _ op_fdivB (pv 2) (@pe_callB _ _ _ _ _ _ _ _ _ call_len_seq (by rfl) T.z_len PySem.boot_len (@pa_cons _ _ _ _ _ (pv 3) pa_nil (by rfl)) (by decide) (by decide) (by rfl) (by rfl))) (by rfl) (by first | exact .inl rfl | exact .inr rfl | assumption)) (@pss_one _ _ _ (@ps_expr _ _ _ _ (pe_bm PySem.F.plainAttrs_list PySem.F.slot_list_append PySem.F.type_list_append mt_append (pv 4) (@pa_cons _ _ _ _ _ (pe_bm PySem.F.plainAttrs_list PySem.F.slot_list_pop PySem.F.type_list_pop mt_popAt (pv 3) (@pa_cons _ _ _ _ _ (pv 6) pa_nil (by rfl))) pa_nil (by rfl))) (by rfl)))))) (@pss_one _ _ _ (@ps_ret _ _ _ _ (pv 4))))))),?_⟩
 obtain ⟨n,rfl⟩:∃n:Nat,h=(n:Int):=⟨h.toNat,by omega⟩
 refine ⟨_,rfl,c,5,rfl,szc,by decide,by decide,fun z z0 z1=>?_⟩
 subst_eqs
 refine ⟨by omega,fun l hl=>?_⟩
 rw [show (List.map (fun i:Nat=>V.int (i:Int)) (List.range n))=(ups n).map V.int from (by unfold ups;rw [List.map_map];rfl)]
 have s1:=same_new hl (.lst ((ups n).map V.int))
 have e1:(upd H l (.lst ((ups n).map V.int))) l=some (.lst ((ups n).map V.int)):=upd_same
 generalize upd H l (.lst ((ups n).map V.int))=H1 at s1 e1 ⊢
 refine ⟨(by show 0<=sizeLine;decide),fun lo hlo0=>?_⟩
 have ll:l≠lo:=fun z=>by rw [<- z,e1] at hlo0;cases hlo0
 have hlo:H lo=none:=none_of s1 hlo0
 have s2:=s1.trans (same_new hlo0 (.lst []))
 have e2:(upd H1 lo (.lst [])) l=some (.lst ((ups n).map V.int)):=by rw [upd_ne ll];exact e1
 have e3:(upd H1 lo (.lst [])) lo=some (.lst (([]:List Int).map V.int)):=upd_same
 generalize upd H1 lo (.lst [])=H2 at s2 e2 e3 ⊢
 subst_eqs
 refine ⟨by omega,by omega,for_range (fun i σ' H'=>∃(v5 v6:Option V) (z:Int) (left got:List Int),σ'=[some (.int c),some (.int (n:Int)),some (.int z),some (.ref l),some (.ref lo),v5,v6]/\0<=z/\z < 10 ^ 31/\Same H H'/\H' l=some (.lst (left.map V.int))/\H' lo=some (.lst (got.map V.int))/\left.length+i=n/\got.length=i/\(got++left).Perm (ups n)) ⟨none,none,z,ups n,[],rfl,z0,z1,s2,e2,e3,(by unfold ups;rw [List.length_map,List.length_range];rfl),rfl,List.Perm.refl _⟩ ?_ ?_⟩
 ·rintro i σ' H' hi ⟨v5,v6,z,left,got,rfl,z0,z1,s3,f1,f2,f3,f4,f5⟩
  have m:=fmod_in z (show (0:Int) < (left.length:Int) by omega)
  have szz:Sz 200 z:=sz40 z0 (Int.lt_trans z1 (by decide))
  subst_eqs
  have hll:(left.map V.int).length=left.length:=List.length_map _
  refine ⟨(by show ((left.map V.int).length:Int)≠0;omega),?_⟩
  dsimp only
  rw [hll]
  generalize z.fmod (left.length:Int)=j' at m ⊢
  obtain ⟨j,rfl⟩:∃j:Nat,j'=(j:Int):=⟨j'.toNat,by omega⟩
  have hj:j < left.length:=by omega
  subst_eqs
  refine ⟨⟨by show ((left.map V.int).length:Int)≠0;omega,(show Sz 64 ((left.map V.int).length:Int) from sz_of (by omega) (by omega)).mono (by decide)⟩,?_⟩
  have lc:=low_cut (d:=(left.length:Int)) z0 (by omega) z1
  dsimp only
  rw [hll]
  subst_eqs
  refine ⟨.inl ⟨rfl,_,SqL.of f2⟩,?_⟩
  subst_eqs
  refine ⟨.inl ⟨rfl,_,SqL.of f1⟩,?_⟩
  subst_eqs
  refine ⟨l,_,_,j,V.int left[j],rfl,rfl,f1,by omega,by omega,seqAt (by rw [List.length_map];exact hj),(by rw [List.getElem?_map,List.getElem?_eq_getElem hj];rfl),?_⟩
  have g2:(upd H' l (.lst ((left.map V.int).eraseIdx j))) lo=some (.lst (got.map V.int)):=by rw [upd_ne (Ne.symm ll)];exact f2
  have g1:(upd H' l (.lst ((left.map V.int).eraseIdx j))) l=some (.lst ((left.eraseIdx j).map V.int)):=by rw [upd_same,map_erase]
  have s4:=same_upd (o:=.lst ((left.map V.int).eraseIdx j)) s3 hl
  generalize upd H' l (.lst ((left.map V.int).eraseIdx j))=H4 at s4 g1 g2 ⊢
  refine ⟨lo,_,_,rfl,rfl,g2,(by rw [List.length_map,f4];exact small1000 (by omega)),?_⟩
  have g1':(upd H4 lo (.lst (got.map V.int++[V.int left[j]]))) l=some (.lst ((left.eraseIdx j).map V.int)):=by rw [upd_ne ll];exact g1
  have g2':(upd H4 lo (.lst (got.map V.int++[V.int left[j]]))) lo=some (.lst ((got++[left[j]]).map V.int)):=by rw [upd_same,List.map_append];rfl
  have s5:=same_upd (o:=.lst (got.map V.int++[V.int left[j]])) s4 hlo
  generalize upd H4 lo (.lst (got.map V.int++[V.int left[j]]))=H5 at s5 g1' g2' ⊢
  exact ⟨_,_,_,_,_,rfl,lc.1,lc.2,s5,g1',g2',by rw [List.length_eraseIdx,if_pos hj];omega,by rw [List.length_append,f4];rfl,erase_perm71 (List.getElem?_eq_getElem hj) f5⟩
 ·rintro σ' H' ⟨v5,v6,z,left,got,rfl,z0,z1,s3,f1,f2,f3,f4,f5⟩
  rw [Int.toNat_natCast] at f3
  have:left=[]:=List.length_eq_zero_iff.mp (by omega)
  rw [this,List.append_nil] at f5
  exact ⟨_,rfl,q lo got H' s3 f2 (by rw [Int.toNat_natCast];exact f5)⟩
theorem ok_law_slip (T:Tx K mg ad):FnOk P w K mg base CX0 2 ad.f_law_slip ad.d_law_slip ["_law_cell_here","_law_hands"] spSlip16:=by
 refine T.F_law_slip.ok sc_law_slip (fun vs H Q E h=>?_) (fun cdv A outer s H vs Q E hr h=>?_)
 ·obtain ⟨c,n,rfl,_⟩:=h
  rfl
 obtain ⟨c,n,rfl,szc,n1,n12,q⟩:=h
 refine ⟨_,(@pss_cons _ _ _ _ _ (@ps_set _ _ (2) _ _ _ _ sc_law_slip.nd rfl (Or.inl rfl) (@pe_call _ _ _ _ _ _ _ _ _ _ _ _ _ _ _ _ (ok_law_mixed T) (hr.mono (by decide)) rfl T.m_law_mixed T.F_law_mixed.kp T.b_law_mixed .nil pass0 (@pa_cons _ _ _ _ _ (pv 0) (@pa_cons _ _ _ _ _ (pv 1) pa_nil (by rfl)) (by rfl)) (by decide) (by rfl) (by rfl)) (by rfl) (by first | exact .inl rfl | exact .inr rfl | assumption)) (@pss_cons _ _ _ _ _ (@ps_set _ _ (3) _ _ _ _ sc_law_slip.nd rfl (Or.inl rfl) (@pe_op _ _ _ _ _ _ _ _ op_modN (pv 2) pe_int) (by rfl) (by first | exact .inl rfl | exact .inr rfl | assumption)) (@pss_cons _ _ _ _ _ (@ps_set _ _ (4) _ _ _ _ sc_law_slip.nd rfl (Or.inl rfl) (@pe_op _ _ _ _ _ _ _ _ op_modN (@pe_op _ _ _ _ _ _ _ _ op_fdivB (pv 2) pe_int) (@pe_op _ _ _ _ _ _ _ _ op_add (pv 1) pe_int)) (by rfl) (by first | exact .inl rfl | exact .inr rfl | assumption)) (@pss_cons _ _ _ _ _ (@ps_set _ _ (2) _ _ _ _ sc_law_slip.nd rfl (Or.inl rfl) (@pe_op _ _ _ _ _ _ _ _ op_fdivB (pv 2) pe_int) (by rfl) (by first | exact .inl rfl | exact .inr rfl | assumption)) (@pss_cons _ _ _ _ _ (@ps_set _ _ (5) _ _ _ _ sc_law_slip.nd rfl (Or.inl rfl) (pe_listrange rfl (by rfl) T.z_list (by rfl) T.z_range (pv 1)) (by rfl) (by first | exact .inl rfl | exact .inr rfl | assumption)) (@pss_cons _ _ _ _ _ (@ps_set _ _ (6) _ _ _ _ sc_law_slip.nd rfl (Or.inr rfl) pe_dnewK (by rfl) (by first | exact .inl rfl | exact .inr rfl | assumption)) (@pss_cons _ _ _ _ _ (ps_for PassesOwn.never rfl (pi_range1 rfl T.z_range (@pa_cons _ _ _ _ _ (pv 1) pa_nil (by rfl))) (pg_name (i:=7) sc_law_slip.nd rfl (Or.inl rfl)) (@pss_cons _ _ _ _ _ (@ps_set _ _ (8) _ _ _ _ sc_law_slip.nd rfl (Or.inl rfl) (@pe_ix _ _ _ _ _ _ _ ix_list (@pe_lst _ _ _ _ (@pa_cons _ _ _ _ _ (@pe_callB _ _ _ _ _ _ _ _ _ call_len_seq (by rfl) T.z_len PySem.boot_len (@pa_cons _ _ _ _ _ (pv 5) pa_nil (by rfl)) (by decide) (by decide) (by rfl) (by rfl)) (@pa_cons _ _ _ _ _ (@pe_op _ _ _ _ _ _ _ _ op_add (pv 1) pe_int) (@pa_cons _ _ _ _ _ pe_int (@pa_cons _ _ _ _ _ (@pe_callB _ _ _ _ _ _ _ _ _ call_len_seq (by rfl) T.z_len PySem.boot_len (@pa_cons _ _ _ _ _ (pv 5) pa_nil (by rfl)) (by decide) (by decide) (by rfl) (by rfl)) pa_nil (by rfl)) (by rfl)) (by rfl)) (by rfl))) (pv 3) (fun _ _=>rfl)) (by rfl) (by first | exact .inl rfl | exact .inr rfl | assumption)) (@pss_cons _ _ _ _ _ (@ps_set _ _ (9) _ _ _ _ sc_law_slip.nd rfl (Or.inl rfl) (@pe_op _ _ _ _ _ _ _ _ op_modN (pv 2) (pv 8)) (by rfl) (by first | exact .inl rfl | exact .inr rfl | assumption)) (@pss_cons _ _ _ _ _ (@ps_set _ _ (2) _ _ _ _ sc_law_slip.nd rfl (Or.inl rfl) (@pe_op _ _ _ _ _ _ _ _ op_fdivB (pv 2) (pv 8)) (by rfl) (by first | exact .inl rfl | exact .inr rfl | assumption)) (@pss_cons _ _ _ _ _ (@ps_ifJ _ _ _ _ _ _ _ _ (PW.pt (@pw_or _ _ _ _ _ _ _ (@pt_cmpR _ _ _ _ _ _ _ _ op_eq (pv 3) pe_int (nomark _)) (@pw_or1 _ _ _ _ (PW.pt (@pw_and _ _ _ _ _ _ _ (@pt_cmpR _ _ _ _ _ _ _ _ op_eq (pv 3) pe_int (nomark _)) (@pw_and1 _ _ _ _ (@pt_cmpR _ _ _ _ _ _ _ _ op_lt (pv 7) (pv 4) (nomark _)))))))) (@pss_one _ _ _ (ps_dput (u1 hr.units) (pv 6) (pv 7) (@pe_lst _ _ _ _ (@pa_cons _ _ _ _ _ (pe_bm PySem.F.plainAttrs_list PySem.F.slot_list_pop PySem.F.type_list_pop mt_popAt (pv 5) (@pa_cons _ _ _ _ _ (pv 9) pa_nil (by rfl))) pa_nil (by rfl))) rfl)) pss_nil) (@pss_one _ _ _ (@ps_ifJ _ _ _ _ _ _ _ _ (PW.pt (@pw_and _ _ _ _ _ _ _ (@pt_cmpR _ _ _ _ _ _ _ _ op_in_seq (pv 3) (@pe_tup _ _ _ _ _ (@pa_cons _ _ _ _ _ pe_int (@pa_cons _ _ _ _ _ pe_int pa_nil (by rfl)) (by rfl))) (by with_unfolding_all rfl)) (@pw_and1 _ _ _ _ (@pt_cmpR _ _ _ _ _ _ _ _ op_gt (pv 9) pe_int (nomark _))))) (@pss_one _ _ _ (ps_dput (u1 hr.units) (pv 6) (pv 9) (@pe_op _ _ _ _ _ _ _ _ op_cat (pe_dget2 (u1 hr.units) (pv 6) (pv 9) (@pe_lst _ _ _ _ pa_nil) ⟨rfl,rfl,rfl,rfl⟩) (@pe_lst _ _ _ _ (@pa_cons _ _ _ _ _ (pv 7) pa_nil (by rfl)))) rfl)) pss_nil))))))) (@pss_one _ _ _ (@ps_ret _ _ _ _ (@pe_callTy _ _ _ _ _ _ _ _ _ call_tuple_of (by rfl) T.z_tuple PyProof.Rows.boot_tuple (@pa_cons _ _ _ _ _ (pe_comp (fsc:=defScope s_law_slip) (N:=["_law_cell_here","_law_hands","_law_number_here","_law_way","_law_many","_law_left","_law_tiers","_law_k","_law_base","_law_lot"]) (Nc:=["_law_cell_here","_law_hands","_law_number_here","_law_way","_law_many","_law_left","_law_tiers","_law_k","_law_base","_law_lot","_law_rank"]) rfl rfl ⟨rfl,by decide +kernel,by decide +kernel,rfl,by decide +kernel,rfl,by decide +kernel,rfl,by decide +kernel⟩ rfl (pi_list (@pe_callB _ _ _ _ _ _ _ _ _ (call_sortedDI rfl) (by rfl) T.z_sorted PyProof.Rows.boot_sorted (@pa_cons _ _ _ _ _ (pv 6) pa_nil (by rfl)) (by decide) (by decide) (by rfl) (by rfl))) (fun _ _ _ _=>pif_nil) (fun _ _ _ _=>(@pe_call _ _ _ _ _ _ _ _ _ _ _ _ _ _ _ _ (ok_law_mask T) (hr.mono (by decide)) rfl T.m_law_mask T.F_law_mask.kp T.b_law_mask .nil pass0 (@pa_cons _ _ _ _ _ (pe_dget (u1 hr.units) (pv 6) (pv 10) (fun _ _=>rfl)) pa_nil (by rfl)) (by decide) (by rfl) (by rfl)))) pa_nil (by rfl)) (by decide) (by decide) (by rfl) (by rfl))))))))))),?_⟩
 subst_eqs
 refine ⟨c,(n:Int),rfl,szc,by omega,by omega,fun z z0 z1=>?_⟩
 have szz:Sz 200 z:=sz40 z0 (Int.lt_trans z1 (by decide))
 subst_eqs
 refine ⟨(by show (_:Int)≠0;omega),?_⟩
 subst_eqs
 refine ⟨by omega,fun l hl=>?_⟩
 rw [show (List.map (fun i:Nat=>V.int (i:Int)) (List.range n))=((List.range n).map fun i:Nat=>(i:Int)).map V.int from (by rw [List.map_map];rfl)]
 have rl:((List.range n).map fun i:Nat=>(i:Int)).length=n:=by rw [List.length_map,List.length_range]
 have rin:∀x∈((List.range n).map fun i:Nat=>(i:Int)),0<=x/\x < (n:Int):=fun x m=>by
  obtain ⟨i,im,rfl⟩:=List.mem_map.mp m
  have:=List.mem_range.mp im
  omega
 generalize ((List.range n).map fun i:Nat=>(i:Int))=left at rl rin ⊢
 have s1:=same_new hl (.lst (left.map V.int))
 have e1:(upd H l (.lst (left.map V.int))) l=some (.lst (left.map V.int)):=upd_same
 generalize upd H l (.lst (left.map V.int))=H1 at s1 e1 ⊢
 subst_eqs
 intro d hd
 have s2:=same_new hd (.dK [])
 have e2:(upd H1 d (.dK [])) d=some (.dK []):=upd_same
 generalize upd H1 d (.dK [])=H2 at s2 e2 ⊢
 have dl:d≠l:=fun z=>by rw [z,e1] at hd;cases hd
 have hdH:=none_of s1 hd
 have mw:=fmod_in z (show (0:Int) < 4 by decide)
 have lc:=low_cut (d:=64) z0 (by decide) z1
 dsimp only
 generalize (z.fdiv 4).fmod ((n:Int)+1)=m
 generalize z.fmod 4=w at mw ⊢
 generalize z.fdiv 64=z at lc ⊢
 subst_eqs
 refine ⟨by omega,by omega,for_range (fun i σ' J=>∃(v7 v8 v9:Option V) (z:Int) (left:List Int) (kvs:List (Key × V)),σ'=[some (.int c),some (.int (n:Int)),some (.int z),some (.int w),some (.int m),some (.ref l),some (.ref d),v7,v8,v9]/\0<=z/\z < 10 ^ 31/\Same H J/\J l=some (.lst (left.map V.int))/\J d=some (.dK kvs)/\n<=left.length+i/\left.length<=n/\(∀x∈left,0<=x/\x < (n:Int))/\kvs.length<=i/\TierD J l n i w kvs) ⟨none,none,none,z,left,[],rfl,lc.1,lc.2,s1.trans s2,s2 _ _ e1,e2,by omega,by omega,rin,Nat.le_refl _,List.nodup_nil,fun _ m=>absurd m List.not_mem_nil⟩ ?_ ?_⟩
 ·rintro i σ' J hi ⟨v7,v8,v9,z,left,kvs,rfl,z0,z1,sJ,eL,eD,ln,ln2,rin,kl,td⟩
  rw [Int.toNat_natCast] at hi
  have szz:Sz 200 z:=sz40 z0 (Int.lt_trans z1 (by decide))
  have ll:(left.map V.int).length=left.length:=List.length_map _
  subst_eqs
  refine ⟨(by show 4<=sizeLine;decide),fun b4 hb4=>?_⟩
  dsimp only
  rw [ll]
  have sj1:=same_new hb4 (.lst [V.int (left.length:Nat),V.int ((n:Int)+1),V.int 3,V.int (left.length:Nat)])
  have ej1:(upd J b4 (.lst [V.int (left.length:Nat),V.int ((n:Int)+1),V.int 3,V.int (left.length:Nat)])) b4=some (.lst [V.int (left.length:Nat),V.int ((n:Int)+1),V.int 3,V.int (left.length:Nat)]):=upd_same
  generalize upd J b4 (.lst [V.int (left.length:Nat),V.int ((n:Int)+1),V.int 3,V.int (left.length:Nat)])=J1 at sj1 ej1 ⊢
  obtain ⟨b,hb,b1,b13,bw⟩:∃b:Int,atI [V.int (left.length:Nat),V.int ((n:Int)+1),V.int 3,V.int (left.length:Nat)] w=some (.int b)/\1<=b/\b<=13/\(w=0\/w=3->b=(left.length:Nat)):=by
   rcases (by omega:w=0\/w=1\/w=2\/w=3) with rfl | rfl | rfl | rfl
   ·exact ⟨_,rfl,by omega,by omega,fun _=>rfl⟩
   ·exact ⟨_,rfl,by omega,by omega,fun k=>by omega⟩
   ·exact ⟨_,rfl,by omega,by omega,fun k=>by omega⟩
   ·exact ⟨_,rfl,by omega,by omega,fun _=>rfl⟩
  subst_eqs
  refine ⟨b4,_,_,_,rfl,rfl,SqL.of ej1,hb,?_⟩
  subst_eqs
  refine ⟨(by show (_:Int)≠0;omega),?_⟩
  have lt:=fmod_in z (show 0 < b by omega)
  have lc:=low_cut (d:=b) z0 b1 z1
  have szb:Sz 64 b:=sz_of (by omega) (by omega)
  subst_eqs
  refine ⟨⟨by show (_:Int)≠0;omega,szb.mono (by decide)⟩,?_⟩
  dsimp only
  generalize z.fmod b=lo at lt ⊢
  generalize z.fdiv b=z at lc ⊢
  have sJ1:=sJ.trans sj1
  have tJ:=td.same sj1
  have eL1:=sj1 _ _ eL
  have eD1:=sj1 _ _ eD
  subst_eqs
  refine ⟨fun σ' J=>∃(left:List Int) (kvs:List (Key × V)),σ'=[some (.int c),some (.int (n:Int)),some (.int z),some (.int w),some (.int m),some (.ref l),some (.ref d),some (.int (0+(i:Int))),some (.int b),some (.int lo)]/\Same H J/\J l=some (.lst (left.map V.int))/\J d=some (.dK kvs)/\n<=left.length+(i+1)/\left.length<=n/\(∀x∈left,0<=x/\x < (n:Int))/\kvs.length<=i+1/\(w=1\/w=2->kvs.length<=i)/\TierD J l n i w kvs,?_,?_⟩
  ·refine or_test (decide (w=3\/(w=0/\0+(i:Int) < m))) (fun R r=>?_) ?_
   ·subst_eqs
    by_cases c3:w=3
    ·refine ifT (eq_t c3) ?_
     rw [decide_eq_true (Or.inl c3)] at r
     exact r
    ·refine ifF (eq_f c3) ?_
     subst_eqs
     by_cases c0:w=0
     ·refine ifT (eq_t c0) ?_
      subst_eqs
      rw [show decide (w=3\/(w=0/\0+(i:Int) < m))=decide (0+(i:Int) < m) from by congr 1;apply propext;omega] at r
      exact r
     ·refine ifF (eq_f c0) ?_
      rw [decide_eq_false (by omega)] at r
      exact r
   by_cases c:w=3\/(w=0/\0+(i:Int) < m)
   ·refine ifT (decide_eq_true c) ?_
    have lo':lo < (left.length:Int):=by rw [<- bw (by omega)];exact lt.2
    obtain ⟨j,rfl⟩:∃j:Nat,lo=(j:Int):=⟨lo.toNat,by omega⟩
    have hj:j < left.length:=by omega
    have xin:=rin left[j] (List.getElem_mem hj)
    subst_eqs
    refine ⟨.inl ⟨rfl,_,SqL.of eL1⟩,?_⟩
    subst_eqs
    refine ⟨l,_,_,j,V.int left[j],rfl,rfl,eL1,by omega,by omega,seqAt (by rw [List.length_map];exact hj),(by rw [List.getElem?_map,List.getElem?_eq_getElem hj];rfl),?_⟩
    have s4:=same_upd (o:=.lst ((left.map V.int).eraseIdx j)) sJ1 hl
    have g1:(upd J1 l (.lst ((left.map V.int).eraseIdx j))) l=some (.lst ((left.eraseIdx j).map V.int)):=by rw [upd_same,map_erase]
    have g2:(upd J1 l (.lst ((left.map V.int).eraseIdx j))) d=some (.dK kvs):=by rw [upd_ne dl];exact eD1
    have t4:TierD (upd J1 l (.lst ((left.map V.int).eraseIdx j))) l n i w kvs:=tJ.off
    generalize upd J1 l (.lst ((left.map V.int).eraseIdx j))=J4 at s4 g1 g2 t4 ⊢
    refine ⟨(by show 1<=sizeLine;decide),fun a ha=>?_⟩
    have sj5:=same_new ha (.lst [V.int left[j]])
    have ej5:(upd J4 a (.lst [V.int left[j]])) a=some (.lst [V.int left[j]]):=upd_same
    generalize upd J4 a (.lst [V.int left[j]])=J5 at sj5 ej5 ⊢
    have al:a≠l:=fun z=>by rw [z,g1] at ha;cases ha
    refine ⟨_,rfl,_,rfl,d,_,rfl,DPut.k (k:=Sum.inl (0+(i:Int))) (sj5 _ _ g2) (small1000 (by omega)),?_⟩
    have tt:TierL n i w [left[j]]:=⟨(fun z=>by cases z),List.pairwise_singleton _ _,fun x xm=>by
     rw [List.mem_singleton.mp xm]
     exact ⟨xin.1,xin.2,fun k=>by omega⟩⟩
    have dK:=(t4.same sj5).put (z:=0+(i:Int)) (sj5 _ _ g2) ej5 al tt
    exact ⟨left.eraseIdx j,_,rfl,same_upd (s4.trans sj5) hdH,(by rw [upd_ne (Ne.symm dl)];exact sj5 _ _ g1),upd_same,(by rw [List.length_eraseIdx,if_pos hj];omega),(by rw [List.length_eraseIdx,if_pos hj];omega),(fun x xm=>rin x (List.mem_of_mem_eraseIdx xm)),Nat.le_trans (length_putK ..) (Nat.succ_le_succ kl),(fun k=>by omega),dK⟩
   ·refine ifF (decide_eq_false c) ?_
    exact ⟨left,kvs,rfl,sJ1,eL1,eD1,by omega,ln2,rin,by omega,(fun _=>kl),tJ⟩
  clear ll hb szb bw eL1 eD1 tJ sJ1 sJ eL eD ln ln2 rin td kl
  rintro σ' J2 ⟨left,kvs,rfl,sJ,eL,eD,ln,ln2,rin,kl,kw,td⟩
  subst_eqs
  refine ⟨fun σ' J=>∃(left:List Int) (kvs:List (Key × V)),σ'=[some (.int c),some (.int (n:Int)),some (.int z),some (.int w),some (.int m),some (.ref l),some (.ref d),some (.int (0+(i:Int))),some (.int b),some (.int lo)]/\Same H J/\J l=some (.lst (left.map V.int))/\J d=some (.dK kvs)/\n<=left.length+(i+1)/\left.length<=n/\(∀x∈left,0<=x/\x < (n:Int))/\kvs.length<=i+1/\TierD J l n (i+1) w kvs,?_,?_⟩
  ·refine test_s (decide ((w=1\/w=2)/\0 < lo)) (fun R r=>?_) (fun J3 s3=>?_)
   ·subst_eqs
    refine ⟨(by show 2<=sizeLine;decide),fun t ht=>?_⟩
    have st:=same_new ht (.tup [V.int 1,V.int 2])
    have et:(upd J2 t (.tup [V.int 1,V.int 2])) t=some (.tup [V.int 1,V.int 2]):=upd_same
    generalize upd J2 t (.tup [V.int 1,V.int 2])=J3 at st et ⊢
    refine ⟨t,_,rfl,.inr (SqT.of et),rfl,rfl,?_⟩
    have r':=r J3 st
    have ew:inV (.int w) [V.int 1,V.int 2]=decide (w=1\/w=2):=by
     rcases (by omega:w=0\/w=1\/w=2\/w=3) with rfl | rfl | rfl | rfl <;> rfl
    by_cases c:w=1\/w=2
    ·refine ⟨_,rfl,ifT (by show inV (.int w) [V.int 1,V.int 2]=true;exact ew.trans (decide_eq_true c)) ?_⟩
     subst_eqs
     rw [show decide ((w=1\/w=2)/\0 < lo)=decide (0 < lo) from by congr 1;apply propext;exact ⟨fun z=>z.2,fun z=>⟨c,z⟩⟩] at r'
     exact r'
    ·refine ⟨_,rfl,ifF (by show inV (.int w) [V.int 1,V.int 2]=false;exact ew.trans (decide_eq_false c)) ?_⟩
     rw [decide_eq_false (fun z=>c z.1)] at r'
     exact r'
   have sJ:=sJ.trans s3
   have eL:=s3 _ _ eL
   have eD:=s3 _ _ eD
   have td:=td.same s3
   by_cases c:(w=1\/w=2)/\0 < lo
   ·refine ifT (decide_eq_true c) ?_
    subst_eqs
    refine ⟨.inl ⟨_,.inl eD⟩,?_⟩
    subst_eqs
    refine ⟨(by show 0<=sizeLine;decide),fun e0 he0=>?_⟩
    have s4:=same_new he0 (.lst [])
    have ee0:(upd J3 e0 (.lst [])) e0=some (.lst []):=upd_same
    generalize upd J3 e0 (.lst [])=J4 at s4 ee0 ⊢
    have e0l:e0≠l:=fun z=>by rw [z,eL] at he0;cases he0
    refine ⟨_,DGet.k (k:=(Sum.inl lo:Key)) (s4 _ _ eD),?_⟩
    have old:∃(a:Addr) (hs:List Int),(valV kvs (Sum.inl lo:Key)).getD (.ref e0)=.ref a/\J4 a=some (.lst (hs.map V.int))/\a≠l/\hs.Pairwise (· < ·)/\∀h∈hs,0<=h/\h < (i:Int):=by
     cases e:valV kvs (Sum.inl lo:Key) with
     | none=>exact ⟨e0,[],rfl,ee0,e0l,List.Pairwise.nil,fun _ m=>absurd m List.not_mem_nil⟩
     | some v =>
       obtain ⟨z',a,hs,eq,h1,h2,h3,h4,h5⟩:=td.2 _ (valV_mem e)
       injection eq with eq1 eq2
       exact ⟨a,hs,by rw [eq2];rfl,s4 _ _ h1,h2,h4,fun h hm=>⟨(h5 h hm).1,(h5 h hm).2.2 c.1⟩⟩
    obtain ⟨a,hs,ea,ha,al,pw,hin⟩:=old
    rw [ea]
    subst_eqs
    refine ⟨(by show 1<=sizeLine;decide),fun f0 hf0=>?_⟩
    have s5:=same_new hf0 (.lst [V.int (0+(i:Int))])
    have ef0:(upd J4 f0 (.lst [V.int (0+(i:Int))])) f0=some (.lst [V.int (0+(i:Int))]):=upd_same
    generalize upd J4 f0 (.lst [V.int (0+(i:Int))])=J5 at s5 ef0 ⊢
    have hl12:hs.length<=12:=by
     have nd:hs.Nodup:=pw.imp fun h e=>by omega
     have:=nodup_len (p:=(List.range n).map fun i:Nat=>(i:Int)) nd (fun h hm=>List.mem_map.mpr ⟨h.toNat,List.mem_range.mpr (by have:=hin h hm;omega),by have:=hin h hm;omega⟩)
     rw [List.length_map,List.length_range] at this
     omega
    refine ⟨a,f0,_,_,rfl,rfl,s5 _ _ ha,ef0,(by simp only [List.length_map,List.length_cons,List.length_nil];exact small900 (by omega)),fun g hg=>?_⟩
    have s6:=same_new hg (.lst (hs.map V.int++[V.int (0+(i:Int))]))
    have eg:(upd J5 g (.lst (hs.map V.int++[V.int (0+(i:Int))]))) g=some (.lst ((hs++[(i:Int)]).map V.int)):=by rw [upd_same,List.map_append,Int.zero_add];rfl
    generalize upd J5 g (.lst (hs.map V.int++[V.int (0+(i:Int))]))=J6 at s6 eg ⊢
    have s36:=(s4.trans s5).trans s6
    have gl:g≠l:=fun z=>by rw [z,(s4.trans s5) _ _ eL] at hg;cases hg
    refine ⟨_,rfl,_,rfl,d,_,rfl,DPut.k (k:=Sum.inl lo) (s36 _ _ eD) (small1000 (by omega)),?_⟩
    have tt:TierL n (i+1) w (hs++[(i:Int)]):=⟨(fun z=>by have:=congrArg List.length z;rw [List.length_append] at this;exact nomatch this),(by
     rw [List.pairwise_append]
     exact ⟨pw,List.pairwise_singleton _ _,fun x xm y ym=>by rw [List.mem_singleton.mp ym];exact (hin x xm).2⟩),fun x xm=>by
     rcases List.mem_append.mp xm with xm | xm
     ·have:=hin x xm
      exact ⟨this.1,by omega,fun _=>by omega⟩
     ·rw [List.mem_singleton.mp xm]
      exact ⟨by omega,by omega,fun _=>by omega⟩⟩
    have dK:=(td.up.same s36).put (z:=lo) (s36 _ _ eD) eg gl tt
    have kl':=kw c.1
    exact ⟨left,_,rfl,same_upd (sJ.trans s36) hdH,(by rw [upd_ne (Ne.symm dl)];exact s36 _ _ eL),upd_same,ln,ln2,rin,Nat.le_trans (length_putK ..) (Nat.succ_le_succ kl'),dK⟩
   ·refine ifF (decide_eq_false c) ?_
    exact ⟨left,kvs,rfl,sJ,eL,eD,ln,ln2,rin,kl,td.up⟩
  ·rintro σ' J3 ⟨left,kvs,rfl,sJ,eL,eD,ln,ln2,rin,kl,td⟩
   exact ⟨_,_,_,_,_,_,rfl,lc.1,lc.2,sJ,eL,eD,ln,ln2,rin,kl,td⟩
 ·rintro σ' J ⟨v7,v8,v9,z,left,kvs,rfl,z0,z1,sJ,eL,eD,ln,ln2,rin,kl,td⟩
  rw [Int.toNat_natCast] at kl td
  obtain ⟨ns,k1,k2,k3⟩:=td.keys
  subst_eqs
  refine ⟨d,kvs,ns,rfl,.inl eD,k1,by omega,fun l2 ms p1 p2 hl2=>?_⟩
  have s1:=same_new hl2 (.lst (ms.map V.int))
  have e1:(upd J l2 (.lst (ms.map V.int))) l2=some (.lst (ms.map V.int)):=upd_same
  generalize upd J l2 (.lst (ms.map V.int))=J1 at s1 e1 ⊢
  refine ⟨l2,rfl,⟨_,SqL.of e1⟩,?_⟩
  have ml:ms.length=kvs.length:=by rw [p1.length_eq,k2]
  refine comp_list (xs:=ms.map V.int) (by rw [List.length_map];exact small63 (by omega)) (fun D i ys H'=>∃ts:List Int,ys=ts.map V.int/\ts.length=i/\H' D=some (.lst ys)/\Same J1 H'/\∀x∈ts,0 < x/\x < 2 ^ n) (fun D hD=>⟨[],rfl,rfl,upd_same,same_new hD _,fun _ m=>absurd m List.not_mem_nil⟩) (fun D i ys H' hq_=>by obtain ⟨ts,f1,f2,f3,_⟩:=hq_;exact ⟨f3,by rw [f1,List.length_map,f2];exact Nat.le_refl _⟩) (fun D i ys H' hD hq_=>by obtain ⟨ts,_,_,_,f4,_⟩:=hq_;exact SqL.of (f4 _ _ e1)) ?_ ?_
  ·rintro D i x ys H' K1 K2 hD hx ⟨ts,rfl,f2,f3,f4,f5⟩ kk1 kk2
   obtain ⟨r,hr',rfl⟩:=int_at hx
   obtain ⟨a,hs,a1,a2,a3,a4,a5⟩:=k3 r (p1.mem_iff.mp (List.mem_of_getElem? hr'))
   have sH:=s1.trans f4
   have dg:=DGet.k (k:=(Sum.inl r:Key)) (sH _ _ eD)
   rw [a1] at dg
   have hl12:hs.length<=12:=by
    have nd:hs.Nodup:=a4.imp fun h e=>by omega
    have:=nodup_len (p:=(List.range n).map fun i:Nat=>(i:Int)) nd (fun h hm=>List.mem_map.mpr ⟨h.toNat,List.mem_range.mpr (by have:=a5 h hm;omega),by have:=a5 h hm;omega⟩)
    rw [List.length_map,List.length_range] at this
    omega
   refine yes (ifT rfl ?_)
   refine ⟨_,rfl,_,rfl,d,_,rfl,dg,?_⟩
   subst_eqs
   refine ⟨a,hs,rfl,sH _ _ a2,by omega,(fun h hm=>by have:=a5 h hm;omega),fun H5 s5=>?_⟩
   have mi:=mask_in (n:=n) a4 (fun h hm=>⟨(a5 h hm).1,(a5 h hm).2.1⟩) a3
   refine kk1 _ _ (s5 _ _ f3) ⟨ts++[maskOf hs],by rw [List.map_append];rfl,by rw [List.length_append,f2];rfl,upd_same,same_upd (f4.trans s5) hD,fun y ym=>?_⟩
   rcases List.mem_append.mp ym with ym | ym
   ·exact f5 y ym
   ·rw [List.mem_singleton.mp ym]
    exact mi
  ·rintro D ys H' hD ⟨ts,rfl,f2,f3,f4,f5⟩
   rw [List.length_map] at f2
   refine ⟨D,_,rfl,.inl ⟨SqL.of f3,fun t ht=>?_⟩⟩
   have s9:=((sJ.trans s1).trans f4)
   exact q t ts _ (none_of s9 ht) (s9.trans (same_new ht _)) upd_same ⟨f5,by omega⟩
theorem ok_law_is_fraction (T:Tx K mg ad):FnOk P w K mg base CX0 2 ad.f_law_is_fraction ad.d_law_is_fraction ["_law_found"] spIsFr42:=by
 refine T.F_law_is_fraction.ok sc_law_is_fraction (fun vs H Q E h=>?_) (fun cdv A outer s H vs Q E hr h=>?_)
 ·obtain ⟨f,rfl,_⟩:=h
  rfl
 obtain ⟨f,rfl,gf,t0,b0,g1,q⟩:=h
 refine ⟨_,(@pss_cons _ _ _ _ _ (@ps_if _ _ _ _ _ _ _ _ (PW.pt (@pw_or _ _ _ _ _ _ _ (@pt_not _ _ _ _ (@pt_val _ _ _ (@pe_callB _ _ _ _ _ _ _ _ _ call_isi (by rfl) T.z_isinstance PyProof.Rows.boot_isinstance (@pa_cons _ _ _ _ _ (pv 0) (@pa_cons _ _ _ _ _ (pe_bltn (v:=.ty "tuple") rfl T.z_tuple PyProof.Rows.boot_tuple rfl) pa_nil (by rfl)) (by rfl)) (by decide) (by decide) (by rfl) (by rfl)) (by intro _;rfl))) (@pw_or _ _ _ _ _ _ _ (@pt_cmpR _ _ _ _ _ _ _ _ op_ne (@pe_callB _ _ _ _ _ _ _ _ _ call_len_seq (by rfl) T.z_len PySem.boot_len (@pa_cons _ _ _ _ _ (pv 0) pa_nil (by rfl)) (by decide) (by decide) (by rfl) (by rfl)) pe_int (nomark _)) (@pw_or _ _ _ _ _ _ _ (@pt_not _ _ _ _ (@pt_val _ _ _ (@pe_call _ _ _ _ _ _ _ _ _ _ _ _ _ _ _ _ (ok_law_whole T) (hr.mono (by decide)) rfl T.m_law_whole T.F_law_whole.kp T.b_law_whole .nil pass0 (@pa_cons _ _ _ _ _ (@pe_ix _ _ _ _ _ _ _ ix_tup (pv 0) pe_int (fun _ _=>rfl)) pa_nil (by rfl)) (by decide) (by rfl) (by rfl)) (by intro _;rfl))) (@pw_or1 _ _ _ _ (@pt_not _ _ _ _ (@pt_val _ _ _ (@pe_call _ _ _ _ _ _ _ _ _ _ _ _ _ _ _ _ (ok_law_whole T) (hr.mono (by decide)) rfl T.m_law_whole T.F_law_whole.kp T.b_law_whole .nil pass0 (@pa_cons _ _ _ _ _ (@pe_ix _ _ _ _ _ _ _ ix_tup (pv 0) pe_int (fun _ _=>rfl)) pa_nil (by rfl)) (by decide) (by rfl) (by rfl)) (by intro _;rfl)))))))) (@pss_one _ _ _ (@ps_ret _ _ _ _ pe_bl)) pss_nil) (@pss_one _ _ _ (@ps_ret _ _ _ _ (@pe_and _ _ _ _ _ _ _ (@pe_cmpR _ _ _ _ _ _ _ _ op_gt (@pe_ix _ _ _ _ _ _ _ ix_tup (pv 0) pe_int (fun _ _=>rfl)) pe_int (nomark _)) (@pe_one _ _ _ _ _ (@pe_cmpR _ _ _ _ _ _ _ _ op_eq (@pe_call _ _ _ _ _ _ _ _ _ _ _ _ _ _ _ _ (ok_law_divisor T) (hr.mono (by decide)) rfl T.m_law_divisor T.F_law_divisor.kp T.b_law_divisor .nil pass0 (@pa_cons _ _ _ _ _ (@pe_ix _ _ _ _ _ _ _ ix_tup (pv 0) pe_int (fun _ _=>rfl)) (@pa_cons _ _ _ _ _ (@pe_ix _ _ _ _ _ _ _ ix_tup (pv 0) pe_int (fun _ _=>rfl)) pa_nil (by rfl)) (by rfl)) (by decide) (by rfl) (by rfl)) pe_int (nomark _))))))),?_⟩
 have gf':H f.1=some (.tup [.int f.2.1,.int f.2.2]):=gf
 and_intros
 refine ⟨_,_,_,_,rfl,TyOf.tup gf',kit_tuple_tuple,?_⟩
 and_intros
 refine ifT (decide_eq_true b0) ?_
 and_intros
 refine ⟨f.2.1,f.2.2,rfl,t0,by omega,?_⟩
 rw [g1]
 and_intros
 exact q
theorem ok_law_lowest (T:Tx K mg ad):FnOk P w K mg base CX0 2 ad.f_law_lowest ad.d_law_lowest ["_law_top","_law_bottom"] spLowest44:=by
 refine T.F_law_lowest.ok sc_law_lowest (fun vs H Q E h=>?_) (fun cdv A outer s H vs Q E hr h=>?_)
 ·obtain ⟨t,b,rfl,_⟩:=h
  rfl
 obtain ⟨t,b,rfl,t0,b0,szt,szb,q⟩:=h
 refine ⟨_,(@pss_cons _ _ _ _ _ (@ps_set _ _ (2) _ _ _ _ sc_law_lowest.nd rfl (Or.inl rfl) (@pe_call _ _ _ _ _ _ _ _ _ _ _ _ _ _ _ _ (ok_law_divisor T) (hr.mono (by decide)) rfl T.m_law_divisor T.F_law_divisor.kp T.b_law_divisor .nil pass0 (@pa_cons _ _ _ _ _ (pv 0) (@pa_cons _ _ _ _ _ (pv 1) pa_nil (by rfl)) (by rfl)) (by decide) (by rfl) (by rfl)) (by rfl) (by first | exact .inl rfl | exact .inr rfl | assumption)) (@pss_one _ _ _ (@ps_ret _ _ _ _ (@pe_tup _ _ _ _ _ (@pa_cons _ _ _ _ _ (@pe_op _ _ _ _ _ _ _ _ op_fdivW (pv 0) (pv 2)) (@pa_cons _ _ _ _ _ (@pe_op _ _ _ _ _ _ _ _ op_fdivW (pv 1) (pv 2)) pa_nil (by rfl)) (by rfl)))))),?_⟩
 and_intros
 refine ⟨t,b,rfl,t0,by omega,?_⟩
 have ne:=byOf_ne (t:=t) (show b≠0 by omega)
 have eb:byOf t b=gcdI t b:=by unfold byOf;rw [if_neg (by omega)]
 rw [eb] at ne
 and_intros
 refine ⟨⟨ne,szt⟩,?_⟩
 and_intros
 refine ⟨⟨ne,szb⟩,?_⟩
 refine ⟨(by show 2<=sizeLine;decide),fun r hr'=>?_⟩
 refine q r _ hr' (same_new hr' _) ?_
 rw [<- low_is t0 b0]
 unfold FqG lowT lowB
 rw [eb]
 exact upd_same
theorem ok_minus (T:Tx K mg ad):FnOk P w K mg base CX0 3 ad.f_minus ad.d_minus ["one","other"] (spSum20 K (fun t b u c=>t*c - u*b) (fun t b u c=>b*c)):=by
 refine T.F_minus.ok sc_minus (fun vs H Q E h=>?_) (fun cdv A outer s H vs Q E hr h=>?_)
 ·obtain ⟨p,r,t,b,u,c,rfl,_⟩:=h
  rfl
 obtain ⟨p,r,t,b,u,c,rfl,h1,h2,ne,st,sb,su,sc,q⟩:=h
 refine ⟨_,(@pss_one _ _ _ (@ps_ret _ _ _ _ (@pe_call _ _ _ _ _ _ _ _ _ _ _ _ _ _ _ _ (ok_fraction T) (hr.mono (by decide)) rfl T.m_fraction T.F_fraction.kp T.b_fraction .nil pass0 (@pa_cons _ _ _ _ _ (@pe_op _ _ _ _ _ _ _ _ op_sub (@pe_op _ _ _ _ _ _ _ _ op_mulB (@pe_ix _ _ _ _ _ _ _ ix_tup (pv 0) pe_int (fun _ _=>rfl)) (@pe_ix _ _ _ _ _ _ _ ix_tup (pv 1) pe_int (fun _ _=>rfl))) (@pe_op _ _ _ _ _ _ _ _ op_mulB (@pe_ix _ _ _ _ _ _ _ ix_tup (pv 1) pe_int (fun _ _=>rfl)) (@pe_ix _ _ _ _ _ _ _ ix_tup (pv 0) pe_int (fun _ _=>rfl)))) (@pa_cons _ _ _ _ _ (@pe_op _ _ _ _ _ _ _ _ op_mulB (@pe_ix _ _ _ _ _ _ _ ix_tup (pv 0) pe_int (fun _ _=>rfl)) (@pe_ix _ _ _ _ _ _ _ ix_tup (pv 1) pe_int (fun _ _=>rfl))) pa_nil (by rfl)) (by rfl)) (by decide) (by rfl) (by rfl)))),?_⟩
 and_intros
 exact ⟨_,_,rfl,ne,((st.mul sc).sub (su.mul sb)).mono (by decide),(sb.mul sc).mono (by decide),fun z H' s' e'=>q z H' s' e'⟩
theorem ok_times (T:Tx K mg ad):FnOk P w K mg base CX0 3 ad.f_times ad.d_times ["one","other"] (spSum20 K (fun t b u c=>t*u) (fun t b u c=>b*c)):=by
 refine T.F_times.ok sc_times (fun vs H Q E h=>?_) (fun cdv A outer s H vs Q E hr h=>?_)
 ·obtain ⟨p,r,t,b,u,c,rfl,_⟩:=h
  rfl
 obtain ⟨p,r,t,b,u,c,rfl,h1,h2,ne,st,sb,su,sc,q⟩:=h
 refine ⟨_,(@pss_one _ _ _ (@ps_ret _ _ _ _ (@pe_call _ _ _ _ _ _ _ _ _ _ _ _ _ _ _ _ (ok_fraction T) (hr.mono (by decide)) rfl T.m_fraction T.F_fraction.kp T.b_fraction .nil pass0 (@pa_cons _ _ _ _ _ (@pe_op _ _ _ _ _ _ _ _ op_mulB (@pe_ix _ _ _ _ _ _ _ ix_tup (pv 0) pe_int (fun _ _=>rfl)) (@pe_ix _ _ _ _ _ _ _ ix_tup (pv 1) pe_int (fun _ _=>rfl))) (@pa_cons _ _ _ _ _ (@pe_op _ _ _ _ _ _ _ _ op_mulB (@pe_ix _ _ _ _ _ _ _ ix_tup (pv 0) pe_int (fun _ _=>rfl)) (@pe_ix _ _ _ _ _ _ _ ix_tup (pv 1) pe_int (fun _ _=>rfl))) pa_nil (by rfl)) (by rfl)) (by decide) (by rfl) (by rfl)))),?_⟩
 and_intros
 exact ⟨_,_,rfl,ne,(st.mul su).mono (by decide),(sb.mul sc).mono (by decide),fun z H' s' e'=>q z H' s' e'⟩
theorem ok_parted (T:Tx K mg ad):FnOk P w K mg base CX0 3 ad.f_parted ad.d_parted ["one","other"] (spSum20 K (fun t b u c=>t*c) (fun t b u c=>b*u)):=by
 refine T.F_parted.ok sc_parted (fun vs H Q E h=>?_) (fun cdv A outer s H vs Q E hr h=>?_)
 ·obtain ⟨p,r,t,b,u,c,rfl,_⟩:=h
  rfl
 obtain ⟨p,r,t,b,u,c,rfl,h1,h2,ne,st,sb,su,sc,q⟩:=h
 refine ⟨_,(@pss_one _ _ _ (@ps_ret _ _ _ _ (@pe_call _ _ _ _ _ _ _ _ _ _ _ _ _ _ _ _ (ok_fraction T) (hr.mono (by decide)) rfl T.m_fraction T.F_fraction.kp T.b_fraction .nil pass0 (@pa_cons _ _ _ _ _ (@pe_op _ _ _ _ _ _ _ _ op_mulB (@pe_ix _ _ _ _ _ _ _ ix_tup (pv 0) pe_int (fun _ _=>rfl)) (@pe_ix _ _ _ _ _ _ _ ix_tup (pv 1) pe_int (fun _ _=>rfl))) (@pa_cons _ _ _ _ _ (@pe_op _ _ _ _ _ _ _ _ op_mulB (@pe_ix _ _ _ _ _ _ _ ix_tup (pv 0) pe_int (fun _ _=>rfl)) (@pe_ix _ _ _ _ _ _ _ ix_tup (pv 1) pe_int (fun _ _=>rfl))) pa_nil (by rfl)) (by rfl)) (by decide) (by rfl) (by rfl)))),?_⟩
 and_intros
 exact ⟨_,_,rfl,ne,(st.mul sc).mono (by decide),(sb.mul su).mono (by decide),fun z H' s' e'=>q z H' s' e'⟩
theorem ok_table_row (T:Tx K mg ad):FnOk P w K mg base CX0 3 ad.f_table_row ad.d_table_row ["slip","free","kept","standing"] (spTableRow 4500):=by
 refine T.F_table_row.ok sc_table_row (fun vs H Q E h=>?_) (fun cdv A outer s H vs Q E hr h=>?_)
 ·obtain ⟨sp,kl,h,ts,fr,ks,s,rfl,_⟩:=h
  rfl
 obtain ⟨sp,kl,h,ts,fr,ks,s,rfl,hT,gf,fb,hk,gk,ke,h12,l0,l1,win,wl12,q⟩:=h
 refine ⟨_,(@pss_cons _ _ _ _ _ (@ps_set _ _ (4) _ _ _ _ sc_table_row.nd rfl (Or.inl rfl) (@pe_callTy _ _ _ _ _ _ _ _ _ call_list_of (by rfl) T.z_list PyProof.Rows.boot_list (@pa_cons _ _ _ _ _ (pv 2) pa_nil (by rfl)) (by decide) (by decide) (by rfl) (by rfl)) (by rfl) (by first | exact .inl rfl | exact .inr rfl | assumption)) (@pss_cons _ _ _ _ _ (@ps_set _ _ (5) _ _ _ _ sc_table_row.nd rfl (Or.inl rfl) (@pe_call _ _ _ _ _ _ _ _ _ _ _ _ _ _ _ _ (ok_members T) (hr.mono (by decide)) rfl T.m_members T.F_members.kp T.b_members .nil pass0 (@pa_cons _ _ _ _ _ (@pe_call _ _ _ _ _ _ _ _ _ _ _ _ _ _ _ _ (ok_lies T) (hr.mono (by decide)) rfl T.m_lies T.F_lies.kp T.b_lies .nil pass0 (@pa_cons _ _ _ _ _ (pv 0) (@pa_cons _ _ _ _ _ (pv 3) pa_nil (by rfl)) (by rfl)) (by decide) (by rfl) (by rfl)) pa_nil (by rfl)) (by decide) (by rfl) (by rfl)) (by rfl) (by first | exact .inl rfl | exact .inr rfl | assumption)) (@pss_cons _ _ _ _ _ (@ps_if _ _ _ _ _ _ _ _ (@pt_cmpR _ _ _ _ _ _ _ _ (op_eqD (K:=K) hr.units) (pv 5) (@pe_lst _ _ _ _ pa_nil) (nomark _)) (@pss_cons _ _ _ _ _ (@ps_expr _ _ _ _ (pe_bm PySem.F.plainAttrs_list PySem.F.slot_list_append PySem.F.type_list_append mt_append (pv 4) (@pa_cons _ _ _ _ _ (pv 1) pa_nil (by rfl))) (by rfl)) (@pss_one _ _ _ (@ps_ret _ _ _ _ (pv 4)))) pss_nil) (@pss_cons _ _ _ _ _ (@ps_expr _ _ _ _ (pe_bm PySem.F.plainAttrs_list PySem.F.slot_list_append PySem.F.type_list_append mt_append (pv 4) (@pa_cons _ _ _ _ _ (@pe_tup _ _ _ _ _ (@pa_cons _ _ _ _ _ pe_int (@pa_cons _ _ _ _ _ pe_int pa_nil (by rfl)) (by rfl))) pa_nil (by rfl))) (by rfl)) (@pss_cons _ _ _ _ _ (@ps_set _ _ (6) _ _ _ _ sc_table_row.nd rfl (Or.inl rfl) (@pe_call _ _ _ _ _ _ _ _ _ _ _ _ _ _ _ _ (ok_even_part T) (hr.mono (by decide)) rfl T.m_even_part T.F_even_part.kp T.b_even_part .nil pass0 (@pa_cons _ _ _ _ _ (pv 1) (@pa_cons _ _ _ _ _ (@pe_callB _ _ _ _ _ _ _ _ _ call_len_seq (by rfl) T.z_len PySem.boot_len (@pa_cons _ _ _ _ _ (pv 5) pa_nil (by rfl)) (by decide) (by decide) (by rfl) (by rfl)) pa_nil (by rfl)) (by rfl)) (by decide) (by rfl) (by rfl)) (by rfl) (by first | exact .inl rfl | exact .inr rfl | assumption)) (@pss_cons _ _ _ _ _ (ps_for PassesOwn.never rfl (pi_list (pv 5)) (pg_name (i:=7) sc_table_row.nd rfl (Or.inl rfl)) (@pss_one _ _ _ (ps_asg (pv 6) (pg_sub (pv 4) (pv 7) set_list)))) (@pss_one _ _ _ (@ps_ret _ _ _ _ (pv 4))))))))),?_⟩
 have p12:(2:Int) ^ h<=4096:=by
  have:=Nat.pow_le_pow_right (show 0 < 2 by decide) h12
  exact_mod_cast this
 and_intros
 intro r hr0
 have s1:=same_new hr0 (.lst (fqv ks))
 have e1:(upd H r (.lst (fqv ks))) r=some (.lst (fqv ks)):=upd_same
 generalize upd H r (.lst (fqv ks))=H1 at s1 e1 ⊢
 and_intros
 refine ⟨sp,ts,s,rfl,SqT.of (s1 _ _ hT),?_⟩
 and_intros
 refine ⟨l0,by omega,fun wl H2 hwl s2 e2=>?_⟩
 have e2':H2 wl=some (.lst ((whereI ts s).map V.int)):=e2
 have r2:=s2 _ _ e1
 have s12:=s1.trans s2
 generalize whereI ts s=wh at e2' win wl12 q
 clear e2
 have fl:(fqv ks).length=ks.length:=List.length_map ..
 and_intros
 refine ⟨(by show 0<=sizeLine;decide),fun e0 he0=>?_⟩
 have s3:=same_new he0 (.lst [])
 have ee0:(upd H2 e0 (.lst [])) e0=some (.lst []):=upd_same
 generalize upd H2 e0 (.lst [])=H3 at s3 ee0 ⊢
 have s13:=s12.trans s3
 have r3:=s3 _ _ r2
 have w3:=s3 _ _ e2'
 refine ⟨.list (wh.map .int),.list (([]:List Int).map .int),.lst (SqL.of w3) (.ints _),.lst (SqL.of ee0) .nil,(shape_ints _).2,(shape_ints _).2,?_⟩
 rw [show ∀x y:List Int,PyData.eqv (.list (x.map .int)) (.list (y.map .int))=decide (x=y) from fun x y=>eqv_ints x y]
 by_cases cw:wh=[]
 ·refine ⟨_,rfl,ifT (decide_eq_true cw) ?_⟩
  and_intros
  refine ⟨.inl ⟨rfl,_,SqL.of r3⟩,?_⟩
  and_intros
  refine ⟨r,_,_,rfl,rfl,r3,(by rw [fl];exact Nat.lt_of_le_of_lt (show ks.length<=12 by omega) (by decide)),?_⟩
  rw [show fqv ks++[V.ref fr.1]=fqv (ks++[fr]) from by unfold fqv;rw [List.map_append];rfl]
  refine ⟨_,rfl,q r (ks++[fr]) _ hr0 (same_upd s13 hr0) upd_same (fun f m=>FqG.upd ?_ r3) ?_⟩
  ·rcases List.mem_append.mp m with m | m
   ·exact (gk f m).same s13
   ·rw [List.mem_singleton.mp m];exact gf.same s13
  ·unfold rowD
   rw [if_pos cw,List.map_append]
   rfl
 refine ⟨_,rfl,ifF (decide_eq_false cw) ?_⟩
 have wl1:0 < wh.length:=List.length_pos_iff.mpr cw
 and_intros
 refine ⟨.inl ⟨rfl,_,SqL.of r3⟩,?_⟩
 and_intros
 refine ⟨(by show 2<=sizeLine;decide),fun z0 hz0=>?_⟩
 have s4:=same_new hz0 (.tup [V.int 0,V.int 1])
 have e4:(upd H3 z0 (.tup [V.int 0,V.int 1])) z0=some (.tup [V.int 0,V.int 1]):=upd_same
 generalize upd H3 z0 (.tup [V.int 0,V.int 1])=H4 at s4 e4 ⊢
 have r4:=s4 _ _ r3
 have s14:=s13.trans s4
 refine ⟨r,_,_,rfl,rfl,r4,(by rw [fl];exact Nat.lt_of_le_of_lt (show ks.length<=12 by omega) (by decide)),?_⟩
 rw [show fqv ks++[V.ref z0]=fqv (ks++[(z0,0,1)]) from by unfold fqv;rw [List.map_append];rfl]
 have s15:Same H (upd H4 r (.lst (fqv (ks++[(z0,0,1)])))):=same_upd s14 hr0
 have r5:(upd H4 r (.lst (fqv (ks++[(z0,0,1)])))) r=some (.lst (fqv (ks++[(z0,0,1)]))):=upd_same
 have w5:(upd H4 r (.lst (fqv (ks++[(z0,0,1)])))) wl=some (.lst (wh.map V.int)):=by
  rw [upd_ne (fun z=>by rw [z,e1] at hwl;cases hwl)]
  exact s4 _ _ w3
 have g5:∀f∈ks++[(z0,0,1)],FqG (upd H4 r (.lst (fqv (ks++[(z0,0,1)])))) f:=fun f m=>FqG.upd (by
  rcases List.mem_append.mp m with m | m
  ·exact (gk f m).same s14
  ·rw [List.mem_singleton.mp m];exact e4) r4
 generalize upd H4 r (.lst (fqv (ks++[(z0,0,1)])))=H5 at s15 r5 w5 g5 ⊢
 have wm:(wh.map V.int).length=wh.length:=List.length_map ..
 and_intros
 refine ⟨fr,wh.length,(by show [_,V.int ((wh.map V.int).length:Int)]=_;rw [wm]),gf.same s15,fb,by omega,wl12,fun T H6 hT6 s6 e6=>?_⟩
 have s16:=s15.trans s6
 have r6:=s6 _ _ r5
 have w6:=s6 _ _ w5
 have wr:wl≠r:=fun z=>by rw [z,e1] at hwl;cases hwl
 and_intros
 refine ⟨⟨_,SqL.of w6⟩,for_list (xs:=wh.map V.int) (fun i σ' J=>∃(fs:List Fq) (v7:Option V),σ'=[some (.ref sp),some (.ref fr.1),some (.ref kl),some (.int s),some (.ref r),some (.ref wl),some (.ref T),v7]/\Same H J/\J r=some (.lst (fqv fs))/\J wl=some (.lst (wh.map V.int))/\(∀f∈fs,FqG J f)/\fs.length=h+1/\fs.map (·.2)=(wh.take i).foldl (fun r x=>r.set x.toNat (evenD fr.2 wh.length)) (ks.map (·.2)++[(0,1)])/\FqG J (T,evenD fr.2 wh.length)) ⟨ks++[(z0,0,1)],none,rfl,s16,r6,w6,(fun f m=>(g5 f m).same s6),(by rw [List.length_append,ke];rfl),(by rw [List.map_append];rfl),e6⟩ (fun i σ' J _ hq_=>by obtain ⟨_,_,_,_,_,e,_⟩:=hq_;exact SqL.of e) ?_ ?_⟩
 ·rintro i x σ' J hx ⟨fs,v7,rfl,sJ,rJ,wJ,gJ,lJ,vJ,pJ⟩
  obtain ⟨y,hy,rfl⟩:=int_at hx
  obtain ⟨y0,y1⟩:=win y (List.mem_of_getElem? hy)
  obtain ⟨j,rfl⟩:∃j:Nat,y=(j:Int):=⟨y.toNat,by omega⟩
  and_intros
  refine ⟨r,_,_,j,rfl,rfl,rJ,ixN_nat (by unfold fqv;rw [List.length_map];omega),?_⟩
  rw [show (fqv fs).set j (V.ref T)=fqv (fs.set j (T,evenD fr.2 wh.length)) from fqv_set fs j (T,evenD fr.2 wh.length)]
  refine ⟨fs.set j (T,evenD fr.2 wh.length),_,rfl,same_upd sJ hr0,upd_same,by rw [upd_ne wr];exact wJ,(fun f m=>FqG.upd ?_ rJ),by rw [List.length_set];exact lJ,?_,FqG.upd pJ rJ⟩
  ·rcases List.mem_or_eq_of_mem_set m with m | rfl
   ·exact gJ f m
   ·exact pJ
  ·rw [List.take_add_one,hy,List.map_set,vJ]
   show _=List.foldl _ _ (_++[(j:Int)])
   rw [List.foldl_append,List.foldl_cons,List.foldl_nil,Int.toNat_natCast]
 rintro σ' J ⟨fs,v7,rfl,sJ,rJ,wJ,gJ,lJ,vJ,pJ⟩
 rw [List.length_map,List.take_of_length_le (Nat.le_refl _)] at vJ
 refine ⟨_,rfl,q r fs J hr0 sJ rJ gJ ?_⟩
 unfold rowD
 rw [if_neg cw]
 exact vJ
theorem ok_weighed (T:Tx K mg ad):FnOk P w K mg base CX0 3 ad.f_weighed ad.d_weighed ["sheet","shares"] spWeighM:=by
 refine T.F_weighed.ok sc_weighed (fun vs H Q E h=>?_) (fun cdv A outer s H vs Q E hr h=>?_)
 ·obtain ⟨l,sl,ls,fs,M,rfl,_⟩:=h
  rfl
 obtain ⟨l,sl,ls,fs,M,rfl,hl,gl,hs,gf',M0,Mz,le,l60,nz',q⟩:=h
 refine ⟨_,(@pss_cons _ _ _ _ _ (@ps_set _ _ (2) _ _ _ _ sc_weighed.nd rfl (Or.inl rfl) pe_dnewK (by rfl) (by first | exact .inl rfl | exact .inr rfl | assumption)) (@pss_cons _ _ _ _ _ (ps_for PassesOwn.never rfl (pi_zip rfl T.z_zip (@pa_cons _ _ _ _ _ (pv 0) (@pa_cons _ _ _ _ _ (pv 1) pa_nil (by rfl)) (by rfl))) (pg_tup rfl (pgs_cons (pg_name (i:=3) sc_weighed.nd rfl (Or.inl rfl)) (pgs_cons (pg_name (i:=4) sc_weighed.nd rfl (Or.inl rfl)) pgs_nil))) (@pss_one _ _ _ (@ps_if _ _ _ _ _ _ _ _ (@pt_cmpR _ _ _ _ _ _ _ _ op_ne (@pe_ix _ _ _ _ _ _ _ ix_tup (pv 4) pe_int (fun _ _=>rfl)) pe_int (nomark _)) (@pss_one _ _ _ (ps_dput (u1 hr.units) (pv 2) (@pe_ix _ _ _ _ _ _ _ ix_tup (pv 4) pe_int (fun _ _=>rfl)) (@pe_op _ _ _ _ _ _ _ _ op_add (pe_dget2 (u1 hr.units) (pv 2) (@pe_ix _ _ _ _ _ _ _ ix_tup (pv 4) pe_int (fun _ _=>rfl)) pe_int ⟨rfl,rfl,rfl,rfl⟩) (@pe_op _ _ _ _ _ _ _ _ op_mulB (@pe_ix _ _ _ _ _ _ _ ix_tup (pv 3) pe_int (fun _ _=>rfl)) (@pe_ix _ _ _ _ _ _ _ ix_tup (pv 4) pe_int (fun _ _=>rfl)))) rfl)) pss_nil))) (@pss_cons _ _ _ _ _ (@ps_set _ _ (5) _ _ _ _ sc_weighed.nd rfl (Or.inr rfl) (@pe_call _ _ _ _ _ _ _ _ _ _ _ _ _ _ _ _ (ok_common_bottom T) (hr.mono (by decide)) rfl T.m_common_bottom T.F_common_bottom.kp T.b_common_bottom .nil pass0 (@pa_cons _ _ _ _ _ (pv 2) pa_nil (by rfl)) (by decide) (by rfl) (by rfl)) (by rfl) (by first | exact .inl rfl | exact .inr rfl | assumption)) (@pss_one _ _ _ (@ps_ret _ _ _ _ (@pe_call _ _ _ _ _ _ _ _ _ _ _ _ _ _ _ _ (ok_fraction T) (hr.mono (by decide)) rfl T.m_fraction T.F_fraction.kp T.b_fraction .nil pass0 (@pa_cons _ _ _ _ _ (@pe_callB _ _ _ _ _ _ _ _ _ (call_sum rfl) (by rfl) T.z_sum PyProof.Rows.boot_sum (@pa_cons _ _ _ _ _ (pe_thawK (pe_comp2 (fsc:=defScope s_weighed) (N:=["sheet","shares","tops","line","share","common"]) (Nc:=["sheet","shares","tops","line","share","common","bottom","top"]) rfl rfl ⟨rfl,by decide +kernel,by decide +kernel,by decide +kernel,by decide +kernel,rfl,by decide +kernel,rfl,by decide +kernel⟩ rfl (pi_items (pe_bm0 PySem.F.plainAttrs_dict PySem.F.slot_dict_items PySem.F.type_dict_items mt_items (pv 2))) (fun _ _ _ _=>pif_nil) (fun _ _ _ _=>(@pe_op _ _ _ _ _ _ _ _ op_mulB (pv 7) (@pe_op _ _ _ _ _ _ _ _ op_fdivB (pv 5) (pv 6)))))) pa_nil (by rfl)) (by decide) (by decide) (by rfl) (by rfl)) (@pa_cons _ _ _ _ _ (pv 5) pa_nil (by rfl)) (by rfl)) (by decide) (by rfl) (by rfl))))))),?_⟩
 have gf:∀f∈fs,FqG H f/\FqB 4500 f:=fun f m=>⟨(gf' f m).1,(gf' f m).2.fq M0 Mz⟩
 have nz:∀q∈ls,Sz 64 q.2.2.2:=fun q m=>(nz' q m).2
 have zl:(wzOf ls fs).length=ls.length:=by unfold wzOf;rw [List.length_map,List.length_zip,le,Nat.min_self]
 have fl:(fqv fs).length=fs.length:=List.length_map ..
 subst_eqs
 intro d hd
 have s0:=same_new hd (.dK [])
 have e0:(upd H d (.dK [])) d=some (.dK []):=upd_same
 generalize upd H d (.dK [])=H0 at s0 e0 ⊢
 have inv0:∀φ,psum φ []=wsum φ ((wzOf ls fs).take 0):=fun φ=>rfl
 subst_eqs
 refine ⟨l,sl,rfl,⟨_,SqL.of (s0 _ _ hl)⟩,⟨_,SqL.of (s0 _ _ hs)⟩,?_⟩
 refine for_zip (xs:=vls ls) (ys:=fqv fs) (by rw [vls_len,fl,le]) (fun i σ' J=>∃(v3 v4:Option V) (ps:List (Int × Int)),σ'=[some (.ref l),some (.ref sl),some (.ref d),v3,v4,none]/\Same H J/\J d=some (.dK (encI ps))/\(ps.map (·.1)).Nodup/\ps.length<=i/\TopsB 4500 ps/\(∀q∈ps,q.1 ∣ M)/\(∀q∈ps,Sz (64+4500+i) q.2)/\(∀q∈ps,∃z∈(wzOf ls fs).take i,z.2.1≠0/\z.2.2=q.1)/\(∀z∈(wzOf ls fs).take i,z.2.1≠0->z.2.2∈ps.map (·.1))/\∀φ,psum φ ps=wsum φ ((wzOf ls fs).take i)) ⟨none,none,[],rfl,s0,e0,List.nodup_nil,Nat.le_refl _,⟨(fun _ m=>absurd m List.not_mem_nil),fun _ m=>absurd m List.not_mem_nil⟩,(fun _ m=>absurd m List.not_mem_nil),(fun _ m=>absurd m List.not_mem_nil),(fun _ m=>absurd m List.not_mem_nil),(fun _ m=>absurd m List.not_mem_nil),inv0⟩ (fun i σ' J _ hq_=>by obtain ⟨_,_,_,_,e,_⟩:=hq_;exact ⟨SqL.of (e _ _ hl),SqL.of (e _ _ hs)⟩) ?_ ?_
 ·rintro i x y T σ' J hx hy ⟨v3,v4,ps,rfl,sJ,ed,nd,pl,tb,tm,pz,pin,inp,sm⟩ hT
  obtain ⟨f,hf,rfl,fm,et⟩:=vls_get hx
  unfold fqv at hy
  rw [List.getElem?_map] at hy
  obtain ⟨g,hg,rfl⟩:=Option.map_eq_some_iff.mp hy
  obtain ⟨gg,gb⟩:=gf g (List.mem_of_getElem? hg)
  have il:=(List.getElem?_eq_some_iff.mp hf).1
  have wz:(wzOf ls fs).take (i+1)=(wzOf ls fs).take i++[(f.2.2.2,g.2.1,g.2.2)]:=by
   have:(wzOf ls fs)[i]?=some (f.2.2.2,g.2.1,g.2.2):=by
    unfold wzOf
    rw [List.getElem?_map,show (ls.zip fs)[i]?=some (f,g) from List.getElem?_zip_eq_some.mpr ⟨hf,hg⟩]
    rfl
   rw [List.take_add_one,this]
   rfl
  have s1:=same_new hT (.tup [V.ref f.1,V.ref g.1])
  have e1:(upd J T (.tup [V.ref f.1,V.ref g.1])) T=some (.tup [V.ref f.1,V.ref g.1]):=upd_same
  generalize upd J T (.tup [V.ref f.1,V.ref g.1])=J1 at s1 e1 ⊢
  have sJ1:=sJ.trans s1
  have g1:J1 g.1=some (.tup [.int g.2.1,.int g.2.2]):=sJ1 _ _ gg
  have f1:=sJ1 _ _ (gl f fm).1
  have ed1:=s1 _ _ ed
  have nf:=nz f fm
  have szt:=gb.szt
  refine ⟨T,_,rfl,SqT.of e1,rfl,_,_,rfl,_,_,rfl,rfl,?_⟩
  subst_eqs
  by_cases c:g.2.1=0
  ·refine ifF (ne_f c) ?_
   refine ⟨_,_,ps,rfl,sJ1,ed1,nd,Nat.le_succ_of_le pl,tb,tm,(fun q m=>(pz q m).mono (by omega)),(fun q m=>?_),(fun z m ne=>?_),fun φ=>?_⟩
   ·obtain ⟨z,zm,zz⟩:=pin q m
    exact ⟨z,by rw [wz];exact List.mem_append_left _ zm,zz⟩
   ·rw [wz] at m
    rcases List.mem_append.mp m with m | m
    ·exact inp z m ne
    ·rw [List.mem_singleton.mp m] at ne;exact absurd c ne
   ·rw [wz,wsum_snoc,sm φ,if_pos c,Int.add_zero]
  refine ifT (ne_t c) ?_
  subst_eqs
  refine ⟨.inl ⟨_,.inl ed1⟩,?_⟩
  subst_eqs
  refine ⟨_,DGet.k (k:=(Sum.inl g.2.2:Key)) ed1,?_⟩
  rw [enc_val,val_get]
  subst_eqs
  refine ⟨d,_,rfl,DPut.k (k:=Sum.inl g.2.2) ed1 (by unfold encI;rw [List.length_map];exact Nat.lt_of_le_of_lt pl (Nat.lt_of_lt_of_le il (Nat.le_trans l60 (by decide)))),?_⟩
  dsimp only
  rw [enc_put]
  have old:Sz (64+4500+i) ((valI ps g.2.2).getD 0):=by
   cases e:valI ps g.2.2 with
   | none=>show (0:Int).natAbs < _;exact Nat.pow_pos (by decide)
   | some v=>exact pz _ (valI_mem e)
  refine ⟨_,_,putI ps g.2.2 ((valI ps g.2.2).getD 0+f.2.2.2*g.2.1),rfl,same_upd sJ1 hd,upd_same,putI_nd nd,Nat.le_trans (putI_len ..) (Nat.succ_le_succ pl),⟨fun q m=>?_,fun q m=>?_⟩,(fun q m=>?_),(fun q m=>?_),(fun q m=>?_),(fun z m ne=>?_),fun φ=>?_⟩
  ·rcases putI_mem m with m | rfl
   ·exact tb.b0 q m
   ·exact gb.b0
  ·rcases putI_mem m with m | rfl
   ·exact tb.szb q m
   ·exact gb.szb
  ·rcases putI_mem m with m | rfl
   ·exact tm q m
   ·exact (gf' g (List.mem_of_getElem? hg)).2.dv
  ·rcases putI_mem m with m | rfl
   ·exact (pz q m).mono (by omega)
   ·exact (old.add (nf.mul szt)).mono (by omega)
  ·rcases putI_mem m with m | rfl
   ·obtain ⟨z,zm,zz⟩:=pin q m
    exact ⟨z,by rw [wz];exact List.mem_append_left _ zm,zz⟩
   ·exact ⟨(f.2.2.2,g.2.1,g.2.2),by rw [wz];exact List.mem_append_right _ (List.mem_singleton.mpr rfl),c,rfl⟩
  ·rw [wz] at m
   rcases List.mem_append.mp m with m | m
   ·exact putI_old (inp z m ne)
   ·rw [List.mem_singleton.mp m];exact putI_new
  ·rw [wz,wsum_snoc,psum_put φ _ _ nd,sm φ,if_neg c]
 rintro σ' J ⟨v3,v4,ps,rfl,sJ,ed,nd,pl,tb,tm,pz,pin,inp,sm⟩
 rw [vls_len] at pl pz pin inp sm
 rw [<- zl,List.take_of_length_le (Nat.le_refl _)] at pin inp sm
 subst_eqs
 refine ⟨d,ps,M,rfl,ed,(fun q m=>⟨tb.b0 q m,tm q m⟩),M0,Mz,by omega,fun D J1 j1 D0 Dd Dm=>?_⟩
 have Dz:=dvd_sz Dm M0 Mz
 have sJ1:=sJ.trans j1
 have ed1:=j1 _ _ ed
 subst_eqs
 refine ⟨.inr (.inr (.inl ⟨rfl,.inl ⟨_,ed1⟩⟩)),?_⟩
 refine ⟨d,_,rfl,rfl,ed1,fun v hv=>?_⟩
 have j2:=same_new hv (hoI v d)
 have e2:(upd J1 v (hoI v d)) v=some (hoI v d):=upd_same
 generalize upd J1 v (hoI v d)=J2 at j2 e2 ⊢
 have sJ2:=sJ1.trans j2
 have ed2:=j2 _ _ ed1
 refine ⟨v,d,_,rfl,e2,ed2,fun ob fo=>?_⟩
 have sF:Same H (upd J2 d (hoF d ob)):=same_upd sJ2 hd
 have eF:(upd J2 d (hoF d ob)) d=some (hoF d ob):=upd_same
 generalize upd J2 d (hoF d ob)=J3 at sF eF ⊢
 have szD:Sz 6100 D:=Dz.mono (by decide)
 refine comp_items (d:=d) (ob:=ob) (kvs:=encI ps) rfl rfl (by rw [enc_len];exact small63 (by omega)) (fun C i ys J=>ys=((ps.take i).map fun q=>q.2*D.fdiv q.1).map V.int/\J C=some (.lst ys)/\Same J3 J) (fun C hC=>⟨rfl,upd_same,same_new hC _⟩) (fun C i ys J hq_=>by obtain ⟨f1,f2,_⟩:=hq_;exact ⟨f2,by rw [f1,List.length_map,List.length_map];exact List.length_take_le _ _⟩) (fun C i ys J hC hq_=>by obtain ⟨_,_,f3⟩:=hq_;exact f3 _ _ eF) ?_ ?_
 ·rintro C i k y T ys J K1 K2 hC hkv ⟨rfl,n1,n2⟩ hT kk1 kk2
  obtain ⟨q0,hq0,rfl,rfl⟩:=enc_at hkv
  have qm:=List.mem_of_getElem? hq0
  have b0:=tb.b0 q0 qm
  have bz:Sz 9000 q0.1:=(tb.szb q0 qm).mono (by decide)
  have tz:Sz 4700 q0.2:=(pz q0 qm).mono (by omega)
  have dz:Sz 6100 (D.fdiv q0.1):=szD.fdiv
  have s1:=same_new hT (.tup [kV (Sum.inl q0.1),V.int q0.2])
  generalize upd J T (.tup [kV (Sum.inl q0.1),V.int q0.2])=J4 at s1 ⊢
  have n1':=s1 _ _ n1
  refine yes (ifT rfl ?_)
  refine ⟨_,rfl,_,rfl,_,rfl,_,_,rfl,rfl,⟨by omega,bz⟩,?_⟩
  refine ⟨_,_,rfl,rfl,mulB tz dz,?_⟩
  refine kk1 _ _ n1' ⟨?_,upd_same,same_upd (n2.trans s1) hC⟩
  rw [List.take_add_one,hq0,List.map_append,List.map_append]
  rfl
 rintro C ys J4 hC ⟨rfl,n1,n2⟩
 rw [enc_len,List.take_of_length_le (Nat.le_refl _)] at n1
 have Cd:C≠d:=fun z=>by rw [z,eF] at hC;cases hC
 refine ⟨d,ob,encI ps,n2 _ _ eF,fo,?_⟩
 have sG:Same H (upd J4 d (.dK (encI ps))):=same_upd (sF.trans n2) hd
 have eG:(upd J4 d (.dK (encI ps))) C=some (.lst ((ps.map fun q=>q.2*D.fdiv q.1).map V.int)):=by rw [upd_ne Cd];exact n1
 generalize upd J4 d (.dK (encI ps))=J5 at sG eG ⊢
 refine ⟨C,_,rfl,SqL.of eG,?_⟩
 have szS:Sz 13500 (ps.map fun q=>q.2*D.fdiv q.1).sum:=(sum_sz (n:=4700+6100) fun x m=>by
  obtain ⟨q0,qm,rfl⟩:=List.mem_map.mp m
  exact ((pz q0 qm).mono (show _<=4700 by omega)).mul szD.fdiv).mono (by rw [List.length_map];omega)
 have eS:(ps.map fun q=>q.2*D.fdiv q.1).sum=wsum (fun b=>D.fdiv b) (wzOf ls fs):=sm fun b=>D.fdiv b
 subst_eqs
 refine ⟨_,D,rfl,by omega,szS,szD.mono (by decide),fun T H' s' e'=>?_⟩
 rw [eS] at e'
 have dvd:lowB (wsum (fun b=>D.fdiv b) (wzOf ls fs)) D ∣ M:=by
  obtain ⟨g,g0,h1,h2⟩:=low_pos (v:=wsum (fun b=>D.fdiv b) (wzOf ls fs)) D0
  exact Int.dvd_trans ⟨g,h2⟩ Dm
 exact q T (lowT (wsum (fun b=>D.fdiv b) (wzOf ls fs)) D,lowB (wsum (fun b=>D.fdiv b) (wzOf ls fs)) D) H' (sG.trans s') ⟨⟨D,D0,(fun z zm zn=>by
  obtain ⟨q0,qm,e⟩:=List.mem_map.mp (inp z zm zn)
  rw [<- e]
  exact Dd q0 qm),rfl⟩,dvd⟩ e'
theorem ok_share_at (T:Tx K mg ad):FnOk P w K mg base CX0 3 ad.f_share_at ad.d_share_at ["slip","free","standing","hand"] (spShareAt 4500):=by
 refine T.F_share_at.ok sc_share_at (fun vs H Q E h=>?_) (fun cdv A outer s H vs Q E hr h=>?_)
 ·obtain ⟨sp,h,hd,ts,fr,s,rfl,_⟩:=h
  rfl
 obtain ⟨sp,h,hd,ts,fr,s,rfl,hT,gf,fb,h12,hh,li,q⟩:=h
 refine ⟨_,(@pss_cons _ _ _ _ _ (@ps_set _ _ (4) _ _ _ _ sc_share_at.nd rfl (Or.inl rfl) (@pe_call _ _ _ _ _ _ _ _ _ _ _ _ _ _ _ _ (ok_lies T) (hr.mono (by decide)) rfl T.m_lies T.F_lies.kp T.b_lies .nil pass0 (@pa_cons _ _ _ _ _ (pv 0) (@pa_cons _ _ _ _ _ (pv 2) pa_nil (by rfl)) (by rfl)) (by decide) (by rfl) (by rfl)) (by rfl) (by first | exact .inl rfl | exact .inr rfl | assumption)) (@pss_cons _ _ _ _ _ (@ps_if _ _ _ _ _ _ _ _ (@pt_not _ _ _ _ (@pt_val _ _ _ (@pe_call _ _ _ _ _ _ _ _ _ _ _ _ _ _ _ _ (ok_holds T) (hr.mono (by decide)) rfl T.m_holds T.F_holds.kp T.b_holds .nil pass0 (@pa_cons _ _ _ _ _ (pv 4) (@pa_cons _ _ _ _ _ (pv 3) pa_nil (by rfl)) (by rfl)) (by decide) (by rfl) (by rfl)) (by intro _;rfl))) (@pss_one _ _ _ (@ps_ret _ _ _ _ (@pe_tup _ _ _ _ _ (@pa_cons _ _ _ _ _ pe_int (@pa_cons _ _ _ _ _ pe_int pa_nil (by rfl)) (by rfl))))) pss_nil) (@pss_one _ _ _ (@ps_ret _ _ _ _ (@pe_call _ _ _ _ _ _ _ _ _ _ _ _ _ _ _ _ (ok_even_part T) (hr.mono (by decide)) rfl T.m_even_part T.F_even_part.kp T.b_even_part .nil pass0 (@pa_cons _ _ _ _ _ (pv 1) (@pa_cons _ _ _ _ _ (@pe_call _ _ _ _ _ _ _ _ _ _ _ _ _ _ _ _ (ok_size T) (hr.mono (by decide)) rfl T.m_size T.F_size.kp T.b_size .nil pass0 (@pa_cons _ _ _ _ _ (pv 4) pa_nil (by rfl)) (by decide) (by rfl) (by rfl)) pa_nil (by rfl)) (by rfl)) (by decide) (by rfl) (by rfl)))))),?_⟩
 obtain ⟨l0,l1,_,_⟩:=id li
 have p12:(2:Int) ^ h<=4096:=by
  have:=Nat.pow_le_pow_right (show 0 < 2 by decide) h12
  exact_mod_cast this
 and_intros
 refine ⟨sp,ts,s,rfl,SqT.of hT,?_⟩
 and_intros
 refine ⟨lieI ts s,(hd:Int),rfl,by omega,?_⟩
 rw [Int.toNat_natCast]
 by_cases c:bit (lieI ts s) hd=true
 ·have e:shareD ts s hd fr.2=evenD fr.2 (whereI ts s).length:=by unfold shareD;rw [if_pos c]
  rw [c]
  and_intros
  refine ⟨l0,by omega,fun H1 s1=>?_⟩
  have wm:((hd:Nat):Int)∈whereI ts s:=hands_mem.mpr ⟨hd,by omega,c,rfl⟩
  have n1:1<=(whereI ts s).length:=List.length_pos_of_mem wm
  have n12:(whereI ts s).length<=12:=hands_len ..
  and_intros
  exact ⟨fr,(whereI ts s).length,rfl,gf.same s1,fb,n1,n12,fun a H' _ s2 e2=>q a H' (s1.trans s2) (by rw [e];exact e2)⟩
 ·have e:shareD ts s hd fr.2=(0,1):=by unfold shareD;rw [if_neg c]
  rw [Bool.not_eq_true] at c
  rw [c]
  and_intros
  refine ⟨(by show 2<=sizeLine;decide),fun a ha=>?_⟩
  exact q a _ (same_new ha _) (by rw [e];exact upd_same)
theorem ok_law_sheet (T:Tx K mg ad):FnOk P w K mg base CX0 3 ad.f_law_sheet ad.d_law_sheet ["_law_script","_law_at","_law_hands","_law_lines","_law_most"] (spSheet16 K):=by
 refine T.F_law_sheet.ok sc_law_sheet (fun vs H Q E h=>?_) (fun cdv A outer s H vs Q E hr h=>?_)
 ·obtain ⟨p,ns,k,n,m,most,rfl,_⟩:=h
  rfl
 obtain ⟨p,ns,k,n,m,most,rfl,hS,h63,k0,k9,n1,n12,m1,m12,mo1,mo9,q⟩:=h
 refine ⟨_,(@pss_cons _ _ _ _ _ (ps_setC (j:=5) (fsc:=defScope s_law_sheet) (N:=["_law_script","_law_at","_law_hands","_law_lines","_law_most","_law_slips","_law_many","_law_k","_law_slip_here"]) (Nc:=["_law_script","_law_at","_law_hands","_law_lines","_law_most","_law_slips","_law_many",".s7","_law_slip_here","_law_k"]) rfl rfl ⟨rfl,by decide +kernel,by decide +kernel,rfl,by decide +kernel,rfl,by decide +kernel,rfl,by decide +kernel⟩ rfl sc_law_sheet.nd rfl rfl (pi_range1 rfl T.z_range (@pa_cons _ _ _ _ _ (pv 3) pa_nil (by rfl))) (fun _ _ _ _=>pif_nil) (fun _ _ _ _=>(@pe_call _ _ _ _ _ _ _ _ _ _ _ _ _ _ _ _ (ok_law_slip T) (hr.mono (by decide)) rfl T.m_law_slip T.F_law_slip.kp T.b_law_slip .nil pass0 (@pa_cons _ _ _ _ _ (@pe_call _ _ _ _ _ _ _ _ _ _ _ _ _ _ _ _ (ok_law_cell T) (hr.mono (by decide)) rfl T.m_law_cell T.F_law_cell.kp T.b_law_cell .nil pass0 (@pa_cons _ _ _ _ _ (pv 0) (@pa_cons _ _ _ _ _ (@pe_op _ _ _ _ _ _ _ _ op_add (pv 1) (pv 9)) pa_nil (by rfl)) (by rfl)) (by decide) (by rfl) (by rfl)) (@pa_cons _ _ _ _ _ (pv 2) pa_nil (by rfl)) (by rfl)) (by decide) (by rfl) (by rfl))) rfl) (@pss_cons _ _ _ _ _ (@ps_set _ _ (6) _ _ _ _ sc_law_sheet.nd rfl (Or.inr rfl) pe_dnewT (by rfl) (by first | exact .inl rfl | exact .inr rfl | assumption)) (@pss_cons _ _ _ _ _ (ps_for PassesOwn.never rfl (pi_range1 rfl T.z_range (@pa_cons _ _ _ _ _ (@pe_callB _ _ _ _ _ _ _ _ _ (call_max2 rfl) (by rfl) T.z_max PyProof.Rows.boot_max (@pa_cons _ _ _ _ _ (pv 3) (@pa_cons _ _ _ _ _ (@pe_callB _ _ _ _ _ _ _ _ _ (call_min2 rfl) (by rfl) T.z_min PyProof.Rows.boot_min (@pa_cons _ _ _ _ _ pe_int (@pa_cons _ _ _ _ _ (@pe_op _ _ _ _ _ _ _ _ op_sub (@pe_callB _ _ _ _ _ _ _ _ _ call_len_seq (by rfl) T.z_len PySem.boot_len (@pa_cons _ _ _ _ _ (pv 0) pa_nil (by rfl)) (by decide) (by decide) (by rfl) (by rfl)) (pv 1)) pa_nil (by rfl)) (by rfl)) (by decide) (by decide) (by rfl) (by rfl)) pa_nil (by rfl)) (by rfl)) (by decide) (by decide) (by rfl) (by rfl)) pa_nil (by rfl))) (pg_name (i:=7) sc_law_sheet.nd rfl (Or.inl rfl)) (@pss_cons _ _ _ _ _ (@ps_set _ _ (8) _ _ _ _ sc_law_sheet.nd rfl (Or.inl rfl) (@pe_ix _ _ _ _ _ _ _ ix_list (pv 5) (@pe_op _ _ _ _ _ _ _ _ op_modN (pv 7) (pv 3)) (fun _ _=>rfl)) (by rfl) (by first | exact .inl rfl | exact .inr rfl | assumption)) (@pss_one _ _ _ (ps_dput (u1 hr.units) (pv 6) (pv 8) (@pe_op _ _ _ _ _ _ _ _ op_add (pe_dget2 (u1 hr.units) (pv 6) (pv 8) pe_int ⟨rfl,rfl,rfl,rfl⟩) (@pe_call _ _ _ _ _ _ _ _ _ _ _ _ _ _ _ _ (ok_law_number T) (hr.mono (by decide)) rfl T.m_law_number T.F_law_number.kp T.b_law_number .nil pass0 (@pa_cons _ _ _ _ _ (@pe_call _ _ _ _ _ _ _ _ _ _ _ _ _ _ _ _ (ok_law_cell T) (hr.mono (by decide)) rfl T.m_law_cell T.F_law_cell.kp T.b_law_cell .nil pass0 (@pa_cons _ _ _ _ _ (pv 0) (@pa_cons _ _ _ _ _ (@pe_op _ _ _ _ _ _ _ _ op_add (pv 1) (pv 7)) pa_nil (by rfl)) (by rfl)) (by decide) (by rfl) (by rfl)) (@pa_cons _ _ _ _ _ (pv 4) pa_nil (by rfl)) (by rfl)) (by decide) (by rfl) (by rfl))) rfl)))) (@pss_one _ _ _ (@ps_ret _ _ _ _ (pe_comp (fsc:=defScope s_law_sheet) (N:=["_law_script","_law_at","_law_hands","_law_lines","_law_most","_law_slips","_law_many","_law_k","_law_slip_here"]) (Nc:=["_law_script","_law_at","_law_hands","_law_lines","_law_most","_law_slips","_law_many","_law_k",".s8","_law_slip_here"]) rfl rfl ⟨rfl,by decide +kernel,by decide +kernel,rfl,by decide +kernel,rfl,by decide +kernel,rfl,by decide +kernel⟩ rfl (pi_list (@pe_callB _ _ _ _ _ _ _ _ _ (call_sortedDT rfl hr.units) (by rfl) T.z_sorted PyProof.Rows.boot_sorted (@pa_cons _ _ _ _ _ (pv 6) pa_nil (by rfl)) (by decide) (by decide) (by rfl) (by rfl))) (fun _ _ _ _=>pif_nil) (fun _ _ _ _=>(@pe_tup _ _ _ _ _ (@pa_cons _ _ _ _ _ (pv 9) (@pa_cons _ _ _ _ _ (pe_dget (u1 hr.units) (pv 6) (pv 9) (fun _ _=>rfl)) pa_nil (by rfl)) (by rfl)))))))))),?_⟩
 have hl':(ns.map V.int).length=ns.length:=List.length_map _
 subst_eqs
 refine ⟨by omega,by omega,?_⟩
 rw [Int.toNat_natCast]
 refine comp_range (small63 (by omega)) (fun D i ys H'=>∃zs:List (Addr × List Int),ys=(zs.map fun z=>V.ref z.1)/\zs.length=i/\H' D=some (.lst ys)/\Same H H'/\∀z∈zs,H' z.1=some (.tup (z.2.map V.int))/\OkT n z.2) (fun D hD=>⟨[],rfl,rfl,upd_same,same_new hD _,fun _ m=>absurd m List.not_mem_nil⟩) (fun D i ys H' hq_=>by obtain ⟨zs,f1,f2,f3,_⟩:=hq_;exact ⟨f3,by rw [f1,List.length_map,f2];exact Nat.le_refl _⟩) ?_ ?_
 ·rintro D i ys H' K1 K2 hD hi ⟨zs,rfl,f2,f3,f4,f5⟩ k1 k2
  refine yes (ifT rfl ?_)
  subst_eqs
  refine ⟨p,ns,k+(0+(i:Int)),rfl,f4.seq hS,h63,by omega,by omega,fun z z0 z1=>?_⟩
  subst_eqs
  refine ⟨z,n,rfl,sz40 z0 z1,n1,n12,fun t ts H5 ht s5 et ok=>?_⟩
  have tD:t≠D:=fun z=>by rw [z,f3] at ht;cases ht
  refine k1 _ _ (s5 _ _ f3) ⟨zs++[(t,ts)],by rw [List.map_append];rfl,by rw [List.length_append,f2];rfl,upd_same,same_upd (f4.trans s5) hD,fun z m=>?_⟩
  rcases List.mem_append.mp m with m | m
  ·have:=f5 z m
   exact ⟨by rw [upd_ne (ne_of (s5 _ _ this.1) (s5 _ _ f3) (fun z=>by cases z))];exact s5 _ _ this.1,this.2⟩
  ·rw [List.mem_singleton.mp m]
   exact ⟨by rw [upd_ne tD];exact et,ok⟩
 rintro sl ys H1 hsl ⟨zs,rfl,zl,esl,s1,zok⟩
 subst_eqs
 intro d hd
 have s2:=same_new hd (.dT [])
 have e2:(upd H1 d (.dT [])) d=some (.dT []):=upd_same
 generalize upd H1 d (.dT [])=H2 at s2 e2 ⊢
 have hdH:=none_of s1 hd
 have s12:=s1.trans s2
 subst_eqs
 refine ⟨p,_,rfl,.inl (s12.seq hS),?_⟩
 subst_eqs
 refine ⟨_,_,rfl,?_⟩
 refine ⟨_,_,rfl,?_⟩
 have hM:(m:Int)<=(if (if ((ns.map V.int).length:Int) - k < 60 then ((ns.map V.int).length:Int) - k else 60) > (m:Int) then (if ((ns.map V.int).length:Int) - k < 60 then ((ns.map V.int).length:Int) - k else 60) else (m:Int))/\(if (if ((ns.map V.int).length:Int) - k < 60 then ((ns.map V.int).length:Int) - k else 60) > (m:Int) then (if ((ns.map V.int).length:Int) - k < 60 then ((ns.map V.int).length:Int) - k else 60) else (m:Int))<=60:=by
  split <;> split at*<;> omega
 generalize (if (if ((ns.map V.int).length:Int) - k < 60 then ((ns.map V.int).length:Int) - k else 60) > (m:Int) then (if ((ns.map V.int).length:Int) - k < 60 then ((ns.map V.int).length:Int) - k else 60) else (m:Int))=M at hM ⊢
 refine ⟨M,rfl,by omega,by omega,for_range (fun i σ' J=>∃(v7 v8:Option V) (ds:Ds) (kvs:List (List Key × V)),σ'=[some (.ref p),some (.int k),some (.int (n:Int)),some (.int (m:Int)),some (.int most),some (.ref sl),some (.ref d),v7,v8]/\Same H J/\Same H1 J/\J d=some (.dT kvs)/\DictOf ds kvs/\(∀q∈ds,q.1∈zs.map (·.2))/\ds.length=i/\∀q∈ds,1<=q.2/\q.2<=most) ⟨none,none,[],[],rfl,s12,s2,e2,DictOf.nil,(fun _ m=>absurd m List.not_mem_nil),rfl,(fun _ m=>absurd m List.not_mem_nil)⟩ ?_ ?_⟩
 ·rintro i σ' J hi ⟨v7,v8,ds,kvs,rfl,sJ,sJ1,eD,dk,sub,dl,po⟩
  have my:=fmod_in (0+(i:Int)) (show (0:Int) < (m:Int) by omega)
  obtain ⟨j,hj⟩:∃j:Nat,(0+(i:Int)).fmod (m:Int)=(j:Int):=⟨((0+(i:Int)).fmod (m:Int)).toNat,by omega⟩
  obtain ⟨z,ez⟩:∃z,zs[j]?=some z:=⟨_,List.getElem?_eq_getElem (by omega)⟩
  have zm:=List.mem_of_getElem? ez
  subst_eqs
  refine ⟨(by show (_:Int)≠0;omega),?_⟩
  refine ⟨sl,_,_,_,rfl,rfl,SqL.of (sJ1 _ _ esl),(by rw [hj];exact atI_nat (by rw [List.getElem?_map,ez];rfl)),?_⟩
  have kt:J z.1=some (.tup ((z.2.map Sum.inl:List Key).map kV)):=by rw [kv_map];exact sJ1 _ _ (zok z zm).1
  have lim:=dk.len sub
  rw [List.length_map] at lim
  subst_eqs
  refine ⟨.inr ⟨_,.inl eD⟩,?_⟩
  refine ⟨_,rfl,_,DGet.t eD kt,?_⟩
  rw [old_val dk]
  subst_eqs
  refine ⟨p,ns,k+(0+(i:Int)),rfl,sJ.seq hS,h63,by omega,by omega,fun c c0 c1=>?_⟩
  subst_eqs
  refine ⟨c,most,rfl,sz40 c0 c1,mo1,by omega,fun y y1 y2=>?_⟩
  refine ⟨_,_,rfl,rfl,?_⟩
  refine ⟨_,rfl,_,rfl,d,_,rfl,DPut.t eD kt (small1000 (by omega)),?_⟩
  refine ⟨_,_,ds++[(z.2,y)],_,rfl,same_upd sJ hdH,same_upd sJ1 hd,upd_same,dk.put z.2 y,fun q m=>?_,by rw [List.length_append,dl];rfl,fun q m=>?_⟩
  ·rcases List.mem_append.mp m with m | m
   ·exact sub q m
   ·rw [List.mem_singleton.mp m]
    exact List.mem_map.mpr ⟨z,zm,rfl⟩
  ·rcases List.mem_append.mp m with m | m
   ·exact po q m
   ·rw [List.mem_singleton.mp m]
    exact ⟨y1,y2⟩
 rintro σ' J ⟨v7,v8,ds,kvs,rfl,sJ,sJ1,eD,dk,sub,dl,po⟩
 have pos:Pos ds:=fun q m=>(po q m).1
 have bnd:∀ts,tot ds ts<=64*most:=fun ts=>by
  have a:=tot_most (ts:=ts) po (by omega)
  have b:(ds.length:Int)*most<=64*most:=Int.mul_le_mul_of_nonneg_right (by omega) (by omega)
  omega
 have ne:ds≠[]:=fun z=>by rw [z] at dl;have:M.toNat=0:=dl.symm;omega
 have okp:∀t∈zs.map (·.2),OkT n t:=fun t tm=>by
  obtain ⟨z,zm,rfl⟩:=List.mem_map.mp tm
  exact (zok z zm).2
 have pl:(zs.map (·.2)).length<=12:=by rw [List.length_map];omega
 replace pl:=Nat.le_succ_of_le pl
 have fin:∀(D:Addr) (ms:Ls) (H2:Hp),J D=none->Same J H2->H2 D=some (.lst (vls ms))->GoodL H2 ms->Sheet ds (dsOf ms)->ms.length < 64->Q (.ref D) H2:=fun D ms H2 hD s e g sh _=>q D ms H2 (none_of sJ hD) (sJ.trans s) e g (sh.drawn pos sub okp pl ne bnd)
 have k64:=dk.len sub
 obtain ⟨ks,k1,k2,knd,kmem⟩:=dk.vd.keys
 subst_eqs
 refine ⟨d,kvs,ks,rfl,.inl eD,k1,by omega,fun l2 rs r1 r2 r3 hl2=>?_⟩
 have sl:=same_new hl2 (.lst (rs.map fun q=>V.ref q.1))
 have el:(upd J l2 (.lst (rs.map fun q=>V.ref q.1))) l2=some (.lst (rs.map fun q=>V.ref q.1)):=upd_same
 generalize upd J l2 (.lst (rs.map fun q=>V.ref q.1))=G1 at sl el ⊢
 have rl:rs.length=ks.length:=by
  have:=r2.length_eq
  rw [List.length_map] at this
  exact this
 have ov:∀r∈rs,valV kvs (r.2.map Sum.inl:List Key)=some (.int (oldV kvs r.2)):=fun r m=>by
  obtain ⟨n,e⟩:=(kmem r.2).mp (r2.mem_iff.mp (List.mem_map.mpr ⟨r,m,rfl⟩))
  unfold oldV
  rw [e]
 refine ⟨l2,rfl,⟨_,SqL.of el⟩,?_⟩
 refine comp_list (xs:=rs.map fun q=>V.ref q.1) (by rw [List.length_map];exact small63 (by omega)) (fun D i ys H2=>∃ms:Ls,ys=vls ms/\ms.length=i/\H2 D=some (.lst ys)/\Same G1 H2/\GoodL H2 ms/\dsOf ms=(rs.take i).map fun r=>(r.2,oldV kvs r.2)) (fun D hD=>⟨[],rfl,rfl,upd_same,same_new hD _,(fun _ m=>absurd m List.not_mem_nil),rfl⟩) (fun D i ys H2 hq_=>by obtain ⟨ms,f1,f2,f3,_⟩:=hq_;exact ⟨f3,by rw [f1,vls_len,f2];exact Nat.le_refl _⟩) (fun D i ys H2 hD hq_=>by obtain ⟨ms,_,_,_,f4,_⟩:=hq_;exact SqL.of (f4 _ _ el)) ?_ ?_
 ·rintro D i x ys H2 K1 K2 hD hx ⟨ms,rfl,f2,f3,f4,f5,f6⟩ kk1 kk2
  rw [List.getElem?_map] at hx
  obtain ⟨r,er,rfl⟩:=Option.map_eq_some_iff.mp hx
  have rm:=List.mem_of_getElem? er
  have et:rs.take (i+1)=rs.take i++[r]:=by rw [List.take_succ,er];rfl
  have sH:=sl.trans f4
  have ek:=sH _ _ (r1 r rm)
  have dg:=DGet.t (k:=(r.2.map Sum.inl:List Key)) (sH _ _ eD) (by rw [kv_map];exact ek)
  rw [ov r rm] at dg
  refine yes (ifT rfl ?_)
  refine ⟨_,rfl,_,rfl,_,rfl,d,_,rfl,dg,(by show 2<=sizeLine;decide),fun t ht=>?_⟩
  have s6:=same_new ht (.tup [V.ref r.1,V.int (oldV kvs r.2)])
  refine kk1 _ _ (s6 _ _ f3) ⟨ms++[(t,r.1,r.2,oldV kvs r.2)],by rw [vls_append];rfl,by rw [List.length_append,f2];rfl,upd_same,same_upd (f4.trans s6) hD,?_,?_⟩
  ·refine GoodL.upd (s6 _ _ f3) ((f5.same s6).append fun q m=>?_)
   rw [List.mem_singleton.mp m]
   exact ⟨upd_same,s6 _ _ ek⟩
  ·rw [dsOf_append,f6,et,List.map_append]
   rfl
 ·rintro D ys H2 hD ⟨ms,rfl,f2,f3,f4,f5,f6⟩
  rw [List.length_map] at f2 f6
  rw [List.take_length] at f6
  have rnd:(rs.map (·.2)).Nodup:=r2.nodup_iff.mpr knd
  have pv:∀(ts:List Int) (n:Int),valV kvs (ts.map Sum.inl)=some (.int n)->0 < n:=fun ts n e=>by
   rw [dk.val] at e
   by_cases c:ts∈ds.map (·.1)
   ·rw [if_pos c] at e
    injection e with e
    injection e with e
    rw [<- e]
    exact tot_in pos c
   ·rw [if_neg c] at e
    cases e
  refine fin D ms H2 (none_of sl hD) (sl.trans f4) f3 f5 (dk.sheet pos ?_ (fun ts n=>?_)) (by omega)
  ·rw [f6,List.pairwise_map]
   have nd2:rs.Pairwise (fun x y=>x.2≠y.2):=List.pairwise_map.mp rnd
   exact (r3.and nd2).imp fun ⟨h1,h2⟩=>lex_tot h1 h2
  ·rw [f6]
   constructor
   ·intro m
    obtain ⟨r,rm,e⟩:=List.mem_map.mp m
    injection e with e1 e2
    subst e1
    subst e2
    exact ⟨ov r rm,pv _ _ (ov r rm)⟩
   ·rintro ⟨e,n0⟩
    have tk:ts∈ks:=(kmem ts).mpr ⟨n,e⟩
    obtain ⟨r,rm,rfl⟩:=List.mem_map.mp (r2.mem_iff.mpr tk)
    have o:=ov r rm
    rw [e] at o
    injection o with o
    injection o with o
    exact List.mem_map.mpr ⟨r,rm,by rw [<- o]⟩
theorem ok_law_other (T:Tx K mg ad):FnOk P w K mg base CX0 3 ad.f_law_other ad.d_law_other ["_law_script","_law_sheet_here","_law_hands"] (spOther44 K):=by
 refine T.F_law_other.ok sc_law_other (fun vs H Q E h=>?_) (fun cdv A outer s H vs Q E hr h=>?_)
 ·obtain ⟨p,l,ns,ls,h,rfl,_⟩:=h
  rfl
 obtain ⟨p,l,ns,ls,h,rfl,hS,h63,hl,gl,nd,ok,l13,h1,h12,q⟩:=h
 refine ⟨_,(@pss_cons _ _ _ _ _ (@ps_set _ _ (3) _ _ _ _ sc_law_other.nd rfl (Or.inr rfl) pe_dnewT (by rfl) (by first | exact .inl rfl | exact .inr rfl | assumption)) (@pss_cons _ _ _ _ _ (ps_for PassesOwn.never rfl (pi_list (pv 1)) (pg_tup rfl (pgs_cons (pg_name (i:=4) sc_law_other.nd rfl (Or.inl rfl)) (pgs_cons (pg_name (i:=5) sc_law_other.nd rfl (Or.inl rfl)) pgs_nil))) (@pss_one _ _ _ (ps_dput (u1 hr.units) (pv 3) (pv 4) (pv 5) rfl))) (@pss_cons _ _ _ _ _ (ps_for PassesOwn.never rfl (pi_range1 rfl T.z_range (@pa_cons _ _ _ _ _ (@pe_op _ _ _ _ _ _ _ _ op_modN (@pe_call _ _ _ _ _ _ _ _ _ _ _ _ _ _ _ _ (ok_law_cell T) (hr.mono (by decide)) rfl T.m_law_cell T.F_law_cell.kp T.b_law_cell .nil pass0 (@pa_cons _ _ _ _ _ (pv 0) (@pa_cons _ _ _ _ _ pe_int pa_nil (by rfl)) (by rfl)) (by decide) (by rfl) (by rfl)) pe_int) pa_nil (by rfl))) (pg_name (i:=6) sc_law_other.nd rfl (Or.inl rfl)) (@pss_cons _ _ _ _ _ (@ps_set _ _ (7) _ _ _ _ sc_law_other.nd rfl (Or.inl rfl) (@pe_call _ _ _ _ _ _ _ _ _ _ _ _ _ _ _ _ (ok_law_mixed T) (hr.mono (by decide)) rfl T.m_law_mixed T.F_law_mixed.kp T.b_law_mixed .nil pass0 (@pa_cons _ _ _ _ _ (@pe_call _ _ _ _ _ _ _ _ _ _ _ _ _ _ _ _ (ok_law_cell T) (hr.mono (by decide)) rfl T.m_law_cell T.F_law_cell.kp T.b_law_cell .nil pass0 (@pa_cons _ _ _ _ _ (pv 0) (@pa_cons _ _ _ _ _ pe_int pa_nil (by rfl)) (by rfl)) (by decide) (by rfl) (by rfl)) (@pa_cons _ _ _ _ _ (@pe_op _ _ _ _ _ _ _ _ op_add pe_int (pv 6)) pa_nil (by rfl)) (by rfl)) (by decide) (by rfl) (by rfl)) (by rfl) (by first | exact .inl rfl | exact .inr rfl | assumption)) (@pss_cons _ _ _ _ _ (ps_setC (j:=8) (fsc:=defScope s_law_other) (N:=["_law_script","_law_sheet_here","_law_hands","_law_many","_law_slip_here","_law_number_here","_law_k","_law_cell_here","_law_some","_law_moved","_law_put"]) (Nc:=["_law_script","_law_sheet_here","_law_hands","_law_many",".s4","_law_number_here","_law_k","_law_cell_here","_law_some","_law_moved","_law_put","_law_slip_here"]) rfl rfl ⟨rfl,by decide +kernel,by decide +kernel,rfl,by decide +kernel,rfl,by decide +kernel,rfl,by decide +kernel⟩ rfl sc_law_other.nd rfl rfl (pi_list (@pe_callB _ _ _ _ _ _ _ _ _ (call_sortedDT rfl hr.units) (by rfl) T.z_sorted PyProof.Rows.boot_sorted (@pa_cons _ _ _ _ _ (pv 3) pa_nil (by rfl)) (by decide) (by decide) (by rfl) (by rfl))) (fun _ _ _ _=>(pif_one (@pt_cmpR _ _ _ _ _ _ _ _ op_gt (pe_dget (u1 hr.units) (pv 3) (pv 11) (fun _ _=>rfl)) pe_int (nomark _)))) (fun _ _ _ _=>(pv 11)) rfl) (@pss_one _ _ _ (@ps_if _ _ _ _ _ _ _ _ (@pt_cmpR _ _ _ _ _ _ _ _ (op_neD (K:=K) hr.units) (pv 8) (@pe_lst _ _ _ _ pa_nil) (nomark _)) (@pss_cons _ _ _ _ _ (@ps_set _ _ (4) _ _ _ _ sc_law_other.nd rfl (Or.inl rfl) (@pe_ix _ _ _ _ _ _ _ ix_list (pv 8) (@pe_op _ _ _ _ _ _ _ _ op_modN (pv 7) (@pe_callB _ _ _ _ _ _ _ _ _ call_len_seq (by rfl) T.z_len PySem.boot_len (@pa_cons _ _ _ _ _ (pv 8) pa_nil (by rfl)) (by decide) (by decide) (by rfl) (by rfl))) (fun _ _=>rfl)) (by rfl) (by first | exact .inl rfl | exact .inr rfl | assumption)) (@pss_cons _ _ _ _ _ (@ps_set _ _ (9) _ _ _ _ sc_law_other.nd rfl (Or.inl rfl) (@pe_op _ _ _ _ _ _ _ _ op_add pe_int (@pe_op _ _ _ _ _ _ _ _ op_modN (@pe_op _ _ _ _ _ _ _ _ op_modN (@pe_op _ _ _ _ _ _ _ _ op_fdivB (pv 7) pe_int) (@pe_ix _ _ _ _ _ _ _ ix_list (@pe_lst _ _ _ _ (@pa_cons _ _ _ _ _ pe_int (@pa_cons _ _ _ _ _ (@pe_op _ _ _ _ _ _ _ _ op_pow pe_int pe_int) pa_nil (by rfl)) (by rfl))) (@pe_op _ _ _ _ _ _ _ _ op_modN (@pe_op _ _ _ _ _ _ _ _ op_fdivB (pv 7) pe_int) pe_int) (fun _ _=>rfl))) (pe_dget (u1 hr.units) (pv 3) (pv 4) (fun _ _=>rfl)))) (by rfl) (by first | exact .inl rfl | exact .inr rfl | assumption)) (@pss_cons _ _ _ _ _ (@ps_set _ _ (10) _ _ _ _ sc_law_other.nd rfl (Or.inl rfl) (@pe_call _ _ _ _ _ _ _ _ _ _ _ _ _ _ _ _ (ok_law_slip T) (hr.mono (by decide)) rfl T.m_law_slip T.F_law_slip.kp T.b_law_slip .nil pass0 (@pa_cons _ _ _ _ _ (@pe_op _ _ _ _ _ _ _ _ op_fdivB (pv 7) (@pe_op _ _ _ _ _ _ _ _ op_pow pe_int pe_int)) (@pa_cons _ _ _ _ _ (pv 2) pa_nil (by rfl)) (by rfl)) (by decide) (by rfl) (by rfl)) (by rfl) (by first | exact .inl rfl | exact .inr rfl | assumption)) (@pss_cons _ _ _ _ _ (ps_dput (u1 hr.units) (pv 3) (pv 4) (@pe_op _ _ _ _ _ _ _ _ op_sub (pe_dget (u1 hr.units) (pv 3) (pv 4) (fun _ _=>rfl)) (pv 9)) rfl) (@pss_one _ _ _ (ps_dput (u1 hr.units) (pv 3) (pv 10) (@pe_op _ _ _ _ _ _ _ _ op_add (pe_dget2 (u1 hr.units) (pv 3) (pv 10) pe_int ⟨rfl,rfl,rfl,rfl⟩) (pv 9)) rfl)))))) pss_nil))))) (@pss_one _ _ _ (@ps_ret _ _ _ _ (pe_comp (fsc:=defScope s_law_other) (N:=["_law_script","_law_sheet_here","_law_hands","_law_many","_law_slip_here","_law_number_here","_law_k","_law_cell_here","_law_some","_law_moved","_law_put"]) (Nc:=["_law_script","_law_sheet_here","_law_hands","_law_many",".s4","_law_number_here","_law_k","_law_cell_here","_law_some","_law_moved","_law_put","_law_slip_here"]) rfl rfl ⟨rfl,by decide +kernel,by decide +kernel,rfl,by decide +kernel,rfl,by decide +kernel,rfl,by decide +kernel⟩ rfl (pi_list (@pe_callB _ _ _ _ _ _ _ _ _ (call_sortedDT rfl hr.units) (by rfl) T.z_sorted PyProof.Rows.boot_sorted (@pa_cons _ _ _ _ _ (pv 3) pa_nil (by rfl)) (by decide) (by decide) (by rfl) (by rfl))) (fun _ _ _ _=>(pif_one (@pt_cmpR _ _ _ _ _ _ _ _ op_gt (pe_dget (u1 hr.units) (pv 3) (pv 11) (fun _ _=>rfl)) pe_int (nomark _)))) (fun _ _ _ _=>(@pe_tup _ _ _ _ _ (@pa_cons _ _ _ _ _ (pv 11) (@pa_cons _ _ _ _ _ (pe_dget (u1 hr.units) (pv 3) (pv 11) (fun _ _=>rfl)) pa_nil (by rfl)) (by rfl)))))))))),?_⟩
 have vl:=vls_len ls
 have dsl:(dsOf ls).length=ls.length:=by unfold dsOf;rw [List.length_map]
 subst_eqs
 intro d hd
 have s1:=same_new hd (.dT [])
 have e1:(upd H d (.dT [])) d=some (.dT []):=upd_same
 generalize upd H d (.dT [])=H1 at s1 e1 ⊢
 have hl1:=s1 _ _ hl
 subst_eqs
 refine ⟨⟨_,SqL.of hl1⟩,for_list (xs:=vls ls) (fun i σ' J=>∃(v4 v5:Option V) (kvs:List (List Key × V)),σ'=[some (.ref p),some (.ref l),some (.int (h:Int)),some (.ref d),v4,v5,none,none,none,none,none]/\Same H J/\J d=some (.dT kvs)/\DictOf ((dsOf ls).take i) kvs) ⟨none,none,[],rfl,s1,e1,DictOf.nil⟩ (fun i σ' J _ hq_=>by obtain ⟨_,_,_,_,e,_⟩:=hq_;exact SqL.of (e _ _ hl)) ?_ ?_⟩
 ·rintro i w σ' J hw ⟨v3,v4,kvs,rfl,sJ,eD,dk⟩
  obtain ⟨f,hf,rfl,fm,et⟩:=vls_get hw
  obtain ⟨g1,g2⟩:=gl.same sJ f fm
  have lim:kvs.length<=60:=by
   have:=dk.len (p:=((dsOf ls).take i).map (·.1)) fun q m=>List.mem_map.mpr ⟨q,m,rfl⟩
   rw [List.length_map,List.length_take] at this
   have il:=(List.getElem?_eq_some_iff.mp hf).1
   omega
  have ed:(dsOf ls).take (i+1)=(dsOf ls).take i++[(f.2.2.1,f.2.2.2)]:=by
   rw [List.take_succ]
   unfold dsOf
   rw [List.getElem?_map,hf]
   rfl
  have nk:f.2.2.1 ∉ ((dsOf ls).take i).map (·.1):=by
   have hn:=nd.sublist ((List.take_sublist (i+1) (dsOf ls)).map (·.1))
   rw [ed,List.map_append,List.nodup_append] at hn
   exact fun m=>hn.2.2 _ m _ (List.mem_singleton.mpr rfl) rfl
  refine ⟨f.1,_,rfl,SqT.of g1,rfl,_,_,rfl,_,_,rfl,rfl,?_⟩
  subst_eqs
  have kt:J f.2.1=some (.tup ((f.2.2.1.map Sum.inl:List Key).map kV)):=by rw [kv_map];exact g2
  refine ⟨d,_,rfl,DPut.t eD kt (small1000 (by omega)),?_⟩
  have pt:=dk.put f.2.2.1 f.2.2.2
  rw [tot_out nk,Int.zero_add,<- ed] at pt
  exact ⟨_,_,_,rfl,same_upd sJ hd,upd_same,pt⟩
 rintro σ' J ⟨v3,v4,kvs,rfl,sJ,eD,dk⟩
 rw [vl,List.take_of_length_le (show (dsOf ls).length<=ls.length by omega)] at dk
 subst_eqs
 refine ⟨p,ns,3,rfl,sJ.seq hS,h63,by decide,by decide,fun c c0 c1=>?_⟩
 have m5:=fmod_in c (show (0:Int) < 5 by decide)
 subst_eqs
 refine ⟨by omega,by omega,for_range (fun i σ' J=>∃(v4 v5 v6 v7 v8 v9 v10:Option V) (fs:Ds) (kvs:List (List Key × V)),σ'=[some (.ref p),some (.ref l),some (.int (h:Int)),some (.ref d),v4,v5,v6,v7,v8,v9,v10]/\Same H J/\J d=some (.dT kvs)/\DictOf (dsOf ls++fs) kvs/\fs.length<=2*i/\(∀q∈fs,OkT h q.1)/\nsumQ fs=0/\∀ts,0<=tot (dsOf ls++fs) ts) ⟨_,_,_,_,_,_,_,[],kvs,rfl,sJ,eD,by rw [List.append_nil];exact dk,Nat.zero_le _,(fun _ m=>absurd m List.not_mem_nil),rfl,fun ts=>?_⟩ ?_ ?_⟩
 ·rw [List.append_nil]
  by_cases c:ts∈(dsOf ls).map (·.1)
  ·obtain ⟨q',qm,rfl⟩:=List.mem_map.mp c
   rw [tot_nd nd qm]
   have:=(ok q' qm).2
   omega
  ·rw [tot_out c]
   exact Int.le_refl _
 ·clear sJ eD dk
  rintro i σ' J hi ⟨v4,v5,v6,v7,v8,v9,v10,fs,kvs,rfl,sJ,eD,dk,fl,fok,f0,nn⟩
  have i5:i < 5:=by omega
  have lim:kvs.length<=21:=by
   have:=dk.len (p:=(dsOf ls++fs).map (·.1)) fun q m=>List.mem_map.mpr ⟨q,m,rfl⟩
   rw [List.length_map,List.length_append] at this
   omega
  subst_eqs
  refine ⟨p,ns,3,rfl,sJ.seq hS,h63,by decide,by decide,fun c' c0' c1'=>?_⟩
  subst_eqs
  refine ⟨c',_,rfl,sz40 c0' c1',by omega,by omega,fun z z0 z1=>?_⟩
  have szz:Sz 200 z:=sz_of (by omega) (Int.lt_trans z1 (by decide))
  obtain ⟨ks,k1,k2,knd,kmem⟩:=dk.vd.keys
  subst_eqs
  refine ⟨d,kvs,ks,rfl,.inl eD,k1,by omega,fun sl rs r1 r2 r3 hsl=>?_⟩
  have t1:=same_new hsl (.lst (rs.map fun q=>V.ref q.1))
  have el:(upd J sl (.lst (rs.map fun q=>V.ref q.1))) sl=some (.lst (rs.map fun q=>V.ref q.1)):=upd_same
  generalize upd J sl (.lst (rs.map fun q=>V.ref q.1))=J1 at t1 el ⊢
  have rl:rs.length=ks.length:=by
   have:=r2.length_eq
   rw [List.length_map] at this
   exact this
  have kl:ks.length<=21:=by omega
  have ov:∀r∈rs,valV kvs (r.2.map Sum.inl:List Key)=some (.int (tot (dsOf ls++fs) r.2)):=fun r m=>by
   obtain ⟨n,e⟩:=(kmem r.2).mp (r2.mem_iff.mp (List.mem_map.mpr ⟨r,m,rfl⟩))
   rw [dk.val] at e ⊢
   split at e
   ·rename_i c;rw [if_pos c]
   ·cases e
  have okr:∀r∈rs,OkT h r.2:=fun r m=>by
   have e:=ov r m
   rw [dk.val] at e
   split at e
   ·rename_i c
    rw [List.map_append] at c
    rcases List.mem_append.mp c with c | c
    ·obtain ⟨q',qm,e⟩:=List.mem_map.mp c
     rw [<- e];exact (ok q' qm).1
    ·obtain ⟨q',qm,e⟩:=List.mem_map.mp c
     rw [<- e];exact fok q' qm
   ·cases e
  have eD1:=t1 _ _ eD
  refine ⟨sl,rfl,⟨_,SqL.of el⟩,?_⟩
  refine comp_list (xs:=rs.map fun q=>V.ref q.1) (by rw [List.length_map];exact small63 (by omega)) (fun D i ys G=>∃zs:List (Addr × List Int),ys=zs.map (fun q=>V.ref q.1)/\zs.length<=i/\G D=some (.lst ys)/\Same J1 G/\∀z∈zs,z∈rs/\0 < tot (dsOf ls++fs) z.2) (fun D hD=>⟨[],rfl,Nat.le_refl _,upd_same,same_new hD _,(fun _ m=>absurd m List.not_mem_nil)⟩) (fun D i ys G hq=>by
   obtain ⟨zs,f1,f2,f3,_⟩:=hq
   exact ⟨f3,by rw [f1,List.length_map];exact f2⟩) (fun D i ys G hD hq=>by
   obtain ⟨_,_,_,_,f4,_⟩:=hq
   exact SqL.of (f4 _ _ el)) ?_ ?_
  ·rintro D i x ys G K1 K2 hD hx ⟨zs,rfl,f2,f3,f4,f5⟩ kk1 kk2
   obtain ⟨r,er,rfl⟩:∃r,rs[i]?=some r/\x=.ref r.1:=by
    rw [List.getElem?_map] at hx
    obtain ⟨r,h1,h2⟩:=Option.map_eq_some_iff.mp hx
    exact ⟨r,h1,h2.symm⟩
   have rm:=List.mem_of_getElem? er
   have ek:=(t1.trans f4) _ _ (r1 r rm)
   have dg:=DGet.t (k:=(r.2.map Sum.inl:List Key)) (f4 _ _ eD1) (by rw [kv_map];exact ek)
   rw [ov r rm] at dg
   refine ⟨_,rfl,_,rfl,d,_,rfl,dg,?_⟩
   subst_eqs
   by_cases c:0 < tot (dsOf ls++fs) r.2
   ·refine ifT (decide_eq_true c) ?_
    refine ⟨_,rfl,?_⟩
    refine kk1 _ _ f3 ⟨zs++[r],by rw [List.map_append];rfl,by rw [List.length_append];exact Nat.succ_le_succ f2,upd_same,same_upd f4 hD,fun z m=>?_⟩
    rcases List.mem_append.mp m with m | m
    ·exact f5 z m
    ·rw [List.mem_singleton.mp m];exact ⟨rm,c⟩
   ·refine ifF (decide_eq_false c) ?_
    exact kk2 _ ⟨zs,rfl,Nat.le_succ_of_le f2,f3,f4,f5⟩
  rintro D ys J2 hD ⟨zs,rfl,f2,f3,t2,f5⟩
  have t12:=t1.trans t2
  have rz:∀z∈zs,J2 z.1=some (.tup (z.2.map V.int)):=fun z m=>t12 _ _ (r1 z (f5 z m).1)
  rw [List.length_map] at f2
  subst_eqs
  refine ⟨(by show 0<=sizeLine;decide),fun em hem=>?_⟩
  have t3:=same_new hem (.lst [])
  have eem:(upd J2 em (.lst [])) em=some (.lst []):=upd_same
  generalize upd J2 em (.lst [])=J3 at t3 eem ⊢
  refine ⟨.list (zs.map fun z=>.tuple (z.2.map .int)),.list [],.lst (SqL.of (t3 _ _ f3)) (reps_map fun z m=>.tup (SqT.of (t3 _ _ (rz z m))) (.ints _)),.lst (SqL.of eem) .nil,(lay_list (lay_map (fun z=>lay_tup (lay_ints 0 _)) _)).shaped (by decide),(lay_list (k:=0) (xs:=[]) (fun _ m=>absurd m List.not_mem_nil)).shaped (by decide),?_⟩
  have t13:=t12.trans t3
  have s3:=sJ.trans t13
  have eD3:=t13 _ _ eD
  cases zs with
  | nil =>
    refine ⟨_,rfl,?_⟩
    refine ifF rfl ?_
    exact ⟨_,_,_,_,_,_,_,fs,kvs,rfl,s3,eD3,dk,by omega,fok,f0,nn⟩
  | cons zh zr =>
    have f3':=t3 _ _ f3
    generalize hzs:zh :: zr=zs at *
    have zl:1<=zs.length:=by rw [<- hzs];exact Nat.succ_le_succ (Nat.zero_le _)
    refine ⟨_,rfl,?_⟩
    refine ifT (by rw [<- hzs];rfl) ?_
    have mz:=fmod_in z (show (0:Int) < (((zs.map fun q=>V.ref q.1).length:Nat):Int) by rw [List.length_map];omega)
    subst_eqs
    refine ⟨(by show (_:Int)≠0;rw [List.length_map];omega),?_⟩
    dsimp only
    rw [List.length_map] at mz ⊢
    obtain ⟨j,hj,jl⟩:∃j:Nat,z.fmod (zs.length:Int)=(j:Int)/\j < zs.length:=⟨(z.fmod (zs.length:Int)).toNat,by omega,by omega⟩
    obtain ⟨y,hy⟩:∃y,zs[j]?=some y:=⟨_,List.getElem?_eq_getElem jl⟩
    have ym:=List.mem_of_getElem? hy
    obtain ⟨yr,yp⟩:=f5 y ym
    refine ⟨D,_,_,_,rfl,rfl,SqL.of f3',(by rw [hj];exact atI_nat (by rw [List.getElem?_map,hy];rfl)),?_⟩
    have m2:=fmod_in (z.fdiv 10) (show (0:Int) < 2 by decide)
    subst_eqs
    refine ⟨(by show 2<=sizeLine;decide),fun b hb=>?_⟩
    have t4:=same_new hb (.lst [V.int 2,V.int (10 ^ (9:Int).toNat)])
    have e4:(upd J3 b (.lst [V.int 2,V.int (10 ^ (9:Int).toNat)])) b=some (.lst [V.int 2,V.int (10 ^ (9:Int).toNat)]):=upd_same
    generalize upd J3 b (.lst [V.int 2,V.int (10 ^ (9:Int).toNat)])=J4 at t4 e4 ⊢
    subst_eqs
    obtain ⟨bs,hbs,bs1,_⟩:=pick2 (x0:=2) (x1:=10 ^ (9:Int).toNat) (fun v=>1<=v/\v<=10 ^ 9) _ m2.1 m2.2 (by decide) (by decide)
    refine ⟨b,_,_,_,rfl,rfl,SqL.of e4,hbs,?_⟩
    subst_eqs
    refine ⟨(by show (_:Int)≠0;omega),?_⟩
    have eD4:=t4 _ _ eD3
    have ky4:J4 y.1=some (.tup ((y.2.map Sum.inl:List Key).map kV)):=by rw [kv_map];exact (t3.trans t4) _ _ (rz y ym)
    have dg4:=DGet.t eD4 ky4
    rw [ov y yr] at dg4
    refine ⟨_,rfl,_,rfl,d,_,rfl,dg4,?_⟩
    subst_eqs
    refine ⟨(by show (_:Int)≠0;omega),?_⟩
    dsimp only
    have mm:=fmod_in ((z.fdiv 100).fmod bs) yp
    generalize hN:tot (dsOf ls++fs) y.2=N at mm yp dg4 ⊢
    generalize ((z.fdiv 100).fmod bs).fmod N=mv' at mm ⊢
    subst_eqs
    refine ⟨z.fdiv (10 ^ (12:Int).toNat),h,rfl,?_,h1,h12,fun t ts J5 ht t5 et ok5=>?_⟩
    ·have fd:0<=z.fdiv (10 ^ (12:Int).toNat)/\z.fdiv (10 ^ (12:Int).toNat)<=z:=by
      rw [Int.fdiv_eq_ediv_of_nonneg _ (by decide)]
      exact ⟨Int.ediv_nonneg z0 (by decide),Int.ediv_le_self _ z0⟩
     exact sz_of (by omega) (Int.lt_of_le_of_lt fd.2 (Int.lt_trans z1 (by decide)))
    have eD5:=t5 _ _ eD4
    have ky5:=t5 _ _ ky4
    have dg5:=DGet.t eD5 ky5
    rw [ov y yr,hN] at dg5
    subst_eqs
    refine ⟨d,_,rfl,dg5,?_⟩
    subst_eqs
    refine ⟨d,_,rfl,DPut.t eD5 ky5 (small1000 (by omega)),?_⟩
    have pt:=dk.put y.2 (-(1+mv'))
    rw [hN,<- Int.sub_eq_add_neg,List.append_assoc] at pt
    have hdJ:H d=none:=hd
    have s6:=same_upd (o:=.dT (putK kvs (y.2.map Sum.inl) (V.int (N - (1+mv'))))) (s3.trans (t4.trans t5)) hd
    have eD6:(upd J5 d (.dT (putK kvs (y.2.map Sum.inl) (V.int (N - (1+mv')))))) d=some (.dT (putK kvs (y.2.map Sum.inl) (V.int (N - (1+mv'))))):=upd_same
    have kt:(upd J5 d (.dT (putK kvs (y.2.map Sum.inl) (V.int (N - (1+mv')))))) t=some (.tup ((ts.map Sum.inl:List Key).map kV)):=by
     rw [kv_map,upd_ne (fun z=>by rw [z,eD5] at et;cases et)]
     exact et
    have lim6:(putK kvs (y.2.map Sum.inl) (V.int (N - (1+mv')))).length<=22:=by
     have:=pt.len (p:=(dsOf ls++(fs++[(y.2,-(1+mv'))])).map (·.1)) fun q m=>List.mem_map.mpr ⟨q,m,rfl⟩
     rw [List.length_map,List.length_append,List.length_append] at this
     have e1:[(y.2,-(1+mv'))].length=1:=rfl
     omega
    generalize upd J5 d (.dT (putK kvs (y.2.map Sum.inl) (V.int (N - (1+mv')))))=J6 at s6 eD6 kt ⊢
    subst_eqs
    refine ⟨.inr ⟨_,.inl eD6⟩,?_⟩
    refine ⟨_,rfl,_,DGet.t eD6 kt,?_⟩
    rw [old_val pt]
    subst_eqs
    refine ⟨d,_,rfl,DPut.t eD6 kt (small1000 (by omega)),?_⟩
    have pt2:=pt.put ts (1+mv')
    rw [List.append_assoc] at pt2
    refine ⟨_,_,_,_,_,_,_,fs++[(y.2,-(1+mv'))]++[(ts,1+mv')],_,rfl,same_upd s6 hd,upd_same,pt2,?_,fun q m=>?_,?_,fun us=>?_⟩
    ·rw [List.length_append,List.length_append]
     show fs.length+1+1<=_
     omega
    ·rcases List.mem_append.mp m with m | m
     ·rcases List.mem_append.mp m with m | m
      ·exact fok q m
      ·rw [List.mem_singleton.mp m];exact okr y yr
     ·rw [List.mem_singleton.mp m];exact ok5
    ·rw [nsum_append,nsum_append,f0]
     show (0:Int)+(-(1+mv')+0)+((1+mv')+0)=0
     omega
    ·rw [<- List.append_assoc,<- List.append_assoc,tot_snoc,tot_snoc]
     have a:=nn us
     by_cases c:y.2=us
     ·rw [if_pos c]
      rw [<- c,hN] at a ⊢
      split <;> omega
     ·rw [if_neg c]
      split <;> omega
 clear sJ eD dk
 rintro σ' J ⟨v4,v5,v6,v7,v8,v9,v10,fs,kvs,rfl,sJ,eD,dk,fl,fok,f0,nn⟩
 have sub2:∀q∈dsOf ls++fs,q.1∈(dsOf ls++fs).map (·.1):=fun q m=>List.mem_map.mpr ⟨q,m,rfl⟩
 have k64:=dk.len sub2
 rw [List.length_map,List.length_append] at k64
 have ok2:∀k∈(dsOf ls++fs).map (·.1),OkT h k:=fun k m=>by
  obtain ⟨q',qm,rfl⟩:=List.mem_map.mp m
  rcases List.mem_append.mp qm with m | m
  ·exact (ok q' m).1
  ·exact fok q' m
 have fin:∀(D:Addr) (os:Ls) (H2:Hp),J D=none->Same J H2->H2 D=some (.lst (vls os))->GoodL H2 os->(dsOf os).Pairwise (fun x y=>HT.lexLt x.1 y.1=true)->(∀ts n,(ts,n)∈dsOf os↔valV kvs (ts.map Sum.inl)=some (.int n)/\0 < n)->os.length < 64->Q (.ref D) H2:=fun D os H2 hD s e g srt mem _=>by
  have sh:=dk.sheetN srt mem
  have ll:=sheet_len sh sub2
  rw [List.length_map,List.length_append] at ll
  have ol:(dsOf os).length=os.length:=by unfold dsOf;rw [List.length_map]
  refine q D os H2 (none_of sJ hD) (sJ.trans s) e g (srt_nd srt) (fun q m=>⟨ok2 _ (sheet_key sh q m),?_⟩) ?_ (by omega)
  ·have:=((sh.mem q.1 q.2).mp m).2
   omega
  ·rw [nsum_sheet sh nn,nsum_append,f0,Int.add_zero]
 obtain ⟨ks,k1,k2,knd,kmem⟩:=dk.vd.keys
 subst_eqs
 refine ⟨d,kvs,ks,rfl,.inl eD,k1,by omega,fun l rs r1 r2 r3 hl=>?_⟩
 have sl:=same_new hl (.lst (rs.map fun q=>V.ref q.1))
 have el:(upd J l (.lst (rs.map fun q=>V.ref q.1))) l=some (.lst (rs.map fun q=>V.ref q.1)):=upd_same
 generalize upd J l (.lst (rs.map fun q=>V.ref q.1))=H1 at sl el ⊢
 have rl:rs.length=ks.length:=by
  have:=r2.length_eq
  rw [List.length_map] at this
  exact this
 have ov:∀r∈rs,valV kvs (r.2.map Sum.inl:List Key)=some (.int (oldV kvs r.2)):=fun r m=>by
  obtain ⟨n,e⟩:=(kmem r.2).mp (r2.mem_iff.mp (List.mem_map.mpr ⟨r,m,rfl⟩))
  unfold oldV
  rw [e]
 refine ⟨l,rfl,⟨_,SqL.of el⟩,?_⟩
 refine comp_list (xs:=rs.map fun q=>V.ref q.1) (by rw [List.length_map];exact small63 (by omega)) (fun D i ys H2=>∃ls:Ls,ys=vls ls/\ls.length<=i/\H2 D=some (.lst ys)/\Same H1 H2/\GoodL H2 ls/\dsOf ls=((rs.take i).filter fun r=>decide (0 < oldV kvs r.2)).map fun r=>(r.2,oldV kvs r.2)) (fun D hD=>⟨[],rfl,Nat.le_refl _,upd_same,same_new hD _,(fun _ m=>absurd m List.not_mem_nil),rfl⟩) (fun D i ys H2 hq_=>by obtain ⟨ls,f1,f2,f3,_⟩:=hq_;exact ⟨f3,by rw [f1,vls_len];exact f2⟩) (fun D i ys H2 hD hq_=>by obtain ⟨ls,_,_,_,f4,_⟩:=hq_;exact SqL.of (f4 _ _ el)) ?_ ?_
 ·rintro D i x ys H2 K1 K2 hD hx ⟨ls,rfl,f2,f3,f4,f5,f6⟩ kk1 kk2
  rw [List.getElem?_map] at hx
  cases er:rs[i]? with
  | none=>rw [er] at hx;cases hx
  | some r =>
    rw [er] at hx
    cases Option.some.inj hx
    have rm:=List.mem_of_getElem? er
    have et:rs.take (i+1)=rs.take i++[r]:=by rw [List.take_succ,er];rfl
    have sH:=sl.trans f4
    have ek:=sH _ _ (r1 r rm)
    have dg:=DGet.t (k:=(r.2.map Sum.inl:List Key)) (sH _ _ eD) (by rw [kv_map];exact ek)
    rw [ov r rm] at dg
    refine ⟨_,rfl,_,rfl,d,_,rfl,dg,?_⟩
    subst_eqs
    by_cases c:0 < oldV kvs r.2
    ·refine ifT (decide_eq_true c) ?_
     refine ⟨_,rfl,_,rfl,_,rfl,d,_,rfl,dg,(by show 2<=sizeLine;decide),fun t ht=>?_⟩
     have s6:=same_new ht (.tup [V.ref r.1,V.int (oldV kvs r.2)])
     refine kk1 _ _ (s6 _ _ f3) ⟨ls++[(t,r.1,r.2,oldV kvs r.2)],by rw [vls_append];rfl,by rw [List.length_append];exact Nat.succ_le_succ f2,upd_same,same_upd (f4.trans s6) hD,?_,?_⟩
     ·refine GoodL.upd (s6 _ _ f3) ((f5.same s6).append fun q m=>?_)
      rw [List.mem_singleton.mp m]
      exact ⟨upd_same,s6 _ _ ek⟩
     ·rw [dsOf_append,f6,et,List.filter_append,List.map_append]
      simp [c,dsOf]
    ·refine ifF (decide_eq_false c) ?_
     refine kk2 _ ⟨ls,rfl,Nat.le_succ_of_le f2,f3,f4,f5,?_⟩
     rw [f6,et,List.filter_append,List.map_append]
     simp [c]
 ·rintro D ys H2 hD ⟨ls,rfl,f2,f3,f4,f5,f6⟩
  rw [List.length_map] at f2
  rw [List.length_map,List.take_of_length_le (Nat.le_refl _)] at f6
  have rnd:(rs.map (·.2)).Nodup:=r2.nodup_iff.mpr knd
  refine fin D ls H2 (none_of sl hD) (sl.trans f4) f3 f5 ?_ (fun ts n=>?_) (by omega)
  ·rw [f6,List.pairwise_map]
   have st:rs.Pairwise (fun x y=>HT.lexLt x.2 y.2=true):=by
    have nd2:rs.Pairwise (fun x y=>x.2≠y.2):=List.pairwise_map.mp rnd
    exact (r3.and nd2).imp fun ⟨h1,h2⟩=>lex_tot h1 h2
   exact st.filter _
  ·rw [f6]
   constructor
   ·intro m
    obtain ⟨r,rm,e⟩:=List.mem_map.mp m
    obtain ⟨rm1,rm2⟩:=List.mem_filter.mp rm
    injection e with e1 e2
    subst e1
    subst e2
    exact ⟨ov r rm1,by simpa using rm2⟩
   ·rintro ⟨e,n0⟩
    have tk:ts∈ks:=(kmem ts).mpr ⟨n,e⟩
    obtain ⟨r,rm,rfl⟩:=List.mem_map.mp (r2.mem_iff.mpr tk)
    have o:=ov r rm
    rw [e] at o
    injection o with o
    injection o with o
    exact List.mem_map.mpr ⟨r,List.mem_filter.mpr ⟨rm,by rw [<- o];simpa using n0⟩,by rw [<- o]⟩
theorem ok_law_deeds (T:Tx K mg ad):FnOk P w K mg base CX0 3 ad.f_law_deeds ad.d_law_deeds ["_law_cell_here","_law_hands"] spDeeds44:=by
 refine T.F_law_deeds.ok sc_law_deeds (fun vs H Q E h=>?_) (fun cdv A outer s H vs Q E hr h=>?_)
 ·obtain ⟨c,h,rfl,_⟩:=h
  rfl
 obtain ⟨c,h,rfl,szc,h1,h12,q⟩:=h
 refine ⟨_,(@pss_cons _ _ _ _ _ (@ps_set _ _ (2) _ _ _ _ sc_law_deeds.nd rfl (Or.inl rfl) (@pe_call _ _ _ _ _ _ _ _ _ _ _ _ _ _ _ _ (ok_law_lots T) (hr.mono (by decide)) rfl T.m_law_lots T.F_law_lots.kp T.b_law_lots .nil pass0 (@pa_cons _ _ _ _ _ (pv 0) (@pa_cons _ _ _ _ _ (pv 1) pa_nil (by rfl)) (by rfl)) (by decide) (by rfl) (by rfl)) (by rfl) (by first | exact .inl rfl | exact .inr rfl | assumption)) (@pss_cons _ _ _ _ _ (@ps_set _ _ (3) _ _ _ _ sc_law_deeds.nd rfl (Or.inl rfl) (@pe_call _ _ _ _ _ _ _ _ _ _ _ _ _ _ _ _ (ok_law_mixed T) (hr.mono (by decide)) rfl T.m_law_mixed T.F_law_mixed.kp T.b_law_mixed .nil pass0 (@pa_cons _ _ _ _ _ (pv 0) (@pa_cons _ _ _ _ _ pe_int pa_nil (by rfl)) (by rfl)) (by decide) (by rfl) (by rfl)) (by rfl) (by first | exact .inl rfl | exact .inr rfl | assumption)) (@pss_cons _ _ _ _ _ (@ps_set _ _ (4) _ _ _ _ sc_law_deeds.nd rfl (Or.inl rfl) (@pe_lst _ _ _ _ pa_nil) (by rfl) (by first | exact .inl rfl | exact .inr rfl | assumption)) (@pss_cons _ _ _ _ _ (@ps_set _ _ (5) _ _ _ _ sc_law_deeds.nd rfl (Or.inl rfl) pe_int (by rfl) (by first | exact .inl rfl | exact .inr rfl | assumption)) (@pss_cons _ _ _ _ _ (ps_for PassesOwn.never rfl (pi_range1 rfl T.z_range (@pa_cons _ _ _ _ _ (@pe_op _ _ _ _ _ _ _ _ op_modN (pv 3) (@pe_op _ _ _ _ _ _ _ _ op_add (pv 1) pe_int)) pa_nil (by rfl))) (pg_name (i:=6) sc_law_deeds.nd rfl (Or.inl rfl)) (@pss_cons _ _ _ _ _ (@ps_set _ _ (7) _ _ _ _ sc_law_deeds.nd rfl (Or.inl rfl) pe_str (by rfl) (by first | exact .inl rfl | exact .inr rfl | assumption)) (@pss_cons _ _ _ _ _ (@ps_ifJ _ _ _ _ _ _ _ _ (PW.pt (@pw_and _ _ _ _ _ _ _ (@pt_cmpR _ _ _ _ _ _ _ _ op_eq (@pe_op _ _ _ _ _ _ _ _ op_and (@pe_op _ _ _ _ _ _ _ _ op_shr (pv 3) (@pe_op _ _ _ _ _ _ _ _ op_add pe_int (pv 6))) pe_int) pe_int (nomark _)) (@pw_and1 _ _ _ _ (@pt_cmpR _ _ _ _ _ _ _ _ op_lt (pv 5) pe_int (nomark _))))) (@pss_cons _ _ _ _ _ (@ps_set _ _ (7) _ _ _ _ sc_law_deeds.nd rfl (Or.inl rfl) pe_str (by rfl) (by first | exact .inl rfl | exact .inr rfl | assumption)) (@pss_one _ _ _ (@ps_set _ _ (5) _ _ _ _ sc_law_deeds.nd rfl (Or.inl rfl) (@pe_op _ _ _ _ _ _ _ _ op_add (pv 5) pe_int) (by rfl) (by first | exact .inl rfl | exact .inr rfl | assumption)))) pss_nil) (@pss_one _ _ _ (@ps_expr _ _ _ _ (pe_bm PySem.F.plainAttrs_list PySem.F.slot_list_append PySem.F.type_list_append mt_append (pv 4) (@pa_cons _ _ _ _ _ (@pe_tup _ _ _ _ _ (@pa_cons _ _ _ _ _ (pv 7) (@pa_cons _ _ _ _ _ (@pe_ix _ _ _ _ _ _ _ ix_list (pv 2) (pv 6) (fun _ _=>rfl)) pa_nil (by rfl)) (by rfl))) pa_nil (by rfl))) (by rfl)))))) (@pss_one _ _ _ (@ps_ret _ _ _ _ (pv 4)))))))),?_⟩
 subst_eqs
 refine ⟨c,(h:Int),rfl,szc,by omega,by omega,fun lo xs H1 s1 e1 px=>?_⟩
 rw [Int.toNat_natCast] at px
 have xl:xs.length=h:=by rw [px.length_eq,ups_len]
 have xn:xs.Nodup:=px.nodup_iff.mpr (ups_nd h)
 have hx:∀x∈xs,0<=x/\x < h:=fun x m=>ups_mem.mp (px.mem_iff.mp m)
 subst_eqs
 refine ⟨c,6,rfl,szc,by decide,by decide,fun z z0 z1=>?_⟩
 have szz:Sz 200 z:=sz_of (by omega) (Int.lt_trans z1 (by decide))
 subst_eqs
 refine ⟨(by show 0<=sizeLine;decide),fun l hl=>?_⟩
 have s2:=same_new hl (.lst [])
 have e2:(upd H1 l (.lst [])) l=some (.lst (dev [])):=upd_same
 generalize upd H1 l (.lst [])=H2 at s2 e2 ⊢
 have mh:=fmod_in z (show (0:Int) < (h:Int)+1 by omega)
 have hlH:=none_of s1 hl
 subst_eqs
 refine ⟨(by show (_:Int)≠0;omega),?_⟩
 refine ⟨_,rfl,by omega,by omega,for_range (fun i σ' J=>∃(v6 v7:Option V) (ds:List De) (k:Nat),σ'=[some (.int c),some (.int (h:Int)),some (.ref lo),some (.int z),some (.ref l),some (.int (k:Int)),v6,v7]/\Same H J/\Same H1 J/\J l=some (.lst (dev ds))/\(∀x∈ds,DeG J x)/\(ds.map fun x=>((x.2.num:Nat):Int))=xs.take i/\(∀x∈ds,x.2=.seat x.2.num\/x.2=.out x.2.num)/\(ds.map (·.2)).countP isSeat=k/\k<=3) ⟨none,none,[],0,rfl,s1.trans s2,s2,e2,(fun _ m=>absurd m List.not_mem_nil),rfl,(fun _ m=>absurd m List.not_mem_nil),rfl,by decide⟩ ?_ ?_⟩
 ·rintro i σ' J hi ⟨v6,v7,ds,k,rfl,sJ,sJ1,eL,gd,en,ok,ck,k3⟩
  have ih:i < h:=by omega
  obtain ⟨x,hx0⟩:∃x,xs[i]?=some x:=⟨_,List.getElem?_eq_getElem (by omega)⟩
  have hxm:=hx x (List.mem_of_getElem? hx0)
  obtain ⟨j,rfl⟩:∃j:Nat,x=(j:Int):=⟨x.toNat,by omega⟩
  have dl:ds.length=i:=by
   have:=congrArg List.length en
   rw [List.length_map,List.length_take] at this
   omega
  refine ⟨fun σ' G=>∃(d:Dd) (k':Nat),σ'=[some (.int c),some (.int (h:Int)),some (.ref lo),some (.int z),some (.ref l),some (.int (k':Int)),some (.int (0+(i:Int))),some (.str d.word)]/\G=J/\(d=.seat j\/d=.out j)/\k'=k+(if isSeat d=true then 1 else 0)/\k'<=3,?_,?_⟩
  ·subst_eqs
   refine ⟨by show (0:Int)<=_;omega,?_⟩
   subst_eqs
   by_cases c1:Builtin.bitAnd (z / 2 ^ (10+(0+(i:Int))).toNat) 1=1
   ·refine ifT (decide_eq_true (congrArg V.int c1)) ?_
    subst_eqs
    by_cases c2:(k:Int) < 3
    ·refine ifT (decide_eq_true c2) ?_
     subst_eqs
     refine ⟨Dd.seat j,k+1,?_,rfl,.inl rfl,rfl,by omega⟩
     rfl
    ·refine ifF (decide_eq_false c2) ?_
     exact ⟨Dd.out j,k,rfl,rfl,.inr rfl,rfl,k3⟩
   ·refine ifF (decide_eq_false (fun z=>c1 (V.int.inj z))) ?_
    exact ⟨Dd.out j,k,rfl,rfl,.inr rfl,rfl,k3⟩
  rintro σ' G ⟨d,k',rfl,rfl,dj,ek,k3'⟩
  have dn:d.num=j/\d.who=.int (j:Int):=by rcases dj with c | c <;> rw [c] <;> exact ⟨rfl,rfl⟩
  subst_eqs
  refine ⟨.inl ⟨rfl,_,SqL.of eL⟩,?_⟩
  subst_eqs
  refine ⟨lo,_,_,_,rfl,rfl,SqL.of (sJ1 _ _ e1),(by rw [Int.zero_add];exact atI_nat (by rw [List.getElem?_map,hx0];rfl)),?_⟩
  refine ⟨(by show 2<=sizeLine;decide),fun t ht=>?_⟩
  have g1:=same_new ht (.tup [V.str d.word,V.int (j:Int)])
  have et:(upd G t (.tup [V.str d.word,V.int (j:Int)])) t=some (.tup [V.str d.word,V.int (j:Int)]):=upd_same
  generalize upd G t (.tup [V.str d.word,V.int (j:Int)])=G1 at g1 et ⊢
  have eL1:=g1 _ _ eL
  refine ⟨l,_,_,rfl,rfl,eL1,(by unfold dev;rw [List.length_map];exact small1000 (by omega)),?_⟩
  have tu:∀{c:Addr} {us:List V},G1 c=some (.tup us)->(upd G1 l (.lst (dev ds++[V.ref t]))) c=some (.tup us):=fun ec=>by rw [upd_ne (ne_of ec eL1 (fun z=>by cases z))];exact ec
  refine ⟨_,_,ds++[(t,d)],k',rfl,same_upd (sJ.trans g1) hlH,same_upd (sJ1.trans g1) hl,by rw [upd_same];unfold dev;rw [List.map_append];rfl,fun x m=>?_,?_,fun x m=>?_,?_,k3'⟩
  ·rcases List.mem_append.mp m with m | m
   ·exact tu (g1 _ _ (gd x m))
   ·rw [List.mem_singleton.mp m]
    unfold DeG
    rw [dn.2]
    exact tu et
  ·rw [List.map_append,en,List.take_succ,hx0]
   show _++[((d.num:Nat):Int)]=_++[(j:Int)]
   rw [dn.1]
  ·rcases List.mem_append.mp m with m | m
   ·exact ok x m
   ·rw [List.mem_singleton.mp m]
    show d=.seat d.num\/d=.out d.num
    rw [dn.1]
    exact dj
  ·rw [List.map_append,List.countP_append,ck,ek]
   congr 1
   rw [List.map_cons,List.map_nil,List.countP_cons,List.countP_nil,Nat.zero_add]
 rintro σ' J ⟨v6,v7,ds,k,rfl,sJ,sJ1,eL,gd,en,ok,ck,k3⟩
 subst_eqs
 have p20:(0:Int) < 2 ^ h:=Int.pow_pos (by decide)
 have dl:ds.length<=h:=by
  have:=congrArg List.length en
  rw [List.length_map,List.length_take] at this
  omega
 refine q l ds J hlH sJ eL gd (okd_of h12 (by omega) ?_ fun d m=>?_) (by rw [ck];exact k3) dl
 ·have nn:(ds.map fun x=>((x.2.num:Nat):Int)).Nodup:=by rw [en];exact xn.sublist (List.take_sublist _ _)
  rw [List.map_map]
  refine List.pairwise_map.mpr ((List.pairwise_map.mp nn).imp fun h e=>h ?_)
  have e':=e
  exact congrArg (fun n:Nat=>(n:Int)) e'
 ·obtain ⟨x,xm,rfl⟩:=List.mem_map.mp m
  have:((x.2.num:Nat):Int)∈xs.take (z.fmod ((h:Int)+1)).toNat:=by rw [<- en];exact List.mem_map.mpr ⟨x,xm,rfl⟩
  have hb:=hx _ (List.mem_of_mem_take this)
  exact ⟨ok x xm,by omega,full_bit (by omega)⟩
theorem ok_law_good (T:Tx K mg ad):FnOk P w K mg base CX0 3 ad.f_law_good ad.d_law_good ["_law_found","_law_hands","_law_ballots_here","_law_deeds_here","_law_quota"] spGood44:=by
 refine T.F_law_good.ok sc_law_good (fun vs H Q E h=>?_) (fun cdv A outer s H vs Q E hr h=>?_)
 ·obtain ⟨fl,dl,h,N,qu,fs,f,ds,rfl,_⟩:=h
  rfl
 obtain ⟨fl,dl,h,N,qu,fs,f,ds,rfl,hfl,gf,tv,fz,su,hdl,gd,od,h12,qz,Nz,q⟩:=h
 refine ⟨_,(@pss_cons _ _ _ _ _ (@ps_if _ _ _ _ _ _ _ _ (PW.pt (@pw_or _ _ _ _ _ _ _ (@pt_not _ _ _ _ (@pt_val _ _ _ (@pe_callB _ _ _ _ _ _ _ _ _ call_isi (by rfl) T.z_isinstance PyProof.Rows.boot_isinstance (@pa_cons _ _ _ _ _ (pv 0) (@pa_cons _ _ _ _ _ (pe_bltn (v:=.ty "list") rfl T.z_list PyProof.Rows.boot_list rfl) pa_nil (by rfl)) (by rfl)) (by decide) (by decide) (by rfl) (by rfl)) (by intro _;rfl))) (@pw_or1 _ _ _ _ (@pt_cmpR _ _ _ _ _ _ _ _ op_ne (@pe_callB _ _ _ _ _ _ _ _ _ call_len_seq (by rfl) T.z_len PySem.boot_len (@pa_cons _ _ _ _ _ (pv 0) pa_nil (by rfl)) (by decide) (by decide) (by rfl) (by rfl)) (@pe_op _ _ _ _ _ _ _ _ op_add (pv 1) pe_int) (nomark _))))) (@pss_one _ _ _ (@ps_ret _ _ _ _ pe_bl)) pss_nil) (@pss_cons _ _ _ _ _ (@ps_set _ _ (5) _ _ _ _ sc_law_good.nd rfl (Or.inl rfl) (@pe_tup _ _ _ _ _ (@pa_cons _ _ _ _ _ pe_int (@pa_cons _ _ _ _ _ pe_int pa_nil (by rfl)) (by rfl))) (by rfl) (by first | exact .inl rfl | exact .inr rfl | assumption)) (@pss_cons _ _ _ _ _ (ps_for PassesOwn.never rfl (pi_list (pv 0)) (pg_name (i:=6) sc_law_good.nd rfl (Or.inl rfl)) (@pss_cons _ _ _ _ _ (@ps_if _ _ _ _ _ _ _ _ (PW.pt (@pw_or _ _ _ _ _ _ _ (@pt_not _ _ _ _ (@pt_val _ _ _ (@pe_call _ _ _ _ _ _ _ _ _ _ _ _ _ _ _ _ (ok_law_is_fraction T) (hr.mono (by decide)) rfl T.m_law_is_fraction T.F_law_is_fraction.kp T.b_law_is_fraction .nil pass0 (@pa_cons _ _ _ _ _ (pv 6) pa_nil (by rfl)) (by decide) (by rfl) (by rfl)) (by intro _;rfl))) (@pw_or1 _ _ _ _ (@pt_cmpR _ _ _ _ _ _ _ _ op_lt (@pe_ix _ _ _ _ _ _ _ ix_tup (pv 6) pe_int (fun _ _=>rfl)) pe_int (nomark _))))) (@pss_one _ _ _ (@ps_ret _ _ _ _ pe_bl)) pss_nil) (@pss_one _ _ _ (@ps_set _ _ (5) _ _ _ _ sc_law_good.nd rfl (Or.inl rfl) (@pe_call _ _ _ _ _ _ _ _ _ _ _ _ _ _ _ _ (ok_law_added T) (hr.mono (by decide)) rfl T.m_law_added T.F_law_added.kp T.b_law_added .nil pass0 (@pa_cons _ _ _ _ _ (pv 5) (@pa_cons _ _ _ _ _ (pv 6) pa_nil (by rfl)) (by rfl)) (by decide) (by rfl) (by rfl)) (by rfl) (by first | exact .inl rfl | exact .inr rfl | assumption))))) (@pss_cons _ _ _ _ _ (ps_for PassesOwn.never rfl (pi_list (pv 3)) (pg_tup rfl (pgs_cons (pg_name (i:=7) sc_law_good.nd rfl (Or.inl rfl)) (pgs_cons (pg_name (i:=8) sc_law_good.nd rfl (Or.inl rfl)) pgs_nil))) (@pss_cons _ _ _ _ _ (@ps_if _ _ _ _ _ _ _ _ (PW.pt (@pw_and _ _ _ _ _ _ _ (@pt_cmpR _ _ _ _ _ _ _ _ op_eq (pv 7) pe_str (nomark _)) (@pw_and1 _ _ _ _ (@pt_cmpR _ _ _ _ _ _ _ _ (op_neD (K:=K) hr.units) (@pe_ix _ _ _ _ _ _ _ ix_list (pv 0) (pv 8) (fun _ _=>rfl)) (@pe_tup _ _ _ _ _ (@pa_cons _ _ _ _ _ pe_int (@pa_cons _ _ _ _ _ pe_int pa_nil (by rfl)) (by rfl))) (nomark _))))) (@pss_one _ _ _ (@ps_ret _ _ _ _ pe_bl)) pss_nil) (@pss_one _ _ _ (@ps_if _ _ _ _ _ _ _ _ (PW.pt (@pw_and _ _ _ _ _ _ _ (@pt_cmpR _ _ _ _ _ _ _ _ op_eq (pv 7) pe_str (nomark _)) (@pw_and1 _ _ _ _ (@pt_cmpR _ _ _ _ _ _ _ _ op_gt (@pe_ix _ _ _ _ _ _ _ ix_tup (@pe_ix _ _ _ _ _ _ _ ix_list (pv 0) (pv 8) (fun _ _=>rfl)) pe_int (fun _ _=>rfl)) (@pe_op _ _ _ _ _ _ _ _ op_mulB (pv 4) (@pe_ix _ _ _ _ _ _ _ ix_tup (@pe_ix _ _ _ _ _ _ _ ix_list (pv 0) (pv 8) (fun _ _=>rfl)) pe_int (fun _ _=>rfl))) (nomark _))))) (@pss_one _ _ _ (@ps_ret _ _ _ _ pe_bl)) pss_nil)))) (@pss_one _ _ _ (@ps_ret _ _ _ _ (@pe_cmpR _ _ _ _ _ _ _ _ op_eq (@pe_ix _ _ _ _ _ _ _ ix_tup (pv 5) pe_int (fun _ _=>rfl)) (@pe_op _ _ _ _ _ _ _ _ op_mulB (pv 2) (@pe_ix _ _ _ _ _ _ _ ix_tup (pv 5) pe_int (fun _ _=>rfl))) (nomark _)))))))),?_⟩
 have ll:(fqv fs).length=h+1:=by unfold fqv;rw [List.length_map];exact tv.len
 subst_eqs
 refine ⟨_,_,_,_,rfl,TyOf.lst hfl,kit_list_list,?_⟩
 subst_eqs
 refine ifF (ne_f (by rw [ll];rfl)) ?_
 subst_eqs
 refine ⟨(by show 2<=sizeLine;decide),fun t ht=>?_⟩
 have s1:=same_new ht (.tup [V.int 0,V.int 1])
 have e1:(upd H t (.tup [V.int 0,V.int 1])) t=some (.tup [V.int 0,V.int 1]):=upd_same
 generalize upd H t (.tup [V.int 0,V.int 1])=H1 at s1 e1 ⊢
 subst_eqs
 refine ⟨⟨_,SqL.of (s1 _ _ hfl)⟩,for_list (xs:=fqv fs) (fun i σ' J=>∃(v6:Option V) (g:Fq),σ'=[some (.ref fl),some (.int (h:Int)),some (.int N),some (.ref dl),some (.int qu),some (.ref g.1),v6,none,none]/\Same H J/\FqG J g/\0 < g.2.2/\vq g.2=(sumB f i fun _=>true)/\Sz (4702*i+2) g.2.1/\Sz (4702*i+2) g.2.2) ⟨none,(t,0,1),rfl,s1,e1,(show (0:Int) < 1 by decide),vq_pr 0,(sz_of (by decide) (by decide):Sz 2 (0:Int)),(sz_of (by decide) (by decide):Sz 2 (1:Int))⟩ (fun i σ' J _ hq=>by
  obtain ⟨_,_,_,e,_⟩:=hq
  exact SqL.of (e _ _ hfl)) ?_ ?_⟩
 ·rintro i y σ' J hy ⟨v6,g,rfl,sJ,gg,g0,gv,g1,g2⟩
  unfold fqv at hy
  rw [List.getElem?_map] at hy
  obtain ⟨x,hx,rfl⟩:=Option.map_eq_some_iff.mp hy
  obtain ⟨il,xv⟩:=tv.get hx
  obtain ⟨v0,vz1,vz2⟩:=fz i il
  have gfJ:=(gf x (List.mem_of_getElem? hx)).same sJ
  have gfJ':J x.1=some (.tup [.int x.2.1,.int x.2.2]):=gfJ
  have t0:=pr_t0 v0
  have b0:=pr_b0 (f i)
  have gc:=pr_gcd (f i)
  rw [<- xv] at vz1 vz2 t0 b0 gc
  subst_eqs
  refine ⟨gfJ,t0,b0,gc,?_⟩
  subst_eqs
  refine ifF (decide_eq_false (by omega)) ?_
  subst_eqs
  refine ⟨g,x,rfl,gg,gfJ,g1.mono (by omega),g2.mono (by omega),vz1.mono (by decide),vz2.mono (by decide),fun a J1 j1 ga=>?_⟩
  obtain ⟨a1,a2⟩:=addD_vq g0 b0
  obtain ⟨z1,z2⟩:=addD_sz46 g1 g2 vz1 vz2
  refine ⟨_,(a,addD g.2 x.2),rfl,sJ.trans j1,ga,a2,?_,z1.mono (by omega),z2.mono (by omega)⟩
  rw [a1,gv,xv,vq_pr]
  show _=sumB f i (fun _=>true)+(if true=true then f i else 0)
  rw [if_pos rfl]
 rintro σ' J ⟨v6,g,rfl,sJ,gg,g0,gv,g1,g2⟩
 rw [ll] at gv g1 g2
 rw [su] at gv
 subst_eqs
 refine ⟨⟨_,SqL.of (sJ _ _ hdl)⟩,for_list (xs:=dev ds) (fun i σ' G=>∃(v7 v8:Option V),σ'=[some (.ref fl),some (.int (h:Int)),some (.int N),some (.ref dl),some (.int qu),some (.ref g.1),v6,v7,v8]/\Same J G) ⟨none,none,rfl,fun _ _ e=>e⟩ (fun i σ' G _ hq=>by
  obtain ⟨_,_,_,e⟩:=hq
  exact SqL.of ((sJ.trans e) _ _ hdl)) ?_ ?_⟩
 ·rintro i w σ' G hw ⟨v7,v8,rfl,sG⟩
  obtain ⟨x,hx,rfl⟩:∃x,ds[i]?=some x/\w=.ref x.1:=by
   unfold dev at hw
   rw [List.getElem?_map] at hw
   obtain ⟨x,h1,h2⟩:=Option.map_eq_some_iff.mp hw
   exact ⟨x,h1,h2.symm⟩
  have xm:=List.mem_of_getElem? hx
  have gx:G x.1=some (.tup [.str x.2.word,x.2.who]):=(gd x xm).same (sJ.trans sG)
  obtain ⟨xh,oc⟩:=od x xm
  obtain ⟨y,hy,yv⟩:=tv.at (j:=x.2.num) (by omega)
  have hflG:=(sJ.trans sG) _ _ hfl
  have gy:=(gf y (List.mem_of_getElem? hy)).same (sJ.trans sG)
  have gy':G y.1=some (.tup [.int y.2.1,.int y.2.2]):=gy
  generalize hj:x.2.num=j at *
  have aty:atI (fqv fs) (j:Int)=some (.ref y.1):=fqv_at hy
  rcases oc with ⟨c,le⟩ | ⟨c,ez⟩
  ·rw [c] at gx
   have gx':G x.1=some (.tup [.str "seat",.int (j:Int)]):=gx
   refine ⟨x.1,_,rfl,SqT.of gx',rfl,_,_,rfl,_,_,rfl,rfl,?_⟩
   have le':=num_le le
   obtain ⟨_,_,yz2⟩:=fz j (by omega)
   rw [<- yv] at le' yz2
   subst_eqs
   refine ⟨fl,_,_,_,rfl,rfl,SqL.of hflG,aty,?_⟩
   subst_eqs
   refine ⟨fl,_,_,_,rfl,rfl,SqL.of hflG,aty,?_⟩
   subst_eqs
   refine ifF (decide_eq_false (by omega)) ?_
   exact ⟨_,_,rfl,sG⟩
  ·rw [c] at gx
   have gx':G x.1=some (.tup [.str "out",.int (j:Int)]):=gx
   refine ⟨x.1,_,rfl,SqT.of gx',rfl,_,_,rfl,_,_,rfl,rfl,?_⟩
   rw [ez,pr_zero] at yv
   rw [yv] at gy'
   subst_eqs
   refine ⟨fl,_,_,_,rfl,rfl,SqL.of hflG,aty,?_⟩
   refine ⟨(by show 2<=sizeLine;decide),fun t2 ht2=>?_⟩
   have g1':=same_new ht2 (.tup [V.int 0,V.int 1])
   have et2:(upd G t2 (.tup [V.int 0,V.int 1])) t2=some (.tup [V.int 0,V.int 1]):=upd_same
   generalize upd G t2 (.tup [V.int 0,V.int 1])=G1 at g1' et2 ⊢
   refine ⟨.tuple [.int 0,.int 1],.tuple [.int 0,.int 1],.tup (SqT.of (g1' _ _ gy')) (.cons (.int _) (.cons (.int _) .nil)),.tup (SqT.of et2) (.cons (.int _) (.cons (.int _) .nil)),rfl,rfl,?_⟩
   refine ⟨_,rfl,?_⟩
   refine ifF rfl ?_
   subst_eqs
   refine ifF (decide_eq_false fun z=>absurd (V.str.inj z) (by decide)) ?_
   exact ⟨_,_,rfl,sG.trans g1'⟩
 rintro σ' G ⟨v7,v8,rfl,sG⟩
 have gg':G g.1=some (.tup [.int g.2.1,.int g.2.2]):=gg.same sG
 have g2':Sz 70000 g.2.2:=g2.mono (by omega)
 have ev:=vq_eq g0 gv
 subst_eqs
 show Q (V.bl (decide (V.int g.2.1=V.int (N*g.2.2)))) G
 rw [decide_eq_true (by rw [ev])]
 exact q G (sJ.trans sG)
theorem ok_law_tally (T:Tx K mg ad):FnOk P w K mg base CX0 3 ad.f_law_tally ad.d_law_tally ["_law_sheet_here","_law_frees","_law_standing","_law_hand"] spTally44:=by
 refine T.F_law_tally.ok sc_law_tally (fun vs H Q E h=>?_) (fun cdv A outer s H vs Q E hr h=>?_)
 ·obtain ⟨l,fl,h,hd,ls,fr,φ,s,rfl,_⟩:=h
  rfl
 obtain ⟨l,fl,h,hd,ls,fr,φ,s,rfl,hl,gl,okl,l13,fv,hd12,h12,q⟩:=h
 refine ⟨_,(@pss_cons _ _ _ _ _ (@ps_set _ _ (4) _ _ _ _ sc_law_tally.nd rfl (Or.inl rfl) (@pe_tup _ _ _ _ _ (@pa_cons _ _ _ _ _ pe_int (@pa_cons _ _ _ _ _ pe_int pa_nil (by rfl)) (by rfl))) (by rfl) (by first | exact .inl rfl | exact .inr rfl | assumption)) (@pss_cons _ _ _ _ _ (ps_for PassesOwn.never rfl (pi_range1 rfl T.z_range (@pa_cons _ _ _ _ _ (@pe_callB _ _ _ _ _ _ _ _ _ call_len_seq (by rfl) T.z_len PySem.boot_len (@pa_cons _ _ _ _ _ (pv 0) pa_nil (by rfl)) (by decide) (by decide) (by rfl) (by rfl)) pa_nil (by rfl))) (pg_name (i:=5) sc_law_tally.nd rfl (Or.inl rfl)) (@pss_cons _ _ _ _ _ (@ps_set _ _ (6) _ _ _ _ sc_law_tally.nd rfl (Or.inl rfl) (@pe_call _ _ _ _ _ _ _ _ _ _ _ _ _ _ _ _ (ok_law_where T) (hr.mono (by decide)) rfl T.m_law_where T.F_law_where.kp T.b_law_where .nil pass0 (@pa_cons _ _ _ _ _ (@pe_ix _ _ _ _ _ _ _ ix_tup (@pe_ix _ _ _ _ _ _ _ ix_list (pv 0) (pv 5) (fun _ _=>rfl)) pe_int (fun _ _=>rfl)) (@pa_cons _ _ _ _ _ (pv 2) pa_nil (by rfl)) (by rfl)) (by decide) (by rfl) (by rfl)) (by rfl) (by first | exact .inl rfl | exact .inr rfl | assumption)) (@pss_one _ _ _ (@ps_if _ _ _ _ _ _ _ _ (@pt_cmpR _ _ _ _ _ _ _ _ op_in_seq (pv 3) (pv 6) (by with_unfolding_all rfl)) (@pss_cons _ _ _ _ _ (@ps_set _ _ (7) _ _ _ _ sc_law_tally.nd rfl (Or.inl rfl) (@pe_tup _ _ _ _ _ (@pa_cons _ _ _ _ _ (@pe_op _ _ _ _ _ _ _ _ op_mulB (@pe_ix _ _ _ _ _ _ _ ix_tup (@pe_ix _ _ _ _ _ _ _ ix_list (pv 1) (pv 5) (fun _ _=>rfl)) pe_int (fun _ _=>rfl)) (@pe_ix _ _ _ _ _ _ _ ix_tup (@pe_ix _ _ _ _ _ _ _ ix_list (pv 0) (pv 5) (fun _ _=>rfl)) pe_int (fun _ _=>rfl))) (@pa_cons _ _ _ _ _ (@pe_op _ _ _ _ _ _ _ _ op_mulB (@pe_ix _ _ _ _ _ _ _ ix_tup (@pe_ix _ _ _ _ _ _ _ ix_list (pv 1) (pv 5) (fun _ _=>rfl)) pe_int (fun _ _=>rfl)) (@pe_callB _ _ _ _ _ _ _ _ _ call_len_seq (by rfl) T.z_len PySem.boot_len (@pa_cons _ _ _ _ _ (pv 6) pa_nil (by rfl)) (by decide) (by decide) (by rfl) (by rfl))) pa_nil (by rfl)) (by rfl))) (by rfl) (by first | exact .inl rfl | exact .inr rfl | assumption)) (@pss_one _ _ _ (@ps_set _ _ (4) _ _ _ _ sc_law_tally.nd rfl (Or.inl rfl) (@pe_call _ _ _ _ _ _ _ _ _ _ _ _ _ _ _ _ (ok_law_added T) (hr.mono (by decide)) rfl T.m_law_added T.F_law_added.kp T.b_law_added .nil pass0 (@pa_cons _ _ _ _ _ (pv 4) (@pa_cons _ _ _ _ _ (pv 7) pa_nil (by rfl)) (by rfl)) (by decide) (by rfl) (by rfl)) (by rfl) (by first | exact .inl rfl | exact .inr rfl | assumption)))) pss_nil)))) (@pss_one _ _ _ (@ps_ret _ _ _ _ (@pe_call _ _ _ _ _ _ _ _ _ _ _ _ _ _ _ _ (ok_law_lowest T) (hr.mono (by decide)) rfl T.m_law_lowest T.F_law_lowest.kp T.b_law_lowest .nil pass0 (@pa_cons _ _ _ _ _ (@pe_ix _ _ _ _ _ _ _ ix_tup (pv 4) pe_int (fun _ _=>rfl)) (@pa_cons _ _ _ _ _ (@pe_ix _ _ _ _ _ _ _ ix_tup (pv 4) pe_int (fun _ _=>rfl)) pa_nil (by rfl)) (by rfl)) (by decide) (by rfl) (by rfl)))))),?_⟩
 have vl:=vls_len ls
 subst_eqs
 refine ⟨(by show 2<=sizeLine;decide),fun t ht=>?_⟩
 have s1:=same_new ht (.tup [V.int 0,V.int 1])
 have e1:(upd H t (.tup [V.int 0,V.int 1])) t=some (.tup [V.int 0,V.int 1]):=upd_same
 generalize upd H t (.tup [V.int 0,V.int 1])=H1 at s1 e1 ⊢
 have hl1:=s1 _ _ hl
 subst_eqs
 refine ⟨by omega,by omega,for_range (fun i σ' J=>∃(v5 v6 v7:Option V) (g:Fq),σ'=[some (.ref l),some (.ref fl),some (.int s),some (.int (hd:Int)),some (.ref g.1),v5,v6,v7]/\Same H J/\FqG J g/\0<=g.2.1/\0 < g.2.2/\vq g.2=(sumF ((dsOf ls).take i) fun ts=>shareR ts s hd (φ ts).1)/\Sz (566*i+2) g.2.1/\Sz (566*i+2) g.2.2) ⟨none,none,none,(t,0,1),rfl,s1,e1,Int.le_refl _,(show (0:Int) < 1 by decide),vq_pr 0,(sz_of (by decide) (by decide):Sz 2 (0:Int)),(sz_of (by decide) (by decide):Sz 2 (1:Int))⟩ ?_ ?_⟩
 ·rintro i σ' J hi ⟨v5,v6,v7,g,rfl,sJ,gg,g0,gb,gv,g1,g2⟩
  have hi':i < ls.length:=by omega
  obtain ⟨p,hp⟩:∃p,ls[i]?=some p:=⟨_,List.getElem?_eq_getElem hi'⟩
  have pm:=List.mem_of_getElem? hp
  obtain ⟨x,hx,xv,gx,⟨x0,xz1,xz2⟩⟩:=(fv.same sJ).at hp
  obtain ⟨gp1,gp2⟩:=gl.same sJ p pm
  obtain ⟨okp,pn0,pnz⟩:=okl p pm
  have hlJ:=sJ _ _ hl
  have flJ:=sJ _ _ fv.l
  have z0:(0:Int)+(i:Int)=(i:Int):=Int.zero_add _
  have atp:atI (vls ls) (0+(i:Int))=some (.ref p.1):=by rw [z0];exact vls_at hp
  have atx:atI (fqv fr) (0+(i:Int))=some (.ref x.1):=by rw [z0];exact fqv_at hx
  have gx':J x.1=some (.tup [.int x.2.1,.int x.2.2]):=gx
  subst_eqs
  refine ⟨l,_,_,_,rfl,rfl,SqL.of hlJ,atp,?_⟩
  subst_eqs
  refine ⟨p.2.1,p.2.2.1,s,h,rfl,SqT.of gp2,okp,fun wl J1 hwl j1 ew=>?_⟩
  have ed:(dsOf ls).take (i+1)=(dsOf ls).take i++[(p.2.2.1,p.2.2.2)]:=by
   rw [List.take_succ]
   unfold dsOf
   rw [List.getElem?_map,hp]
   rfl
  subst_eqs
  refine ⟨flat_int _,?_⟩
  refine ⟨_,rfl,?_⟩
  by_cases b:bit (lieI p.2.2.1 s) hd=true
  ·refine ifT (by show inV _ _=true;rw [in_int];exact decide_eq_true ((where_iff hd12).mpr b)) ?_
   have n12:=hands_len 12 (bit (lieI p.2.2.1 s))
   have n1:1<=(whereI p.2.2.1 s).length:=List.length_pos_of_mem ((where_iff hd12).mpr b)
   have xb:=pr_b0 (φ p.2.2.1).1
   have x0':=pr_t0 x0
   rw [<- xv] at xz1 xz2 xb x0'
   have gxJ:=j1 _ _ gx'
   have gpJ:=j1 _ _ gp1
   have wl':((whereI p.2.2.1 s).map V.int).length=(whereI p.2.2.1 s).length:=List.length_map ..
   have szl:Sz 5 ((((whereI p.2.2.1 s).map V.int).length:Nat):Int):=by
    rw [wl']
    unfold whereI
    exact sz_of (by omega) (by omega)
   subst_eqs
   refine ⟨fl,_,_,_,rfl,rfl,SqL.of (j1 _ _ flJ),atx,?_⟩
   subst_eqs
   refine ⟨l,_,_,_,rfl,rfl,SqL.of (j1 _ _ hlJ),atp,?_⟩
   subst_eqs
   refine ⟨fl,_,_,_,rfl,rfl,SqL.of (j1 _ _ flJ),atx,?_⟩
   subst_eqs
   refine ⟨(by show 2<=sizeLine;decide),fun t2 ht2=>?_⟩
   dsimp only
   have j2:=same_new ht2 (.tup [V.int (x.2.1*p.2.2.2),V.int (x.2.2*((((whereI p.2.2.1 s).map V.int).length:Nat):Int))])
   have et:(upd J1 t2 (.tup [V.int (x.2.1*p.2.2.2),V.int (x.2.2*((((whereI p.2.2.1 s).map V.int).length:Nat):Int))])) t2=some (.tup [V.int (x.2.1*p.2.2.2),V.int (x.2.2*((((whereI p.2.2.1 s).map V.int).length:Nat):Int))]):=upd_same
   generalize upd J1 t2 (.tup [V.int (x.2.1*p.2.2.2),V.int (x.2.2*((((whereI p.2.2.1 s).map V.int).length:Nat):Int))])=J2 at j2 et ⊢
   have y1:=(xz1.mul pnz).mono (show 500+64<=564 by decide)
   have y2:=(xz2.mul szl).mono (show 500+5<=564 by decide)
   have yv:=share_vq (r:=(φ p.2.2.1).1) (n:=p.2.2.2) n1
   rw [<- xv] at yv
   rw [wl'] at et y2
   have yb:0 < x.2.2*(((whereI p.2.2.1 s).length:Nat):Int):=Int.mul_pos xb (by omega)
   have yt:0<=x.2.1*p.2.2.2:=Int.mul_nonneg x0' pn0
   generalize x.2.1*p.2.2.2=tp at *
   generalize x.2.2*(((whereI p.2.2.1 s).length:Nat):Int)=bt at *
   subst_eqs
   refine ⟨g,(t2,tp,bt),rfl,(gg.same j1).same j2,et,g1.mono (by omega),g2.mono (by omega),y1.mono (by decide),y2.mono (by decide),fun a J3 j3 ga=>?_⟩
   obtain ⟨a1,a2⟩:=addD_vq (y:=(tp,bt)) gb yb
   obtain ⟨z1,z2⟩:=addD_szw (y:=(tp,bt)) g1 g2 y1 y2
   refine ⟨_,_,_,(a,addD g.2 (tp,bt)),rfl,((sJ.trans j1).trans j2).trans j3,ga,addD_nn g0 gb yt yb,a2,?_,z1.mono (by omega),z2.mono (by omega)⟩
   rw [ed,sumF_snoc,a1,gv,yv]
   unfold shareR
   dsimp only
   rw [if_pos b]
  ·refine ifF (by show inV _ _=false;rw [in_int];exact decide_eq_false (fun z=>b ((where_iff hd12).mp z))) ?_
   refine ⟨_,_,_,g,rfl,sJ.trans j1,gg.same j1,g0,gb,?_,g1.mono (by omega),g2.mono (by omega)⟩
   rw [ed,sumF_snoc,gv]
   unfold shareR
   dsimp only
   rw [if_neg b]
   grind
 rintro σ' J ⟨v5,v6,v7,g,rfl,sJ,gg,g0,gb,gv,g1,g2⟩
 rw [show (((vls ls).length:Nat):Int).toNat=ls.length from by rw [vl];omega] at gv g1 g2
 rw [List.take_of_length_le (show (dsOf ls).length<=ls.length by unfold dsOf;rw [List.length_map];exact Nat.le_refl _)] at gv
 have gg':J g.1=some (.tup [.int g.2.1,.int g.2.2]):=gg
 subst_eqs
 refine ⟨g.2.1,g.2.2,rfl,g0,gb,g1.mono (by omega),g2.mono (by omega),fun p H' hp s' gp=>q p H' (none_of sJ hp) (sJ.trans s') ?_⟩
 rw [<- gv]
 exact gp
theorem ok_law_behind (T:Tx K mg ad):FnOk P w K mg base CX0 3 ad.f_law_behind ad.d_law_behind ["_law_sheet_here","_law_frees","_law_standing","_law_hand","_law_tally_here","_law_quota"] spBehind44:=by
 refine T.F_law_behind.ok sc_law_behind (fun vs H Q E h=>?_) (fun cdv A outer s H vs Q E hr h=>?_)
 ·obtain ⟨l,fl,h,hd,ls,fr,φ,s,qu,ta,t,rfl,_⟩:=h
  rfl
 obtain ⟨l,fl,h,hd,ls,fr,φ,s,qu,ta,t,rfl,hl,gl,okl,l13,fv,hd12,h12,et0,gt,t0,tz1,tz2,q1,qz,q⟩:=h
 refine ⟨_,(@pss_cons _ _ _ _ _ (@ps_set _ _ (6) _ _ _ _ sc_law_behind.nd rfl (Or.inl rfl) (@pe_lst _ _ _ _ pa_nil) (by rfl) (by first | exact .inl rfl | exact .inr rfl | assumption)) (@pss_cons _ _ _ _ _ (ps_for PassesOwn.never rfl (pi_range1 rfl T.z_range (@pa_cons _ _ _ _ _ (@pe_callB _ _ _ _ _ _ _ _ _ call_len_seq (by rfl) T.z_len PySem.boot_len (@pa_cons _ _ _ _ _ (pv 0) pa_nil (by rfl)) (by decide) (by decide) (by rfl) (by rfl)) pa_nil (by rfl))) (pg_name (i:=7) sc_law_behind.nd rfl (Or.inl rfl)) (@pss_cons _ _ _ _ _ (@ps_set _ _ (8) _ _ _ _ sc_law_behind.nd rfl (Or.inl rfl) (@pe_call _ _ _ _ _ _ _ _ _ _ _ _ _ _ _ _ (ok_law_where T) (hr.mono (by decide)) rfl T.m_law_where T.F_law_where.kp T.b_law_where .nil pass0 (@pa_cons _ _ _ _ _ (@pe_ix _ _ _ _ _ _ _ ix_tup (@pe_ix _ _ _ _ _ _ _ ix_list (pv 0) (pv 7) (fun _ _=>rfl)) pe_int (fun _ _=>rfl)) (@pa_cons _ _ _ _ _ (pv 2) pa_nil (by rfl)) (by rfl)) (by decide) (by rfl) (by rfl)) (by rfl) (by first | exact .inl rfl | exact .inr rfl | assumption)) (@pss_cons _ _ _ _ _ (@ps_set _ _ (9) _ _ _ _ sc_law_behind.nd rfl (Or.inl rfl) (@pe_tup _ _ _ _ _ (@pa_cons _ _ _ _ _ pe_int (@pa_cons _ _ _ _ _ pe_int pa_nil (by rfl)) (by rfl))) (by rfl) (by first | exact .inl rfl | exact .inr rfl | assumption)) (@pss_cons _ _ _ _ _ (@ps_ifJ _ _ _ _ _ _ _ _ (@pt_cmpR _ _ _ _ _ _ _ _ op_in_seq (pv 3) (pv 8) (by with_unfolding_all rfl)) (@pss_cons _ _ _ _ _ (@ps_set _ _ (9) _ _ _ _ sc_law_behind.nd rfl (Or.inl rfl) (@pe_tup _ _ _ _ _ (@pa_cons _ _ _ _ _ (@pe_op _ _ _ _ _ _ _ _ op_sub (@pe_callB _ _ _ _ _ _ _ _ _ call_len_seq (by rfl) T.z_len PySem.boot_len (@pa_cons _ _ _ _ _ (pv 8) pa_nil (by rfl)) (by decide) (by decide) (by rfl) (by rfl)) pe_int) (@pa_cons _ _ _ _ _ (@pe_callB _ _ _ _ _ _ _ _ _ call_len_seq (by rfl) T.z_len PySem.boot_len (@pa_cons _ _ _ _ _ (pv 8) pa_nil (by rfl)) (by decide) (by decide) (by rfl) (by rfl)) pa_nil (by rfl)) (by rfl))) (by rfl) (by first | exact .inl rfl | exact .inr rfl | assumption)) (@pss_one _ _ _ (@ps_if _ _ _ _ _ _ _ _ (@pt_cmpR _ _ _ _ _ _ _ _ op_gt (@pe_ix _ _ _ _ _ _ _ ix_tup (pv 4) pe_int (fun _ _=>rfl)) (@pe_op _ _ _ _ _ _ _ _ op_mulB (pv 5) (@pe_ix _ _ _ _ _ _ _ ix_tup (pv 4) pe_int (fun _ _=>rfl))) (nomark _)) (@pss_one _ _ _ (@ps_set _ _ (9) _ _ _ _ sc_law_behind.nd rfl (Or.inl rfl) (@pe_tup _ _ _ _ _ (@pa_cons _ _ _ _ _ (@pe_op _ _ _ _ _ _ _ _ op_sub (@pe_op _ _ _ _ _ _ _ _ op_mulB (@pe_callB _ _ _ _ _ _ _ _ _ call_len_seq (by rfl) T.z_len PySem.boot_len (@pa_cons _ _ _ _ _ (pv 8) pa_nil (by rfl)) (by decide) (by decide) (by rfl) (by rfl)) (@pe_ix _ _ _ _ _ _ _ ix_tup (pv 4) pe_int (fun _ _=>rfl))) (@pe_op _ _ _ _ _ _ _ _ op_mulB (pv 5) (@pe_ix _ _ _ _ _ _ _ ix_tup (pv 4) pe_int (fun _ _=>rfl)))) (@pa_cons _ _ _ _ _ (@pe_op _ _ _ _ _ _ _ _ op_mulB (@pe_callB _ _ _ _ _ _ _ _ _ call_len_seq (by rfl) T.z_len PySem.boot_len (@pa_cons _ _ _ _ _ (pv 8) pa_nil (by rfl)) (by decide) (by decide) (by rfl) (by rfl)) (@pe_ix _ _ _ _ _ _ _ ix_tup (pv 4) pe_int (fun _ _=>rfl))) pa_nil (by rfl)) (by rfl))) (by rfl) (by first | exact .inl rfl | exact .inr rfl | assumption))) pss_nil))) pss_nil) (@pss_one _ _ _ (@ps_expr _ _ _ _ (pe_bm PySem.F.plainAttrs_list PySem.F.slot_list_append PySem.F.type_list_append mt_append (pv 6) (@pa_cons _ _ _ _ _ (@pe_call _ _ _ _ _ _ _ _ _ _ _ _ _ _ _ _ (ok_law_lowest T) (hr.mono (by decide)) rfl T.m_law_lowest T.F_law_lowest.kp T.b_law_lowest .nil pass0 (@pa_cons _ _ _ _ _ (@pe_op _ _ _ _ _ _ _ _ op_mulB (@pe_ix _ _ _ _ _ _ _ ix_tup (@pe_ix _ _ _ _ _ _ _ ix_list (pv 1) (pv 7) (fun _ _=>rfl)) pe_int (fun _ _=>rfl)) (@pe_ix _ _ _ _ _ _ _ ix_tup (pv 9) pe_int (fun _ _=>rfl))) (@pa_cons _ _ _ _ _ (@pe_op _ _ _ _ _ _ _ _ op_mulB (@pe_ix _ _ _ _ _ _ _ ix_tup (@pe_ix _ _ _ _ _ _ _ ix_list (pv 1) (pv 7) (fun _ _=>rfl)) pe_int (fun _ _=>rfl)) (@pe_ix _ _ _ _ _ _ _ ix_tup (pv 9) pe_int (fun _ _=>rfl))) pa_nil (by rfl)) (by rfl)) (by decide) (by rfl) (by rfl)) pa_nil (by rfl))) (by rfl))))))) (@pss_one _ _ _ (@ps_ret _ _ _ _ (pv 6))))),?_⟩
 have vl:=vls_len ls
 have gt':H ta=some (.tup [.int (pr t).1,.int (pr t).2]):=gt
 have tb:=pr_b0 t
 have tt:=pr_t0 t0
 subst_eqs
 refine ⟨(by show 0<=sizeLine;decide),fun B hB=>?_⟩
 have s1:=same_new hB (.lst [])
 have e1:(upd H B (.lst [])) B=some (.lst (fqv [])):=upd_same
 generalize upd H B (.lst [])=H1 at s1 e1 ⊢
 have hl1:=s1 _ _ hl
 subst_eqs
 refine ⟨by omega,by omega,for_range (fun i σ' J=>∃(v7 v8 v9:Option V) (ws:List Fq),σ'=[some (.ref l),some (.ref fl),some (.int s),some (.int (hd:Int)),some (.ref ta),some (.int qu),some (.ref B),v7,v8,v9]/\Same H J/\J B=some (.lst (fqv ws))/\(∀x∈ws,FqG J x)/\ws.map (·.2)=((ls.take i).map fun p=>pr (nxF (dsOf ls) φ s hd qu p.2.2.1).1)) ⟨none,none,none,[],rfl,s1,e1,(fun _ m=>absurd m List.not_mem_nil),rfl⟩ ?_ ?_⟩
 ·rintro i σ' J hi ⟨v7,v8,v9,ws,rfl,sJ,eB,gw,ev⟩
  have hi':i < ls.length:=by omega
  obtain ⟨p,hp⟩:∃p,ls[i]?=some p:=⟨_,List.getElem?_eq_getElem hi'⟩
  have pm:=List.mem_of_getElem? hp
  obtain ⟨x,hx,xv,gx,⟨x0,xz1,xz2⟩⟩:=(fv.same sJ).at hp
  obtain ⟨gp1,gp2⟩:=gl.same sJ p pm
  obtain ⟨okp,pn0,pnz⟩:=okl p pm
  have hlJ:=sJ _ _ hl
  have flJ:=sJ _ _ fv.l
  have z0:(0:Int)+(i:Int)=(i:Int):=Int.zero_add _
  have atp:atI (vls ls) (0+(i:Int))=some (.ref p.1):=by rw [z0];exact vls_at hp
  have atx:atI (fqv fr) (0+(i:Int))=some (.ref x.1):=by rw [z0];exact fqv_at hx
  have gx':J x.1=some (.tup [.int x.2.1,.int x.2.2]):=gx
  have wsl:ws.length=i:=by
   have:=congrArg List.length ev
   rw [List.length_map,List.length_map,List.length_take] at this
   omega
  have xb:=pr_b0 (φ p.2.2.1).1
  have x0':=pr_t0 x0
  rw [<- xv] at xz1 xz2 xb x0'
  subst_eqs
  refine ⟨l,_,_,_,rfl,rfl,SqL.of hlJ,atp,?_⟩
  subst_eqs
  refine ⟨p.2.1,p.2.2.1,s,h,rfl,SqT.of gp2,okp,fun wl J1 hwl j1 ew=>?_⟩
  subst_eqs
  refine ⟨(by show 2<=sizeLine;decide),fun t1 ht1=>?_⟩
  have j2:=same_new ht1 (.tup [V.int 1,V.int 1])
  have et1:(upd J1 t1 (.tup [V.int 1,V.int 1])) t1=some (.tup [V.int 1,V.int 1]):=upd_same
  generalize upd J1 t1 (.tup [V.int 1,V.int 1])=J2 at j2 et1 ⊢
  have ew2:=j2 _ _ ew
  refine ⟨fun σ' G=>∃(lt:Addr) (l0 l1:Int),σ'=[some (.ref l),some (.ref fl),some (.int s),some (.int (hd:Int)),some (.ref ta),some (.int qu),some (.ref B),some (.int (0+(i:Int))),some (.ref wl),some (.ref lt)]/\Same J2 G/\G lt=some (.tup [.int l0,.int l1])/\0<=l0/\0 < l1/\Sz 700 l0/\Sz 700 l1/\(φ p.2.2.1).1*((l0:Rat) / (l1:Rat))=(nxF (dsOf ls) φ s hd qu p.2.2.1).1,?_,?_⟩
  ·subst_eqs
   refine ⟨flat_int _,?_⟩
   refine ⟨_,rfl,?_⟩
   by_cases b:bit (lieI p.2.2.1 s) hd=true
   ·refine ifT (by show inV _ _=true;rw [in_int];exact decide_eq_true ((where_iff hd12).mpr b)) ?_
    have n12:=hands_len 12 (bit (lieI p.2.2.1 s))
    have n1:1<=(whereI p.2.2.1 s).length:=List.length_pos_of_mem ((where_iff hd12).mpr b)
    have wl':((whereI p.2.2.1 s).map V.int).length=(whereI p.2.2.1 s).length:=List.length_map ..
    have szl:Sz 5 ((((whereI p.2.2.1 s).map V.int).length:Nat):Int):=by
     rw [wl']
     unfold whereI
     exact sz_of (by omega) (by omega)
    have gt2:=(sJ.trans (j1.trans j2)) _ _ gt'
    have nx:∀pt,partR t qu=pt->(nxF (dsOf ls) φ s hd qu p.2.2.1).1=(φ p.2.2.1).1 - (φ p.2.2.1).1 / ((whereI p.2.2.1 s).length:Rat)*pt:=fun pt e=>by
     unfold nxF keepR
     dsimp only
     rw [<- et0,e]
     unfold shareR
     rw [if_pos b]
    subst_eqs
    refine ⟨(by show 2<=sizeLine;decide),fun t3 ht3=>?_⟩
    dsimp only
    have j3:=same_new ht3 (.tup [V.int (((((whereI p.2.2.1 s).map V.int).length:Nat):Int) - 1),V.int ((((whereI p.2.2.1 s).map V.int).length:Nat):Int)])
    have et3:(upd J2 t3 (.tup [V.int (((((whereI p.2.2.1 s).map V.int).length:Nat):Int) - 1),V.int ((((whereI p.2.2.1 s).map V.int).length:Nat):Int)])) t3=some (.tup [V.int (((((whereI p.2.2.1 s).map V.int).length:Nat):Int) - 1),V.int ((((whereI p.2.2.1 s).map V.int).length:Nat):Int)]):=upd_same
    generalize upd J2 t3 (.tup [V.int (((((whereI p.2.2.1 s).map V.int).length:Nat):Int) - 1),V.int ((((whereI p.2.2.1 s).map V.int).length:Nat):Int)])=J3 at j3 et3 ⊢
    have ew3:=j3 _ _ ew2
    have gt3:=j3 _ _ gt2
    subst_eqs
    by_cases c:qu*(pr t).2 < (pr t).1
    ·refine ifT (decide_eq_true c) ?_
     have cl:=lt_num.mp c
     subst_eqs
     refine ⟨(by show 2<=sizeLine;decide),fun t4 ht4=>?_⟩
     dsimp only
     rw [wl']
     have k:=Int.mul_le_mul_of_nonneg_right (show (1:Int)<=((whereI p.2.2.1 s).length:Int) by omega) tt
     rw [wl'] at szl
     have pq:=Int.mul_pos (show 0 < qu by omega) tb
     refine ⟨t4,_,_,rfl,j3.trans (same_new ht4 _),upd_same,by omega,by omega,((szl.mul tz1).sub (qz.mul tz2)).mono (by decide),(szl.mul tz1).mono (by decide),?_⟩
     rw [nx _ (show partR t qu=(qu:Rat) / t from by unfold partR;rw [if_pos cl])]
     exact left_q n1 q1 cl
    ·refine ifF (decide_eq_false c) ?_
     rw [wl'] at et3 szl
     refine ⟨t3,_,_,rfl,j3,et3,by omega,by omega,(szl.sub (sz_of (by decide) (by decide):Sz 5 (1:Int))).mono (by decide),szl.mono (by decide),?_⟩
     rw [nx 1 (by unfold partR;rw [if_neg (fun z=>c (lt_num.mpr z))])]
     exact left_one n1
   ·refine ifF (by show inV _ _=false;rw [in_int];exact decide_eq_false (fun z=>b ((where_iff hd12).mp z))) ?_
    refine ⟨t1,1,1,rfl,fun _ _ e=>e,et1,by decide,by decide,sz_of (by decide) (by decide),sz_of (by decide) (by decide),?_⟩
    unfold nxF keepR shareR
    dsimp only
    rw [if_neg b,show ((1:Int):Rat)=1 from rfl]
    grind
  rintro σ' G ⟨lt,l0,l1,rfl,sG,el,l00,l10,lz0,lz1,lv⟩
  have sJG:=(j1.trans j2).trans sG
  have eBG:=sJG _ _ eB
  have gxG:=sJG _ _ gx'
  have flG:=sJG _ _ flJ
  subst_eqs
  refine ⟨.inl ⟨rfl,_,SqL.of eBG⟩,?_⟩
  subst_eqs
  refine ⟨fl,_,_,_,rfl,rfl,SqL.of flG,atx,?_⟩
  subst_eqs
  refine ⟨fl,_,_,_,rfl,rfl,SqL.of flG,atx,?_⟩
  subst_eqs
  refine ⟨x.2.1*l0,x.2.2*l1,rfl,Int.mul_nonneg x0' l00,Int.mul_pos xb l10,(xz1.mul lz0).mono (by decide),(xz2.mul lz1).mono (by decide),fun a G1 ha g1 ga=>?_⟩
  rw [xv,low_vq l10,lv] at ga
  have eB1:=g1 _ _ eBG
  refine ⟨B,_,_,rfl,rfl,eB1,(by unfold fqv;rw [List.length_map,wsl];exact small1000 (by omega)),?_⟩
  refine ⟨_,_,_,ws++[(a,pr (nxF (dsOf ls) φ s hd qu p.2.2.1).1)],rfl,same_upd ((sJ.trans sJG).trans g1) hB,by rw [upd_same];unfold fqv;rw [List.map_append];rfl,fun y m=>?_,?_⟩
  ·rcases List.mem_append.mp m with m | m
   ·exact FqG.upd ((gw y m).same (sJG.trans g1)) eB1
   ·rw [List.mem_singleton.mp m]
    exact FqG.upd ga eB1
  ·rw [List.map_append,ev,List.take_succ,hp,List.map_append]
   rfl
 rintro σ' J ⟨v7,v8,v9,ws,rfl,sJ,eB,gw,ev⟩
 rw [show (((vls ls).length:Nat):Int).toNat=ls.length from by rw [vl];omega,List.take_length] at ev
 subst_eqs
 exact q B ws J hB sJ eB gw ev
theorem ok_table (T:Tx K mg ad):FnOk P w K mg base CX0 4 ad.f_table ad.d_table ["sheet","state","standing"] (spTable 4500):=by
 refine T.F_table.ok sc_table (fun vs H Q E h=>?_) (fun cdv A outer s H vs Q E hr h=>?_)
 ·obtain ⟨l,st,h,ls,xs,s,rfl,_⟩:=h
  rfl
 obtain ⟨l,st,h,ls,xs,s,rfl,hl,gl,hs,gx,le,l60,h12,li,q⟩:=h
 refine ⟨_,(@pss_one _ _ _ (@ps_ret _ _ _ _ (pe_comp2 (fsc:=defScope s_table) (N:=["sheet","state","standing"]) (Nc:=["sheet","state","standing","line","one"]) rfl rfl ⟨rfl,by decide +kernel,by decide +kernel,by decide +kernel,by decide +kernel,rfl,by decide +kernel,rfl,by decide +kernel⟩ rfl (pi_zip rfl T.z_zip (@pa_cons _ _ _ _ _ (pv 0) (@pa_cons _ _ _ _ _ (pv 1) pa_nil (by rfl)) (by rfl))) (fun _ _ _ _=>pif_nil) (fun _ _ _ _=>(@pe_call _ _ _ _ _ _ _ _ _ _ _ _ _ _ _ _ (ok_table_row T) (hr.mono (by decide)) rfl T.m_table_row T.F_table_row.kp T.b_table_row .nil pass0 (@pa_cons _ _ _ _ _ (@pe_ix _ _ _ _ _ _ _ (ix_tupK K) (pv 3) pe_int (fun _ _=>rfl)) (@pa_cons _ _ _ _ _ (@pe_ix _ _ _ _ _ _ _ (ix_tupK K) (pv 4) pe_int (fun _ _=>rfl)) (@pa_cons _ _ _ _ _ (@pe_ix _ _ _ _ _ _ _ (ix_tupK K) (pv 4) pe_int (fun _ _=>rfl)) (@pa_cons _ _ _ _ _ (pv 2) pa_nil (by rfl)) (by rfl)) (by rfl)) (by rfl)) (by decide) (by rfl) (by rfl)))))),?_⟩
 have vl:=vls_len ls
 have xl:(shv xs).length=xs.length:=List.length_map ..
 have zl:(tabD s ls xs).length=ls.length:=by unfold tabD;rw [List.length_map,List.length_zip,le,Nat.min_self]
 subst_eqs
 refine ⟨l,st,rfl,⟨_,SqL.of hl⟩,⟨_,SqL.of hs⟩,?_⟩
 refine comp_zip (xs:=vls ls) (zs:=shv xs) rfl rfl (by omega) (by rw [vl];exact small63 (by omega)) (fun D i ys J=>∃rs:List Rw,ys=rwv rs/\J D=some (.lst ys)/\rs.length=i/\Same H J/\(∀x∈rs,RwG J x/\H x.1=none/\x.1≠D)/\(rs.map fun x=>x.2.map (·.2))=(tabD s ls xs).take i) (fun D hD=>⟨[],rfl,upd_same,rfl,same_new hD _,(fun _ m=>absurd m List.not_mem_nil),rfl⟩) (fun D i ys J hq_=>by obtain ⟨rs,f1,f2,f3,_⟩:=hq_;exact ⟨f2,by rw [f1];unfold rwv;rw [List.length_map,f3];exact Nat.le_refl _⟩) (fun D i ys J hD hq_=>by obtain ⟨_,_,_,_,f4,_⟩:=hq_;exact ⟨SqL.of (f4 _ _ hl),SqL.of (f4 _ _ hs)⟩) ?_ ?_
 ·rintro D i x y T ys J K1 K2 hD hx hy ⟨rs,rfl,n1,n2,n3,n4,n5⟩ hT kk1 kk2
  obtain ⟨f,hf,rfl,fm,et⟩:=vls_get hx
  unfold shv at hy
  rw [List.getElem?_map] at hy
  obtain ⟨g,hg,rfl⟩:=Option.map_eq_some_iff.mp hy
  obtain ⟨gg,gb,gl'⟩:=gx g (List.mem_of_getElem? hg)
  obtain ⟨l1,l2,l3,l4⟩:=li f fm
  have s1:=same_new hT (.tup [V.ref f.1,V.ref g.1])
  generalize upd J T (.tup [V.ref f.1,V.ref g.1])=J1 at s1 ⊢
  have sJ:=n3.trans s1
  refine yes (ifT rfl ?_)
  refine ⟨_,rfl,f.1,_,_,_,rfl,rfl,SqT.of (sJ _ _ (gl f fm).1),rfl,?_⟩
  refine ⟨_,rfl,g.1,_,_,_,rfl,rfl,SqT.of (sJ _ _ gg.t),rfl,?_⟩
  refine ⟨_,rfl,g.1,_,_,_,rfl,rfl,SqT.of (sJ _ _ gg.t),rfl,?_⟩
  refine ⟨_,rfl,?_⟩
  refine ⟨f.2.1,g.2.2.1,h,f.2.2.1,g.2.1,g.2.2.2,s,rfl,sJ _ _ (gl f fm).2,gg.f.same sJ,gb,sJ _ _ gg.l,(fun x m=>(gg.k x m).same sJ),gl',h12,l1,l2,l3,l4,fun r fs J2 hr2 s2 e2 g2 v2=>?_⟩
  have n1':=(s1.trans s2) _ _ n1
  have rD:r≠D:=fun z=>by rw [z,s1 _ _ n1] at hr2;cases hr2
  have n4':∀x∈rs++[(r,fs)],RwG (upd J2 D (.lst (rwv rs++[V.ref r]))) x/\H x.1=none/\x.1≠D:=fun x m=>by
   have key:RwG J2 x/\H x.1=none/\x.1≠D:=by
    rcases List.mem_append.mp m with m | m
    ·exact ⟨(n4 x m).1.same (s1.trans s2),(n4 x m).2⟩
    ·rw [List.mem_singleton.mp m]
     exact ⟨⟨e2,g2⟩,none_of sJ hr2,rD⟩
   exact ⟨⟨by rw [upd_ne key.2.2];exact key.1.1,fun f m=>(key.1.2 f m).upd n1'⟩,key.2⟩
  refine kk1 _ _ n1' ⟨rs++[(r,fs)],by unfold rwv;rw [List.map_append];rfl,upd_same,by rw [List.length_append,n2];rfl,same_upd (n3.trans (s1.trans s2)) (none_of (fun _ _ e=>e) hD),n4',?_⟩
  have tz:(tabD s ls xs)[i]?=some (rowD (whereI f.2.2.1 s) g.2.1.2 (g.2.2.2.map (·.2))):=by
   unfold tabD
   rw [List.getElem?_map,show (ls.zip xs)[i]?=some (f,g) from List.getElem?_zip_eq_some.mpr ⟨hf,hg⟩]
   rfl
  rw [List.take_add_one,tz,List.map_append,n5]
  show _++[fs.map (·.2)]=_
  rw [v2]
  rfl
 rintro D ys J hD ⟨rs,rfl,n1,n2,n3,n4,n5⟩
 rw [vl,<- zl,List.take_of_length_le (Nat.le_refl _)] at n5
 exact q D rs J hD n3 n1 (fun x m=>⟨(n4 x m).1,(n4 x m).2.1⟩) n5
theorem ok_tallies (T:Tx K mg ad):FnOk P w K mg base CX0 4 ad.f_tallies ad.d_tallies ["sheet","rows","hands"] spTalliesM:=by
 refine T.F_tallies.ok sc_tallies (fun vs H Q E h=>?_) (fun cdv A outer s H vs Q E hr h=>?_)
 ·obtain ⟨l,rl,h,ls,rs,M,rfl,_⟩:=h
  rfl
 obtain ⟨l,rl,h,ls,rs,M,rfl,hl,gl,hr',gr,M0,Mz,le,l60,h12,nz,q⟩:=h
 refine ⟨_,(@pss_one _ _ _ (@ps_ret _ _ _ _ (pe_compC (fsc:=defScope s_tallies) (N:=["sheet","rows","hands"]) (Nc:=["sheet","rows","hands","place"]) rfl rfl ⟨rfl,by decide +kernel,by decide +kernel,rfl,by decide +kernel,rfl,by decide +kernel,rfl,by decide +kernel⟩ rfl (pi_range1 rfl T.z_range (@pa_cons _ _ _ _ _ (@pe_op _ _ _ _ _ _ _ _ op_add (pv 2) pe_int) pa_nil (by rfl))) (fun _ _ _ _=>pif_nil) (fun _ _ _ _=>(@pe_call _ _ _ _ _ _ _ _ _ _ _ _ _ _ _ _ (ok_weighed T) (hr.mono (by decide)) rfl T.m_weighed T.F_weighed.kp T.b_weighed .nil pass0 (@pa_cons _ _ _ _ _ (pv 0) (@pa_cons _ _ _ _ _ (by exact (pe_compIn (fsc:=defScope s_tallies) (Nc:=["sheet","rows","hands","place"]) (Nd:=["sheet","rows","hands","place","row"]) rfl ⟨rfl,by decide +kernel,by decide +kernel,rfl,by decide +kernel,rfl,by decide +kernel,rfl,by decide +kernel⟩ rfl (pi_listK K (pv 1)) (fun _ _ _ _=>pif_nil) (fun _ _ _ _=>(@pe_ix _ _ _ _ _ _ _ (ix_listK K) (pv 4) (pv 3) (fun _ _=>rfl))))) pa_nil (by rfl)) (by rfl)) (by decide) (by rfl) (by rfl)))))),?_⟩
 have rl':(rwv rs).length=rs.length:=List.length_map ..
 subst_eqs
 refine ⟨by omega,by omega,?_⟩
 have hn:((h:Int)+1).toNat=h+1:=by omega
 rw [hn]
 refine comp_range (small63 (by omega)) (fun D i ys J=>∃fs:List Fq,ys=fqv fs/\fs.length=i/\J D=some (.lst ys)/\Same H J/\(∀f∈fs,FqG J f)/\∀j f,fs[j]?=some f->WM M ls (colOf rs j) f.2) (fun D hD=>⟨[],rfl,rfl,upd_same,same_new hD _,(fun _ m=>absurd m List.not_mem_nil),fun j f e=>by rw [List.getElem?_nil] at e;cases e⟩) (fun D i ys J hq_=>by obtain ⟨fs,f1,f2,f3,_⟩:=hq_;exact ⟨f3,by rw [f1];unfold fqv;rw [List.length_map,f2];exact Nat.le_refl _⟩) ?_ ?_
 ·rintro D i ys J K1 K2 hD hi ⟨fs,rfl,n1,n2,n3,n4,n5⟩ kk1 kk2
  refine yes (ifT rfl ?_)
  refine ⟨_,rfl,?_⟩
  refine ⟨_,rfl,rl,rfl,⟨_,SqL.of (n3 _ _ hr')⟩,?_⟩
  refine comp_list (xs:=rwv rs) (by rw [rl'];exact small63 (by omega)) (fun D2 k ys J2=>ys=fqv ((colOf rs i).take k)/\J2=upd J D2 (.lst ys)) (fun D2 hD2=>⟨rfl,rfl⟩) (fun D2 k ys J2 hq_=>by obtain ⟨f1,f2⟩:=hq_;exact ⟨by rw [f2];exact upd_same,by rw [f1];unfold fqv;rw [List.length_map];exact List.length_take_le _ _⟩) (fun D2 k ys J2 hD2 hq_=>by obtain ⟨_,f2⟩:=hq_;rw [f2];exact SqL.of (same_new hD2 _ _ _ (n3 _ _ hr'))) ?_ ?_
  ·rintro D2 k y ys J2 L1 L2 hD2 hy ⟨e,rfl⟩ ll1 ll2
   unfold rwv at hy
   rw [List.getElem?_map] at hy
   obtain ⟨x,hx,rfl⟩:=Option.map_eq_some_iff.mp hy
   obtain ⟨gx,xl,xb⟩:=gr x (List.mem_of_getElem? hx)
   have sD:=n3.trans (same_new hD2 (.lst ys))
   refine yes (ifT rfl ?_)
   refine ⟨_,rfl,_,rfl,x.1,_,_,_,rfl,rfl,SqL.of (sD _ _ gx.1),(by rw [Int.zero_add];exact atI_nat (by unfold fqv;rw [List.getElem?_map,fq_at (by omega)];rfl)),?_⟩
   refine ll1 _ _ upd_same ⟨?_,by rw [upd_upd]⟩
   rw [e,List.take_add_one,show (colOf rs i)[k]?=some (x.2.getD i (0,0,1)) from by unfold colOf;rw [List.getElem?_map,hx];rfl]
   unfold fqv
   rw [List.map_append]
   rfl
  rintro D2 ys J2 hD2 ⟨rfl,rfl⟩
  have cl:(colOf rs i).length=rs.length:=List.length_map ..
  rw [rl',<- cl,List.take_of_length_le (Nat.le_refl _)]
  have s2:=same_new hD2 (.lst (fqv (colOf rs i)))
  have e2:(upd J D2 (.lst (fqv (colOf rs i)))) D2=some (.lst (fqv (colOf rs i))):=upd_same
  generalize upd J D2 (.lst (fqv (colOf rs i)))=J3 at s2 e2 ⊢
  have sJ:=n3.trans s2
  have gc:∀f∈colOf rs i,FqG J3 f/\FqM M f.2:=fun f m=>by
   obtain ⟨x,xm,rfl⟩:=List.mem_map.mp m
   obtain ⟨gx,xl,xb⟩:=gr x xm
   have hm:x.2.getD i (0,0,1)∈x.2:=List.mem_of_getElem? (fq_at (by omega))
   exact ⟨(gx.2 _ hm).same sJ,xb _ hm⟩
  refine ⟨l,D2,ls,colOf rs i,M,rfl,sJ _ _ hl,(fun q m=>⟨sJ _ _ (gl q m).1,sJ _ _ (gl q m).2⟩),e2,gc,M0,Mz,by rw [cl];exact le,l60,nz,fun T v3 J4 s4 wm4 e4=>?_⟩
  have n2':=(s2.trans s4) _ _ n2
  refine kk1 _ _ n2' ⟨fs++[(T,v3)],by unfold fqv;rw [List.map_append];rfl,by rw [List.length_append,n1];rfl,upd_same,same_upd (sJ.trans s4) hD,fun f m=>FqG.upd ?_ n2',fun j f e=>?_⟩
  ·rcases List.mem_append.mp m with m | m
   ·exact (n4 f m).same (s2.trans s4)
   ·rw [List.mem_singleton.mp m];exact e4
  ·rcases (by omega:j < i\/j=i\/i < j) with lt | eq | gt
   ·rw [List.getElem?_append_left (by omega)] at e
    exact n5 j f e
   ·subst eq
    rw [<- n1,List.getElem?_append_right (Nat.le_refl _),Nat.sub_self] at e
    have e':=Option.some.inj e
    rw [<- e']
    exact wm4
   ·rw [List.getElem?_eq_none (by rw [List.length_append,n1];exact gt)] at e
    cases e
 rintro D ys J hD ⟨fs,rfl,n1,n2,n3,n4,n5⟩
 exact q D fs J hD n3 n2 n4 n1 n5
theorem ok_part_kept (T:Tx K mg ad):FnOk P w K mg base CX0 4 ad.f_part_kept ad.d_part_kept ["tally","quota"] spPart20:=by
 refine T.F_part_kept.ok sc_part_kept (fun vs H Q E h=>?_) (fun cdv A outer s H vs Q E hr h=>?_)
 ·obtain ⟨f,qu,rfl,_⟩:=h
  rfl
 obtain ⟨f,qu,rfl,gf,b0,q1,szq,szt,szb,q⟩:=h
 refine ⟨_,(@pss_cons _ _ _ _ _ (@ps_if _ _ _ _ _ _ _ _ (@pt_val _ _ _ (@pe_call _ _ _ _ _ _ _ _ _ _ _ _ _ _ _ _ (ok_under T) (hr.mono (by decide)) rfl T.m_under T.F_under.kp T.b_under .nil pass0 (@pa_cons _ _ _ _ _ (@pe_tup _ _ _ _ _ (@pa_cons _ _ _ _ _ (pv 1) (@pa_cons _ _ _ _ _ pe_int pa_nil (by rfl)) (by rfl))) (@pa_cons _ _ _ _ _ (pv 0) pa_nil (by rfl)) (by rfl)) (by decide) (by rfl) (by rfl)) (by intro _;rfl)) (@pss_one _ _ _ (@ps_ret _ _ _ _ (@pe_call _ _ _ _ _ _ _ _ _ _ _ _ _ _ _ _ (ok_parted T) (hr.mono (by decide)) rfl T.m_parted T.F_parted.kp T.b_parted .nil pass0 (@pa_cons _ _ _ _ _ (@pe_tup _ _ _ _ _ (@pa_cons _ _ _ _ _ (pv 1) (@pa_cons _ _ _ _ _ pe_int pa_nil (by rfl)) (by rfl))) (@pa_cons _ _ _ _ _ (pv 0) pa_nil (by rfl)) (by rfl)) (by decide) (by rfl) (by rfl)))) pss_nil) (@pss_one _ _ _ (@ps_ret _ _ _ _ (@pe_tup _ _ _ _ _ (@pa_cons _ _ _ _ _ pe_int (@pa_cons _ _ _ _ _ pe_int pa_nil (by rfl)) (by rfl)))))),?_⟩
 and_intros
 refine ⟨(by show 2<=sizeLine;decide),fun a ha=>?_⟩
 have s1:=same_new ha (.tup [V.int qu,V.int 1])
 have e1:(upd H a (.tup [V.int qu,V.int 1])) a=some (.tup [V.int qu,V.int 1]):=upd_same
 generalize upd H a (.tup [V.int qu,V.int 1])=H1 at s1 e1 ⊢
 have one:Sz 9000 (1:Int):=sz_of (by decide +kernel) (by decide +kernel)
 and_intros
 refine ⟨a,f.1,qu,1,f.2.1,f.2.2,rfl,e1,s1 _ _ gf,szq.mono (by decide),one,szt.mono (by decide),szb.mono (by decide),?_⟩
 by_cases c:qu*f.2.2 < f.2.1*1
 ·have e:partD f.2 qu=(lowT (qu*f.2.2) (1*f.2.1),lowB (qu*f.2.2) (1*f.2.1)):=by unfold partD;rw [if_pos c]
  rw [decide_eq_true c]
  and_intros
  refine ⟨(by show 2<=sizeLine;decide),fun b hb=>?_⟩
  have s2:=same_new hb (.tup [V.int qu,V.int 1])
  have e2:(upd H1 b (.tup [V.int qu,V.int 1])) b=some (.tup [V.int qu,V.int 1]):=upd_same
  generalize upd H1 b (.tup [V.int qu,V.int 1])=H2 at s2 e2 ⊢
  and_intros
  have t0:0 < f.2.1:=by
   have:=Int.mul_pos (show 0 < qu by omega) b0
   omega
  refine ⟨b,f.1,qu,1,f.2.1,f.2.2,rfl,e2,(s1.trans s2) _ _ gf,(by show (1:Int)*f.2.1≠0;omega),szq.mono (by decide),(sz_of (by decide) (by decide):Sz 64 (1:Int)).mono (by decide),szt.mono (by decide),szb.mono (by decide),fun z H' s' e'=>q z H' (s1.trans (s2.trans s')) (by rw [e];exact e')⟩
 ·have e:partD f.2 qu=(1,1):=by unfold partD;rw [if_neg c]
  rw [decide_eq_false c]
  and_intros
  refine ⟨(by show 2<=sizeLine;decide),fun b hb=>?_⟩
  exact q b _ (s1.trans (same_new hb _)) (by rw [e];exact upd_same)
theorem ok_law_walked (T:Tx K mg ad):FnOk P w K mg base CX0 4 ad.f_law_walked ad.d_law_walked ["_law_sheet_here","_law_hands","_law_quota","_law_deeds_here"] spWalked44:=by
 refine T.F_law_walked.ok sc_law_walked (fun vs H Q E h=>?_) (fun cdv A outer s H vs Q E hr h=>?_)
 ·obtain ⟨l,dl,h,qu,ls,ds,rfl,_⟩:=h
  rfl
 obtain ⟨l,dl,h,qu,ls,ds,rfl,hl,gl,okl,l13,nN,q1,qz,hdl,gd,od,se,h12,q⟩:=h
 refine ⟨_,(@pss_cons _ _ _ _ _ (ps_setC (j:=4) (fsc:=defScope s_law_walked) (N:=["_law_sheet_here","_law_hands","_law_quota","_law_deeds_here","_law_frees","_law_standing","_law_found","_law_word","_law_hand","_law_tally_here"]) (Nc:=["_law_sheet_here","_law_hands","_law_quota","_law_deeds_here","_law_frees","_law_standing","_law_found","_law_word","_law_hand","_law_tally_here","_law_line"]) rfl rfl ⟨rfl,by decide +kernel,by decide +kernel,rfl,by decide +kernel,rfl,by decide +kernel,rfl,by decide +kernel⟩ rfl sc_law_walked.nd rfl rfl (pi_list (pv 0)) (fun _ _ _ _=>pif_nil) (fun _ _ _ _=>(@pe_tup _ _ _ _ _ (@pa_cons _ _ _ _ _ pe_int (@pa_cons _ _ _ _ _ pe_int pa_nil (by rfl)) (by rfl)))) rfl) (@pss_cons _ _ _ _ _ (@ps_set _ _ (5) _ _ _ _ sc_law_walked.nd rfl (Or.inl rfl) (@pe_op _ _ _ _ _ _ _ _ op_sub (@pe_op _ _ _ _ _ _ _ _ op_shl pe_int (pv 1)) pe_int) (by rfl) (by first | exact .inl rfl | exact .inr rfl | assumption)) (@pss_cons _ _ _ _ _ (@ps_set _ _ (6) _ _ _ _ sc_law_walked.nd rfl (Or.inl rfl) (@pe_op _ _ _ _ _ _ _ _ op_rep (@pe_lst _ _ _ _ (@pa_cons _ _ _ _ _ (@pe_tup _ _ _ _ _ (@pa_cons _ _ _ _ _ pe_int (@pa_cons _ _ _ _ _ pe_int pa_nil (by rfl)) (by rfl))) pa_nil (by rfl))) (pv 1)) (by rfl) (by first | exact .inl rfl | exact .inr rfl | assumption)) (@pss_cons _ _ _ _ _ (ps_for PassesOwn.never rfl (pi_list (pv 3)) (pg_tup rfl (pgs_cons (pg_name (i:=7) sc_law_walked.nd rfl (Or.inl rfl)) (pgs_cons (pg_name (i:=8) sc_law_walked.nd rfl (Or.inl rfl)) pgs_nil))) (@pss_cons _ _ _ _ _ (@ps_if _ _ _ _ _ _ _ _ (@pt_cmpR _ _ _ _ _ _ _ _ op_eq (pv 7) pe_str (nomark _)) (@pss_cons _ _ _ _ _ (@ps_set _ _ (9) _ _ _ _ sc_law_walked.nd rfl (Or.inl rfl) (@pe_call _ _ _ _ _ _ _ _ _ _ _ _ _ _ _ _ (ok_law_tally T) (hr.mono (by decide)) rfl T.m_law_tally T.F_law_tally.kp T.b_law_tally .nil pass0 (@pa_cons _ _ _ _ _ (pv 0) (@pa_cons _ _ _ _ _ (pv 4) (@pa_cons _ _ _ _ _ (pv 5) (@pa_cons _ _ _ _ _ (pv 8) pa_nil (by rfl)) (by rfl)) (by rfl)) (by rfl)) (by decide) (by rfl) (by rfl)) (by rfl) (by first | exact .inl rfl | exact .inr rfl | assumption)) (@pss_cons _ _ _ _ _ (@ps_set _ _ (4) _ _ _ _ sc_law_walked.nd rfl (Or.inl rfl) (@pe_call _ _ _ _ _ _ _ _ _ _ _ _ _ _ _ _ (ok_law_behind T) (hr.mono (by decide)) rfl T.m_law_behind T.F_law_behind.kp T.b_law_behind .nil pass0 (@pa_cons _ _ _ _ _ (pv 0) (@pa_cons _ _ _ _ _ (pv 4) (@pa_cons _ _ _ _ _ (pv 5) (@pa_cons _ _ _ _ _ (pv 8) (@pa_cons _ _ _ _ _ (pv 9) (@pa_cons _ _ _ _ _ (pv 2) pa_nil (by rfl)) (by rfl)) (by rfl)) (by rfl)) (by rfl)) (by rfl)) (by decide) (by rfl) (by rfl)) (by rfl) (by first | exact .inl rfl | exact .inr rfl | assumption)) (@pss_cons _ _ _ _ _ (ps_asg (pv 9) (pg_sub (pv 6) (pv 8) set_list)) (@pss_one _ _ _ (@ps_ifJ _ _ _ _ _ _ _ _ (@pt_cmpR _ _ _ _ _ _ _ _ op_gt (@pe_ix _ _ _ _ _ _ _ ix_tup (pv 9) pe_int (fun _ _=>rfl)) (@pe_op _ _ _ _ _ _ _ _ op_mulB (pv 2) (@pe_ix _ _ _ _ _ _ _ ix_tup (pv 9) pe_int (fun _ _=>rfl))) (nomark _)) (@pss_one _ _ _ (ps_asg (@pe_tup _ _ _ _ _ (@pa_cons _ _ _ _ _ (pv 2) (@pa_cons _ _ _ _ _ pe_int pa_nil (by rfl)) (by rfl))) (pg_sub (pv 6) (pv 8) set_list))) pss_nil))))) pss_nil) (@pss_one _ _ _ (@ps_set _ _ (5) _ _ _ _ sc_law_walked.nd rfl (Or.inl rfl) (@pe_op _ _ _ _ _ _ _ _ op_sub (pv 5) (@pe_op _ _ _ _ _ _ _ _ op_shl pe_int (pv 8))) (by rfl) (by first | exact .inl rfl | exact .inr rfl | assumption))))) (@pss_cons _ _ _ _ _ (ps_for PassesOwn.never rfl (pi_range1 rfl T.z_range (@pa_cons _ _ _ _ _ (pv 1) pa_nil (by rfl))) (pg_name (i:=8) sc_law_walked.nd rfl (Or.inl rfl)) (@pss_one _ _ _ (@ps_if _ _ _ _ _ _ _ _ (@pt_cmpR _ _ _ _ _ _ _ _ op_eq (@pe_op _ _ _ _ _ _ _ _ op_and (@pe_op _ _ _ _ _ _ _ _ op_shr (pv 5) (pv 8)) pe_int) pe_int (nomark _)) (@pss_one _ _ _ (ps_asg (@pe_call _ _ _ _ _ _ _ _ _ _ _ _ _ _ _ _ (ok_law_tally T) (hr.mono (by decide)) rfl T.m_law_tally T.F_law_tally.kp T.b_law_tally .nil pass0 (@pa_cons _ _ _ _ _ (pv 0) (@pa_cons _ _ _ _ _ (pv 4) (@pa_cons _ _ _ _ _ (pv 5) (@pa_cons _ _ _ _ _ (pv 8) pa_nil (by rfl)) (by rfl)) (by rfl)) (by rfl)) (by decide) (by rfl) (by rfl)) (pg_sub (pv 6) (pv 8) set_list))) pss_nil))) (@pss_one _ _ _ (@ps_ret _ _ _ _ (pv 6)))))))),?_⟩
 have vl:=vls_len ls
 have hn:∀p∈dsOf ls,0<=p.2:=fun p m=>by obtain ⟨x,xm,rfl⟩:=List.mem_map.mp m;exact (okl x xm).2.1
 have okk:∀p∈dsOf ls,Okk h p.1:=fun p m=>by obtain ⟨x,xm,rfl⟩:=List.mem_map.mp m;exact (okl x xm).1.1
 have p20:(0:Int) < 2 ^ h:=Int.pow_pos (by decide)
 subst_eqs
 refine ⟨⟨_,SqL.of hl⟩,?_⟩
 refine comp_list (xs:=vls ls) (by rw [vl];exact small63 (by omega)) (fun D i ys J=>∃fr:List Fq,ys=fqv fr/\J D=some (.lst ys)/\Same H J/\(∀x∈fr,FqG J x)/\fr.map (·.2)=(ls.take i).map fun _=>pr 1) (fun D hD=>⟨[],rfl,upd_same,same_new hD _,(fun _ m=>absurd m List.not_mem_nil),rfl⟩) (fun D i ys J hq=>by
  obtain ⟨fr,f1,f2,_,_,f5⟩:=hq
  refine ⟨f2,?_⟩
  have a:=congrArg List.length f5
  rw [List.length_map,List.length_map,List.length_take] at a
  rw [f1]
  unfold fqv
  rw [List.length_map]
  omega) (fun D i ys J hD hq=>by
  obtain ⟨_,_,_,f3,_⟩:=hq
  exact SqL.of (f3 _ _ hl)) ?_ ?_
 ·rintro D i x ys J K1 K2 hD hx ⟨fr,rfl,f2,f3,f4,f5⟩ kk1 kk2
  obtain ⟨f,hf,rfl,fm,et⟩:=vls_get hx
  refine yes (ifT rfl ?_)
  refine ⟨(by show 2<=sizeLine;decide),fun t ht=>?_⟩
  have j1:=same_new ht (.tup [V.int 1,V.int 1])
  have et1:(upd J t (.tup [V.int 1,V.int 1])) t=some (.tup [V.int 1,V.int 1]):=upd_same
  generalize upd J t (.tup [V.int 1,V.int 1])=J1 at j1 et1 ⊢
  have eD:=j1 _ _ f2
  refine kk1 _ _ eD ⟨fr++[(t,1,1)],by unfold fqv;rw [List.map_append];rfl,upd_same,same_upd (f3.trans j1) hD,fun y m=>?_,?_⟩
  ·rcases List.mem_append.mp m with m | m
   ·exact FqG.upd ((f4 y m).same j1) eD
   ·rw [List.mem_singleton.mp m]
    exact FqG.upd et1 eD
  ·rw [List.map_append,f5,et,List.map_append]
   rfl
 rintro fl ys H1 hfl ⟨fr,rfl,f2,s1,f4,f5⟩
 rw [vl,List.take_length] at f5
 subst_eqs
 refine ⟨pow_small (by omega),?_⟩
 subst_eqs
 refine ⟨(by show 2<=sizeLine;decide),fun t ht=>?_⟩
 have s2:=same_new ht (.tup [V.int 0,V.int 1])
 have et:(upd H1 t (.tup [V.int 0,V.int 1])) t=some (.tup [V.int 0,V.int 1]):=upd_same
 generalize upd H1 t (.tup [V.int 0,V.int 1])=H2 at s2 et ⊢
 subst_eqs
 refine ⟨(by show 1<=sizeLine;decide),fun t2 ht2=>?_⟩
 have s3:=same_new ht2 (.lst [V.ref t])
 have et2:(upd H2 t2 (.lst [V.ref t])) t2=some (.lst [V.ref t]):=upd_same
 generalize upd H2 t2 (.lst [V.ref t])=H3 at s3 et2 ⊢
 subst_eqs
 refine ⟨t2,_,_,rfl,rfl,et2,by omega,by omega,(by rw [Int.toNat_natCast];show 1*h<=sizeLine;rw [Nat.one_mul];exact Nat.le_of_lt (small1000 (by omega))),fun F hF=>?_⟩
 rw [Int.toNat_natCast,rep_flat,show List.replicate h (V.ref t)=fqv (List.replicate h (t,0,1)) from by unfold fqv;rw [List.map_replicate]]
 have s4:=same_new hF (.lst (fqv (List.replicate h (t,0,1))))
 have eF:(upd H3 F (.lst (fqv (List.replicate h (t,0,1))))) F=some (.lst (fqv (List.replicate h (t,0,1)))):=upd_same
 generalize upd H3 F (.lst (fqv (List.replicate h (t,0,1))))=H4 at s4 eF ⊢
 have s14:=(s2.trans s3).trans s4
 have s04:=s1.trans s14
 have hFH:H F=none:=none_of (s1.trans (s2.trans s3)) hF
 have flF:fl≠F:=fun z=>by
  have:=(s2.trans s3) _ _ f2
  rw [z,hF] at this
  cases this
 have one:(1:Int)*2 ^ (h:Int).toNat - 1=2 ^ h - 1:=by rw [Int.one_mul,Int.toNat_natCast]
 have fv0:FreeV H4 fl fr ls (fun _=>(1,List.replicate h 0)):=⟨s14 _ _ f2,fun x m=>(f4 x m).same s14,f5,fun _ _=>fw_one⟩
 have gf0:∀x∈List.replicate h ((t,0,1):Fq),FqG H4 x:=fun x m=>by
  rw [List.eq_of_mem_replicate m]
  exact (s3.trans s4) _ _ et
 have ef0:(List.replicate h ((t,0,1):Fq)).map (·.2)=(List.replicate h (0:Rat)).map pr:=by rw [List.map_replicate,List.map_replicate];rfl
 have hdl4:=s04 _ _ hdl
 clear f2 f4 f5 et et2 hF hfl ht ht2
 subst_eqs
 refine ⟨⟨_,SqL.of hdl4⟩,for_list (xs:=dev ds) (fun i σ' J=>∃(v7 v8 v9:Option V) (fl:Addr) (fr:List Fq) (m:Int) (φ:List Int->Sr) (fd:List Rat) (M:Int) (k:Nat) (fs:List Fq),σ'=[some (.ref l),some (.int (h:Int)),some (.int qu),some (.ref dl),some (.ref fl),some (.int m),some (.ref F),v7,v8,v9]/\Same H J/\FreeV J fl fr ls φ/\fl≠F/\J F=some (.lst (fqv fs))/\(∀x∈fs,FqG J x)/\fs.map (·.2)=fd.map pr/\StI M h (stF (dsOf ls) φ)/\0 < M/\Sz (mB k) M/\k+((ds.map (·.2)).drop i).countP isSeat<=3/\0<=m/\m < 2 ^ h/\OkD h ((ds.map (·.2)).drop i) m/\RunA (dsOf ls) h φ m fd/\goA (dsOf ls) h qu ((ds.map (·.2)).drop i) φ m fd=alongR (dsOf ls) h qu (ds.map (·.2))) ⟨none,none,none,fl,fr,2 ^ h - 1,(fun _=>(1,List.replicate h 0)),List.replicate h 0,1,0,_,(by rw [<- one];rfl),s04,fv0,flF,eF,gf0,ef0,(by rw [<- start_f];exact start_ok _ _),by decide,(sz_of (by decide) (by decide):Sz 1 (1:Int)),by rw [List.drop_zero];omega,by omega,by omega,od,RunA.start _ _,rfl⟩ (fun i σ' J _ hq=>by
  obtain ⟨_,_,_,_,_,_,_,_,_,_,_,_,e,_⟩:=hq
  exact SqL.of (e _ _ hdl)) ?_ ?_⟩
 ·clear fv0 flF eF gf0 ef0
  rintro i w σ' J hw ⟨v7,v8,v9,fl,fr,m,φ,fd,M,k,fs,rfl,sJ,fv,flF,eF,gf,ef,si,M0,Mz,kk,m0,m1,oi,R,eqF⟩
  obtain ⟨x,hx,rfl⟩:∃x,ds[i]?=some x/\w=.ref x.1:=by
   unfold dev at hw
   rw [List.getElem?_map] at hw
   obtain ⟨x,h1,h2⟩:=Option.map_eq_some_iff.mp hw
   exact ⟨x,h1,h2.symm⟩
  have gx:J x.1=some (.tup [.str x.2.word,x.2.who]):=(gd x (List.mem_of_getElem? hx)).same sJ
  have dr:(ds.map (·.2)).drop i=x.2 :: (ds.map (·.2)).drop (i+1):=by
   rw [List.drop_eq_getElem_cons (by rw [List.length_map];exact (List.getElem?_eq_some_iff.mp hx).1)]
   congr 1
   rw [List.getElem_map,(List.getElem?_eq_some_iff.mp hx).2]
  rw [dr] at kk oi eqF
  obtain ⟨⟨hd,ch,hh,bh⟩,oi2⟩:=oi
  have hd12:hd < 12:=by omega
  obtain ⟨lm0,lb,ll⟩:=less_len m0 bh hd12
  obtain ⟨R2,_⟩:=R.step hn q1 h12 m0 ⟨hd,ch,hh,bh⟩
  have p0:(0:Int) < 2 ^ hd:=Int.pow_pos (by decide)
  have one2:(1:Int)*2 ^ (hd:Int).toNat=2 ^ hd:=by rw [Int.one_mul,Int.toNat_natCast]
  have fsl:fs.length=h:=by
   have:=congrArg List.length ef
   rw [List.length_map,List.length_map,R.fl] at this
   exact this
  have fql:(fqv fs).length=h:=by unfold fqv;rw [List.length_map];exact fsl
  rcases ch with c | c
  ·rw [c] at gx kk oi2 R2 eqF
   have gx':J x.1=some (.tup [.str "seat",.int (hd:Int)]):=gx
   rw [List.countP_cons_of_pos (by rfl)] at kk
   have Mz3:Sz 498 M:=Mz.mono (mB_le3 (by omega))
   obtain ⟨t0,tN,ti⟩:=tal_ok (m:=m) si hd12 hn
   obtain ⟨tz1,tz2⟩:=tal_sz M0 Mz3 t0 tN nN ti
   generalize hT:(sumF (dsOf ls) fun ts=>shareR ts m hd (φ ts).1)=tt at *
   refine ⟨x.1,_,rfl,SqT.of gx',rfl,_,_,rfl,_,_,rfl,rfl,?_⟩
   subst_eqs
   refine ⟨l,fl,h,hd,ls,fr,φ,m,rfl,sJ _ _ hl,gl.same sJ,okl,l13,fv,hd12,h12,fun a J1 ha j1 ga=>?_⟩
   rw [hT] at ga
   subst_eqs
   refine ⟨l,fl,h,hd,ls,fr,φ,m,qu,a,tt,rfl,(sJ.trans j1) _ _ hl,gl.same (sJ.trans j1),okl,l13,fv.same j1,hd12,h12,hT.symm,ga,t0,tz1,tz2,q1,qz,fun b ws J2 hb j2 eb gb vb=>?_⟩
   have sJ2:=(sJ.trans j1).trans j2
   have eF2:=(j1.trans j2) _ _ eF
   have bF:b≠F:=fun z=>by rw [z,j1 _ _ eF] at hb;cases hb
   have ga2:=ga.same j2
   have gf2:∀x∈fs.set hd (a,pr tt),FqG J2 x:=fun x m=>by
    rcases List.mem_or_eq_of_mem_set m with m | m
    ·exact (gf x m).same (j1.trans j2)
    ·rw [m];exact ga2
   have vset:∀y:Fq,(fqv fs).set hd (.ref y.1)=fqv (fs.set hd y):=fun y=>by unfold fqv;rw [List.map_set]
   obtain ⟨M2,M20,Mz2,si2⟩:=si.step (k:=k) (ds:=dsOf ls) (s:=m) (q:=qu) M0 Mz hd12 q1 hn nN
   rw [next_f] at si2
   have Mz23:Sz 498 M2:=Mz2.mono (mB_le3 (by omega))
   have fv2:FreeV J2 b ws ls (nxF (dsOf ls) φ m hd qu):=⟨eb,gb,vb,fun p pm=>by
    obtain ⟨a1,a2,a3⟩:=si2.free (nxF (dsOf ls) φ m hd qu p.2.2.1) (List.mem_map.mpr ⟨(p.2.2.1,p.2.2.2),List.mem_map.mpr ⟨p,pm,rfl⟩,rfl⟩)
    exact fw_of M20 Mz23 a1 a2 a3⟩
   subst_eqs
   refine ⟨F,_,_,hd,rfl,rfl,eF2,ixN_nat (by rw [fql];exact hh),?_⟩
   rw [vset (a,pr tt)]
   have s3':Same H (upd J2 F (.lst (fqv (fs.set hd (a,pr tt))))):=same_upd sJ2 hFH
   have eF3:(upd J2 F (.lst (fqv (fs.set hd (a,pr tt))))) F=some (.lst (fqv (fs.set hd (a,pr tt)))):=upd_same
   have fv3:=fv2.put (o:=.lst (fqv (fs.set hd (a,pr tt)))) eF2 bF
   have ga3:FqG (upd J2 F (.lst (fqv (fs.set hd (a,pr tt))))) (a,pr tt):=FqG.upd ga2 eF2
   have gf3:∀x∈fs.set hd (a,pr tt),FqG (upd J2 F (.lst (fqv (fs.set hd (a,pr tt))))) x:=fun x m=>FqG.upd (gf2 x m) eF2
   have gf3':∀x∈fs,FqG (upd J2 F (.lst (fqv (fs.set hd (a,pr tt))))) x:=fun x m=>FqG.upd ((gf x m).same (j1.trans j2)) eF2
   generalize upd J2 F (.lst (fqv (fs.set hd (a,pr tt))))=J3 at s3' eF3 fv3 ga3 gf3 gf3' ⊢
   have ga3':J3 a=some (.tup [.int (pr tt).1,.int (pr tt).2]):=ga3
   refine ⟨fun σ' G=>∃(fs':List Fq),σ'=[some (.ref l),some (.int (h:Int)),some (.int qu),some (.ref dl),some (.ref b),some (.int m),some (.ref F),some (.str "seat"),some (.int (hd:Int)),some (.ref a)]/\Same H G/\FreeV G b ws ls (nxF (dsOf ls) φ m hd qu)/\G F=some (.lst (fqv fs'))/\(∀x∈fs',FqG G x)/\fs'.map (·.2)=(fd.set hd (capR tt qu)).map pr,?_,?_⟩
   ·subst_eqs
    by_cases c1:qu*(pr tt).2 < (pr tt).1
    ·refine ifT (decide_eq_true c1) ?_
     have cl:=lt_num.mp c1
     subst_eqs
     refine ⟨(by show 2<=sizeLine;decide),fun u hu=>?_⟩
     have j4:=same_new hu (.tup [V.int qu,V.int 1])
     have eu:(upd J3 u (.tup [V.int qu,V.int 1])) u=some (.tup [V.int qu,V.int 1]):=upd_same
     generalize upd J3 u (.tup [V.int qu,V.int 1])=J4 at j4 eu ⊢
     have eF4:=j4 _ _ eF3
     have fl3:(fqv (fs.set hd (a,pr tt))).length=h:=by unfold fqv;rw [List.length_map,List.length_set];exact fsl
     subst_eqs
     refine ⟨F,_,_,hd,rfl,rfl,eF4,ixN_nat (by rw [fl3];exact hh),?_⟩
     rw [show (fqv (fs.set hd (a,pr tt))).set hd (.ref u)=fqv (fs.set hd (u,pr (qu:Rat))) from by unfold fqv;rw [List.map_set,List.map_set,List.set_set]]
     refine ⟨fs.set hd (u,pr (qu:Rat)),rfl,same_upd (s3'.trans j4) hFH,(fv3.same j4).put eF4 bF,upd_same,fun y m=>?_,?_⟩
     ·rcases List.mem_or_eq_of_mem_set m with m' | m'
      ·exact FqG.upd ((gf3' y m').same j4) eF4
      ·rw [m'];exact FqG.upd eu eF4
     ·rw [fd_set ef]
      unfold capR
      rw [if_pos cl]
    ·refine ifF (decide_eq_false c1) ?_
     refine ⟨fs.set hd (a,pr tt),rfl,s3',fv3,eF3,gf3,?_⟩
     rw [fd_set ef]
     unfold capR
     rw [if_neg (fun z=>c1 (lt_num.mpr z))]
   rintro σ' G ⟨fs',rfl,sG,fvG,eFG,gfG,efG⟩
   subst_eqs
   refine ⟨pow_small (by omega),?_⟩
   subst_eqs
   refine ⟨_,_,_,b,ws,m - 2 ^ hd,_,_,M2,k+1,fs',(by show [_,_,_,_,_,some (V.int (m - 1*2 ^ (hd:Int).toNat)),_,_,_,_]=_;rw [one2]),sG,fvG,bF,eFG,gfG,(by rw [efG,<- hT];rfl),si2,M20,Mz2,by omega,lm0,by omega,oi2,R2,eqF⟩
  ·rw [c] at gx kk oi2 R2 eqF
   have gx':J x.1=some (.tup [.str "out",.int (hd:Int)]):=gx
   rw [List.countP_cons_of_neg (show ¬ (false=true) by decide)] at kk
   refine ⟨x.1,_,rfl,SqT.of gx',rfl,_,_,rfl,_,_,rfl,rfl,?_⟩
   subst_eqs
   refine ⟨pow_small (by omega),?_⟩
   subst_eqs
   refine ⟨_,_,_,fl,fr,m - 2 ^ hd,φ,fd,M,k,fs,(by show [_,_,_,_,_,some (V.int (m - 1*2 ^ (hd:Int).toNat)),_,_,_,_]=_;rw [one2]),sJ,fv,flF,eF,gf,ef,si,M0,Mz,kk,lm0,by omega,oi2,R2,eqF⟩
 clear fv0 flF eF gf0 ef0
 rintro σ' J ⟨v7,v8,v9,fl,fr,m,φ,fd,M,k,fs,rfl,sJ,fv,flF,eF,gf,ef,si,M0,Mz,kk,m0,m1,oi,R,eqF⟩
 rw [show (dev ds).length=(ds.map (·.2)).length from by unfold dev;rw [List.length_map,List.length_map],List.drop_length] at eqF
 subst_eqs
 refine ⟨by omega,by omega,for_range (fun i σ' G=>∃(v8:Option V) (fs:List Fq),σ'=[some (.ref l),some (.int (h:Int)),some (.int qu),some (.ref dl),some (.ref fl),some (.int m),some (.ref F),v7,v8,v9]/\Same H G/\FreeV G fl fr ls φ/\G F=some (.lst (fqv fs))/\(∀x∈fs,FqG G x)/\fs.map (·.2)=((List.range h).map (gF (dsOf ls) φ m fd i)).map pr) ⟨v8,fs,rfl,sJ,fv,eF,gf,by rw [gF_zero R.fl];exact ef⟩ ?_ ?_⟩
 ·rintro i σ' G hi ⟨v8',fs',rfl,sG,fvG,eFG,gfG,efG⟩
  have hi':i < h:=by omega
  have ei:(0+(i:Int)).toNat=i:=by omega
  have fsl:(fqv fs').length=h:=by
   have:=congrArg List.length efG
   rw [List.length_map,List.length_map,List.length_map,List.length_range] at this
   unfold fqv
   rw [List.length_map]
   exact this
  subst_eqs
  refine ⟨(by show (0:Int)<=0+(i:Int);omega),?_⟩
  subst_eqs
  rw [show decide (V.int (Builtin.bitAnd (m / 2 ^ (0+(i:Int)).toNat) 1)=V.int 1)=bit m i from by rw [holds_bit,ei]]
  by_cases b:bit m i=true
  ·refine ifT b ?_
   subst_eqs
   refine ⟨l,fl,h,i,ls,fr,φ,m,(by rw [Int.zero_add];rfl),sG _ _ hl,gl.same sG,okl,l13,fvG,by omega,h12,fun a J1 ha j1 ga=>?_⟩
   have eF1:=j1 _ _ eFG
   subst_eqs
   refine ⟨F,_,_,i,rfl,rfl,eF1,(by rw [Int.zero_add];exact ixN_nat (by rw [fsl];exact hi')),?_⟩
   rw [show (fqv fs').set i (.ref a)=fqv (fs'.set i (a,pr (sumF (dsOf ls) fun ts=>shareR ts m i (φ ts).1))) from by unfold fqv;rw [List.map_set]]
   refine ⟨_,_,rfl,same_upd (sG.trans j1) hFH,(fvG.same j1).put eF1 flF,upd_same,fun y my=>?_,?_⟩
   ·rcases List.mem_or_eq_of_mem_set my with m' | m'
    ·exact FqG.upd ((gfG y m').same j1) eF1
    ·rw [m'];exact FqG.upd ga eF1
   ·rw [gF_yes b hi']
    exact fd_set efG
  ·refine ifF (Bool.eq_false_iff.mpr b) ?_
   refine ⟨_,fs',rfl,sG,fvG,eFG,gfG,?_⟩
   rw [gF_no b]
   exact efG
 rintro σ' G ⟨v8',fs',rfl,sG,fvG,eFG,gfG,efG⟩
 subst_eqs
 refine q F fs' G hFH sG eFG gfG ?_
 rw [Int.toNat_natCast,gF_end] at efG
 rw [efG,<- eqF]
 rfl
theorem ok_kept_by (T:Tx K mg ad):FnOk P w K mg base CX0 5 ad.f_kept_by ad.d_kept_by ["sheet","state","standing","hand","quota"] spKeptM:=by
 refine T.F_kept_by.ok sc_kept_by (fun vs H Q E h=>?_) (fun cdv A outer s H vs Q E hr h=>?_)
 ·obtain ⟨l,st,h,hd,ls,xs,s,qu,M,rfl,_⟩:=h
  rfl
 obtain ⟨l,st,h,hd,ls,xs,s,qu,M,rfl,hl,gl,hs,gx,M0,Mz,le,l60,h12,hh,q1,szq,li,q⟩:=h
 refine ⟨_,(@pss_cons _ _ _ _ _ (ps_setC2 (j:=5) (fsc:=defScope s_kept_by) (N:=["sheet","state","standing","hand","quota","shares","part","reckoned","behind","one","share","asked","given"]) (Nc:=["sheet","state","standing","hand","quota","shares","part","reckoned","behind",".s9","share","asked","given","line","one"]) rfl rfl ⟨rfl,by decide +kernel,by decide +kernel,by decide +kernel,by decide +kernel,rfl,by decide +kernel,rfl,by decide +kernel⟩ rfl sc_kept_by.nd rfl rfl (pi_zip rfl T.z_zip (@pa_cons _ _ _ _ _ (pv 0) (@pa_cons _ _ _ _ _ (pv 1) pa_nil (by rfl)) (by rfl))) (fun _ _ _ _=>pif_nil) (fun _ _ _ _=>(@pe_call _ _ _ _ _ _ _ _ _ _ _ _ _ _ _ _ (ok_share_at T) (hr.mono (by decide)) rfl T.m_share_at T.F_share_at.kp T.b_share_at .nil pass0 (@pa_cons _ _ _ _ _ (@pe_ix _ _ _ _ _ _ _ (ix_tupK K) (pv 13) pe_int (fun _ _=>rfl)) (@pa_cons _ _ _ _ _ (@pe_ix _ _ _ _ _ _ _ (ix_tupK K) (pv 14) pe_int (fun _ _=>rfl)) (@pa_cons _ _ _ _ _ (pv 2) (@pa_cons _ _ _ _ _ (pv 3) pa_nil (by rfl)) (by rfl)) (by rfl)) (by rfl)) (by decide) (by rfl) (by rfl))) rfl) (@pss_cons _ _ _ _ _ (@ps_set _ _ (6) _ _ _ _ sc_kept_by.nd rfl (Or.inl rfl) (@pe_call _ _ _ _ _ _ _ _ _ _ _ _ _ _ _ _ (ok_part_kept T) (hr.mono (by decide)) rfl T.m_part_kept T.F_part_kept.kp T.b_part_kept .nil pass0 (@pa_cons _ _ _ _ _ (@pe_call _ _ _ _ _ _ _ _ _ _ _ _ _ _ _ _ (ok_weighed T) (hr.mono (by decide)) rfl T.m_weighed T.F_weighed.kp T.b_weighed .nil pass0 (@pa_cons _ _ _ _ _ (pv 0) (@pa_cons _ _ _ _ _ (pv 5) pa_nil (by rfl)) (by rfl)) (by decide) (by rfl) (by rfl)) (@pa_cons _ _ _ _ _ (pv 4) pa_nil (by rfl)) (by rfl)) (by decide) (by rfl) (by rfl)) (by rfl) (by first | exact .inl rfl | exact .inr rfl | assumption)) (@pss_cons _ _ _ _ _ (@ps_set _ _ (7) _ _ _ _ sc_kept_by.nd rfl (Or.inl rfl) pe_dnewN (by rfl) (by first | exact .inl rfl | exact .inr rfl | assumption)) (@pss_cons _ _ _ _ _ (@ps_set _ _ (8) _ _ _ _ sc_kept_by.nd rfl (Or.inl rfl) (@pe_lst _ _ _ _ pa_nil) (by rfl) (by first | exact .inl rfl | exact .inr rfl | assumption)) (@pss_cons _ _ _ _ _ (ps_for PassesOwn.never rfl (pi_zip rfl T.z_zip (@pa_cons _ _ _ _ _ (pv 1) (@pa_cons _ _ _ _ _ (pv 5) pa_nil (by rfl)) (by rfl))) (pg_tup rfl (pgs_cons (pg_name (i:=9) sc_kept_by.nd rfl (Or.inl rfl)) (pgs_cons (pg_name (i:=10) sc_kept_by.nd rfl (Or.inl rfl)) pgs_nil))) (@pss_cons _ _ _ _ _ (@ps_set _ _ (11) _ _ _ _ sc_kept_by.nd rfl (Or.inl rfl) (@pe_tup _ _ _ _ _ (@pa_cons _ _ _ _ _ (@pe_ix _ _ _ _ _ _ _ ix_tup (pv 9) pe_int (fun _ _=>rfl)) (@pa_cons _ _ _ _ _ (pv 10) pa_nil (by rfl)) (by rfl))) (by rfl) (by first | exact .inl rfl | exact .inr rfl | assumption)) (@pss_cons _ _ _ _ _ (@ps_ifJ _ _ _ _ _ _ _ _ (@pt_cmpR _ _ _ _ _ _ _ _ (op_notInN (u2 hr.units)) (pv 11) (pv 7) (by with_unfolding_all rfl)) (@pss_cons _ _ _ _ _ (@ps_set _ _ (12) _ _ _ _ sc_kept_by.nd rfl (Or.inl rfl) (@pe_call _ _ _ _ _ _ _ _ _ _ _ _ _ _ _ _ (ok_times T) (hr.mono (by decide)) rfl T.m_times T.F_times.kp T.b_times .nil pass0 (@pa_cons _ _ _ _ _ (pv 10) (@pa_cons _ _ _ _ _ (pv 6) pa_nil (by rfl)) (by rfl)) (by decide) (by rfl) (by rfl)) (by rfl) (by first | exact .inl rfl | exact .inr rfl | assumption)) (@pss_one _ _ _ (ps_dputN (u2 hr.units) (pv 7) (pv 11) (@pe_tup _ _ _ _ _ (@pa_cons _ _ _ _ _ (pv 12) (@pa_cons _ _ _ _ _ (@pe_call _ _ _ _ _ _ _ _ _ _ _ _ _ _ _ _ (ok_minus T) (hr.mono (by decide)) rfl T.m_minus T.F_minus.kp T.b_minus .nil pass0 (@pa_cons _ _ _ _ _ (@pe_ix _ _ _ _ _ _ _ ix_tup (pv 9) pe_int (fun _ _=>rfl)) (@pa_cons _ _ _ _ _ (pv 12) pa_nil (by rfl)) (by rfl)) (by decide) (by rfl) (by rfl)) pa_nil (by rfl)) (by rfl))) rfl))) pss_nil) (@pss_one _ _ _ (@ps_expr _ _ _ _ (pe_bm PySem.F.plainAttrs_list PySem.F.slot_list_append PySem.F.type_list_append mt_append (pv 8) (@pa_cons _ _ _ _ _ (@pe_tup _ _ _ _ _ (@pa_cons _ _ _ _ _ (@pe_ix _ _ _ _ _ _ _ ix_tup (pe_dgetN (u2 hr.units) (pv 7) (pv 11) (fun _ _=>rfl)) pe_int (fun _ _=>rfl)) (@pa_cons _ _ _ _ _ (@pe_call _ _ _ _ _ _ _ _ _ _ _ _ _ _ _ _ (ok_with_kept T) (hr.mono (by decide)) rfl T.m_with_kept T.F_with_kept.kp T.b_with_kept .nil pass0 (@pa_cons _ _ _ _ _ (@pe_ix _ _ _ _ _ _ _ ix_tup (pv 9) pe_int (fun _ _=>rfl)) (@pa_cons _ _ _ _ _ (pv 3) (@pa_cons _ _ _ _ _ (@pe_ix _ _ _ _ _ _ _ ix_tup (pe_dgetN (u2 hr.units) (pv 7) (pv 11) (fun _ _=>rfl)) pe_int (fun _ _=>rfl)) pa_nil (by rfl)) (by rfl)) (by rfl)) (by decide) (by rfl) (by rfl)) pa_nil (by rfl)) (by rfl))) pa_nil (by rfl))) (by rfl)))))) (@pss_one _ _ _ (@ps_ret _ _ _ _ (pv 8)))))))),?_⟩
 have vl:=vls_len ls
 have xl:(shv xs).length=xs.length:=List.length_map ..
 have zl:(sharesD ls xs s hd).length=ls.length:=by unfold sharesD;rw [List.length_map,List.length_zip,le,Nat.min_self]
 subst_eqs
 refine ⟨l,st,rfl,⟨_,SqL.of hl⟩,⟨_,SqL.of hs⟩,?_⟩
 refine comp_zip (xs:=vls ls) (zs:=shv xs) rfl rfl (by omega) (by rw [vl];exact small63 (by omega)) (fun D i ys J=>∃fs:List Fq,ys=fqv fs/\J D=some (.lst ys)/\fs.length=i/\Same H J/\(∀f∈fs,FqG J f)/\fs.map (·.2)=(sharesD ls xs s hd).take i) (fun D hD=>⟨[],rfl,upd_same,rfl,same_new hD _,(fun _ m=>absurd m List.not_mem_nil),rfl⟩) (fun D i ys J hq_=>by obtain ⟨fs,f1,f2,f3,_⟩:=hq_;exact ⟨f2,by rw [f1];unfold fqv;rw [List.length_map,f3];exact Nat.le_refl _⟩) (fun D i ys J hD hq_=>by obtain ⟨_,_,_,_,f4,_⟩:=hq_;exact ⟨SqL.of (f4 _ _ hl),SqL.of (f4 _ _ hs)⟩) ?_ ?_
 ·rintro D i x y T ys J K1 K2 hD hx hy ⟨fs,rfl,n1,n2,n3,n4,n5⟩ hT kk1 kk2
  obtain ⟨f,hf,rfl,fm,et⟩:=vls_get hx
  unfold shv at hy
  rw [List.getElem?_map] at hy
  obtain ⟨g,hg,rfl⟩:=Option.map_eq_some_iff.mp hy
  obtain ⟨gg,gb,ggc,gl'⟩:=gx g (List.mem_of_getElem? hg)
  have s1:=same_new hT (.tup [V.ref f.1,V.ref g.1])
  generalize upd J T (.tup [V.ref f.1,V.ref g.1])=J1 at s1 ⊢
  have sJ:=n3.trans s1
  refine yes (ifT rfl ?_)
  refine ⟨_,rfl,f.1,_,_,_,rfl,rfl,SqT.of (sJ _ _ (gl f fm).1),rfl,?_⟩
  refine ⟨_,rfl,g.1,_,_,_,rfl,rfl,SqT.of (sJ _ _ gg.t),rfl,?_⟩
  refine ⟨_,rfl,_,rfl,?_⟩
  refine ⟨f.2.1,h,hd,f.2.2.1,g.2.1,s,rfl,sJ _ _ (gl f fm).2,gg.f.same sJ,gb.fq M0 (Mz.mono (by decide)),h12,hh,(li f fm).1,fun a J2 s2 g2=>?_⟩
  have n1':=(s1.trans s2) _ _ n1
  refine kk1 _ _ n1' ⟨fs++[(a,shareD f.2.2.1 s hd g.2.1.2)],by unfold fqv;rw [List.map_append];rfl,upd_same,by rw [List.length_append,n2];rfl,same_upd (n3.trans (s1.trans s2)) hD,(fun f m=>FqG.upd ?_ n1'),?_⟩
  ·rcases List.mem_append.mp m with m | m
   ·exact (n4 f m).same (s1.trans s2)
   ·rw [List.mem_singleton.mp m];exact g2
  ·have tz:(sharesD ls xs s hd)[i]?=some (shareD f.2.2.1 s hd g.2.1.2):=by
    unfold sharesD
    rw [List.getElem?_map,show (ls.zip xs)[i]?=some (f,g) from List.getElem?_zip_eq_some.mpr ⟨hf,hg⟩]
    rfl
   rw [List.take_add_one,tz,List.map_append,n5]
   rfl
 rintro D ys H1 hD ⟨fs,rfl,e1,fl,s1,g1,v1⟩
 rw [vl,<- zl,List.take_of_length_le (Nat.le_refl _)] at v1
 rw [vl] at fl
 have M1:0 < M*27720:=by omega
 have Mz1:Sz 2225 (M*27720):=(Mz.mul (sz_of (by decide) (by decide):Sz 15 (27720:Int))).mono (by decide)
 have flow:∀f∈fs,FqM (M*27720) f.2/\gcdI f.2.1 f.2.2=1:=fun f m=>by
  have:f.2∈fs.map (·.2):=List.mem_map.mpr ⟨f,m,rfl⟩
  rw [v1] at this
  obtain ⟨p,pm,e⟩:=List.mem_map.mp this
  rw [<- e]
  obtain ⟨_,pm1,pm2,_⟩:=gx p.2 (List.of_mem_zip pm).2
  obtain ⟨a1,a2,_⟩:=share_m (ts:=p.1.2.2.1) (s:=s) (hd:=hd) (by omega) M0 pm1 pm2
  exact ⟨a1,a2⟩
 subst_eqs
 refine ⟨l,D,ls,fs,M*27720,rfl,s1 _ _ hl,(fun q m=>⟨s1 _ _ (gl q m).1,s1 _ _ (gl q m).2⟩),e1,(fun f m=>⟨g1 f m,(flow f m).1⟩),M1,Mz1.mono (by decide),by omega,l60,(fun q m=>(li q m).2),fun T v H2 s2 wi g2=>?_⟩
 obtain ⟨t0v,v0,vg,vzb,_,vzt⟩:=wm_sz wi M1 Mz1 (fun q m=>(li q m).2) (fun f m=>(flow f m).1) l60
 subst_eqs
 refine ⟨(T,v),qu,rfl,g2,v0,q1,szq.mono (by decide),vzt.mono (by decide),vzb.mono (by decide),fun pa H3 s3 g3=>?_⟩
 have pr:=part_m (n:=0) v0 q1 vzt
 generalize hpt:partD v qu=part at g3 pr
 have s13:=s2.trans s3
 have s03:=s1.trans s13
 have g3':H3 pa=some (.tup [.int part.1,.int part.2]):=g3
 subst_eqs
 intro d ob hd0 nt0
 have s4:=same_new hd0 (hoF d ob)
 generalize upd H3 d (hoF d ob)=H4 at s4 nt0 ⊢
 subst_eqs
 refine ⟨(by show 0<=sizeLine;decide),fun bh hbh=>?_⟩
 have s5:=same_new hbh (.lst [])
 have e5:(upd H4 bh (.lst [])) bh=some (.lst []):=upd_same
 generalize upd H4 bh (.lst [])=H5 at s5 e5 ⊢
 have dH:H d=none:=none_of s03 hd0
 have bH:H bh=none:=none_of (s03.trans s4) hbh
 subst_eqs
 refine ⟨st,D,rfl,⟨_,SqL.of ((s03.trans (s4.trans s5)) _ _ hs)⟩,⟨_,SqL.of ((s13.trans (s4.trans s5)) _ _ e1)⟩,?_⟩
 refine for_zip (xs:=shv xs) (ys:=fqv fs) (by unfold fqv;rw [xl,List.length_map];omega) (fun i σ' J=>∃(v9 v10 v11 v12:Option V) (kvs:List (List (List Key) × V)) (ys:List Sh),σ'=[some (.ref l),some (.ref st),some (.int s),some (.int (hd:Int)),some (.int qu),some (.ref D),some (.ref pa),some (.ref d),some (.ref bh),v9,v10,v11,v12]/\Same H3 J/\NT P w J d kvs/\kvs.length<=i/\RIn part J kvs/\J bh=some (.lst (shv ys))/\ys.length=i/\(∀y∈ys,ShG J y/\H y.2.2.1=none/\y.2.2.1≠bh)/\(ys.map fun y=>y.2.2.1).Nodup/\ys.map shV=((xs.zip (sharesD ls xs s hd)).take i).map fun p=>keptV hd p.2 part (shV p.1)) ⟨none,none,none,none,[],[],rfl,s4.trans s5,nt0.same s5,Nat.le_refl _,(fun k v z=>nomatch z),e5,rfl,(fun _ m=>absurd m List.not_mem_nil),List.nodup_nil,rfl⟩ (fun i σ' J _ hq_=>by obtain ⟨_,_,_,_,_,_,_,e,_⟩:=hq_;exact ⟨SqL.of (e _ _ (s03 _ _ hs)),SqL.of (e _ _ (s13 _ _ e1))⟩) ?_ ?_
 ·rintro i x0 y0 T0 σ' J hx hy ⟨v9,v10,v11,v12,kvs,ys,rfl,sJ,nt,kl,ri,eb,yl,gy,nd,vy⟩ hT0
  unfold shv at hx
  rw [List.getElem?_map] at hx
  obtain ⟨x,hx',rfl⟩:=Option.map_eq_some_iff.mp hx
  unfold fqv at hy
  rw [List.getElem?_map] at hy
  obtain ⟨f,hf,rfl⟩:=Option.map_eq_some_iff.mp hy
  obtain ⟨gx0,lx,lxg,lenx⟩:=gx x (List.mem_of_getElem? hx')
  have fm:=List.mem_of_getElem? hf
  obtain ⟨lf,lfg⟩:=flow f fm
  have lzt:=lf.szt M1 Mz1
  have lzb:=lf.szb M1 Mz1
  obtain ⟨glo,gle⟩:=given_g lf.t0 lf.b0 lzt lzb pr
  have s6:=same_new hT0 (.tup [V.ref x.1,V.ref f.1])
  have e6:(upd J T0 (.tup [V.ref x.1,V.ref f.1])) T0=some (.tup [V.ref x.1,V.ref f.1]):=upd_same
  generalize upd J T0 (.tup [V.ref x.1,V.ref f.1])=J1 at s6 e6 ⊢
  have xt1:=(s03.trans (sJ.trans s6)) _ _ gx0.t
  refine ⟨T0,_,rfl,SqT.of e6,rfl,_,_,rfl,_,_,rfl,rfl,?_⟩
  subst_eqs
  refine ⟨(by show 2<=sizeLine;decide),fun A hA=>?_⟩
  have s7:=same_new hA (.tup [V.ref x.2.1.1,V.ref f.1])
  have e7:(upd J1 A (.tup [V.ref x.2.1.1,V.ref f.1])) A=some (.tup [V.ref x.2.1.1,V.ref f.1]):=upd_same
  generalize upd J1 A (.tup [V.ref x.2.1.1,V.ref f.1])=J2 at s7 e7 ⊢
  have s67:=s6.trans s7
  have sJ2:=sJ.trans s67
  have gxJ:=gx0.same (s03.trans sJ2)
  have gfJ:=(g1 f fm).same (s13.trans sJ2)
  have key:=nkey_fs (f:=x.2.1) (s:=f) e7 gxJ.f gfJ
  have nt2:=nt.same s67
  have ri2:=ri.same s67
  have xt2:=gxJ.t
  have ge:L2' (givenD f.2 part) x.2.1.2:=by
   refine L2'.trans lf.b0 (Int.le_of_lt glo.b0) (Int.le_of_lt lx.b0) gle ?_
   have:f.2∈fs.map (·.2):=List.mem_map.mpr ⟨f,fm,rfl⟩
   have hz:(sharesD ls xs s hd)[i]?=some f.2:=by rw [<- v1,List.getElem?_map,hf];rfl
   unfold sharesD at hz
   rw [List.getElem?_map] at hz
   obtain ⟨pp,hp,e⟩:=Option.map_eq_some_iff.mp hz
   obtain ⟨p1,p2⟩:=List.getElem?_zip_eq_some.mp hp
   have:pp.2=x:=Option.some.inj (p2.symm.trans hx')
   rw [<- e,this]
   exact (share_m (by omega) M0 lx lxg).2.2
  obtain ⟨ob2,hob2⟩:∃ob,J2 d=some (hoF d ob):=by obtain ⟨ob,z,_⟩:=id nt2;exact ⟨ob,z⟩
  subst_eqs
  refine ⟨fun σ' J3=>∃(v12:Option V) (kvs':List (List (List Key) × V)),σ'=[some (.ref l),some (.ref st),some (.int s),some (.int (hd:Int)),some (.int qu),some (.ref D),some (.ref pa),some (.ref d),some (.ref bh),some (.ref x.1),some (.ref f.1),some (.ref A),v12]/\OffD d J2 J3/\NT P w J3 d kvs'/\kvs'.length<=i+1/\RIn part J3 kvs'/\∃u,valV kvs' (nk x.2.1.2 f.2)=some u,?_,?_⟩
  ·subst_eqs
   refine ⟨d,A,kvs,nk x.2.1.2 f.2,rfl,rfl,nt2,key,?_⟩
   cases hv:valV kvs (nk x.2.1.2 f.2) with
   | some u =>
     subst_eqs
     exact ⟨_,kvs,rfl,(fun b u e _=>e),nt2,by omega,ri2,u,hv⟩
   | none =>
     subst_eqs
     refine ⟨f.1,pa,f.2.1,f.2.2,part.1,part.2,rfl,gfJ,sJ2 _ _ g3,(by show f.2.2*part.2≠0;exact Int.ne_of_gt (Int.mul_pos lf.b0 pr.b0)),lzt.mono (by decide),lzb.mono (by decide),pr.szt.mono (by decide),pr.szb.mono (by decide),fun g J4 s8 g8=>?_⟩
     have g8':FqG J4 (g,givenD f.2 part):=g8
     have xt4:=s8 _ _ xt2
     subst_eqs
     refine ⟨x.2.1.1,g,x.2.1.2.1,x.2.1.2.2,(givenD f.2 part).1,(givenD f.2 part).2,rfl,s8 _ _ gxJ.f,g8',(by show x.2.1.2.2*(givenD f.2 part).2≠0;exact Int.ne_of_gt (Int.mul_pos lx.b0 glo.b0)),(lx.szt M0 Mz).mono (by decide),(lx.szb M0 Mz).mono (by decide),glo.szt.mono (by decide),glo.szb.mono (by decide),fun r J5 s9 g9=>?_⟩
     have g9':FqG J5 (r,restD x.2.1.2 (givenD f.2 part)):=g9
     subst_eqs
     refine ⟨(by show 2<=sizeLine;decide),fun tt htt=>?_⟩
     have s10:=same_new htt (.tup [V.ref g,V.ref r])
     have e10:(upd J5 tt (.tup [V.ref g,V.ref r])) tt=some (.tup [V.ref g,V.ref r]):=upd_same
     generalize upd J5 tt (.tup [V.ref g,V.ref r])=J6 at s10 e10 ⊢
     have s26:=s8.trans (s9.trans s10)
     subst_eqs
     refine ⟨d,A,kvs,nk x.2.1.2 f.2,rfl,rfl,nt2.same s26,key.same s26,Nat.lt_of_le_of_lt kl (Nat.lt_of_lt_of_le (List.getElem?_eq_some_iff.mp hf).1 (by rw [fl];exact small63 (by omega))),fun ob3 nt3=>?_⟩
     have hob6:J6 d=some (hoF d ob2):=s26 _ _ hob2
     have tk:∀b zs,J6 b=some (.tup zs)->(upd J6 d (hoF d ob3)) b=some (.tup zs):=fun b zs e=>by rw [upd_ne (ne_of e hob6 (fun z=>by cases z))];exact e
     refine ⟨_,_,rfl,(fun b u e n=>by rw [upd_ne n];exact s26 _ _ e),nt3,Nat.le_trans (length_putK ..) (by omega),((ri2.same s26).put e10 (g8'.same (s9.trans s10)) (g9'.same s10)).tups tk,.ref tt,?_⟩
     rw [valV_put,if_pos rfl]
  rintro σ' J3 ⟨v12',kvs',rfl,oD,nt3,kl3,ri3,u,hu⟩
  obtain ⟨fr,sh,tt,g,r,k1,rfl,k3,k4,k5⟩:=ri3 _ _ hu
  obtain ⟨rfl,rfl⟩:=nk_inj k1
  have eb3:=oD.lst hob2 _ _ (s67 _ _ eb)
  have gx3:=oD.sh hob2 gxJ
  have xt3:=gx3.t
  have key3:=key.tups (oD.tup hob2)
  subst_eqs
  refine ⟨.inl ⟨rfl,_,SqL.of eb3⟩,?_⟩
  subst_eqs
  refine ⟨d,A,kvs',nk x.2.1.2 f.2,.ref tt,rfl,rfl,nt3,key3,hu,?_⟩
  subst_eqs
  refine ⟨d,A,kvs',nk x.2.1.2 f.2,.ref tt,rfl,rfl,nt3,key3,hu,?_⟩
  subst_eqs
  refine ⟨x.2.2.1,hd,x.2.2.2,(g,givenD f.2 part),rfl,gx3.l,gx3.k,k4,by omega,by omega,fun kl2 J4 hkl s8 e8=>?_⟩
  refine ⟨(by show 2<=sizeLine;decide),fun t2 ht2=>?_⟩
  have s9:=same_new ht2 (.tup [V.ref r,V.ref kl2])
  have e9:(upd J4 t2 (.tup [V.ref r,V.ref kl2])) t2=some (.tup [V.ref r,V.ref kl2]):=upd_same
  generalize upd J4 t2 (.tup [V.ref r,V.ref kl2])=J5 at s9 e9 ⊢
  have s89:=s8.trans s9
  have eb5:=s89 _ _ eb3
  have klb:kl2≠bh:=fun z=>by rw [z,eb3] at hkl;cases hkl
  have sJ3:∀b u,H3 b=some u->J3 b=some u:=fun b u e=>oD b u (sJ2 _ _ e) (ne_of_none e hd0)
  have klH:H kl2=none:=none_of (show Same H J3 from fun b u e=>sJ3 b u (s03 _ _ e)) hkl
  have tz:(xs.zip (sharesD ls xs s hd))[i]?=some (x,f.2):=List.getElem?_zip_eq_some.mpr ⟨hx',by rw [<- v1,List.getElem?_map,hf];rfl⟩
  refine ⟨bh,_,_,rfl,rfl,eb5,(by unfold shv;rw [List.length_map,yl];exact small1000 (by have:=(List.getElem?_eq_some_iff.mp hf).1;omega)),?_⟩
  refine ⟨_,_,_,_,kvs',ys++[(t2,(r,restD x.2.1.2 (givenD f.2 part)),kl2,x.2.2.2.set hd (g,givenD f.2 part))],rfl,same_upd (fun b u e=>s89 _ _ (sJ3 b u e)) (none_of s4 hbh),?_,kl3,?_,(by rw [upd_same];unfold shv;rw [List.map_append];rfl),by rw [List.length_append,yl];rfl,(fun y k=>?_),?_,?_⟩
  ·obtain ⟨ob5,z1,z2,z3,xs5,z4,z5⟩:=nt3.same s89
   exact ⟨ob5,by rw [upd_ne (fun z=>by rw [z,eb5] at z1;cases z1)];exact z1,z2,z3,xs5,z4.tups fun c cs e=>by rw [upd_ne (ne_of e eb5 (fun z=>by cases z))];exact e,z5⟩
  ·exact (ri3.same s89).tups fun c cs e=>by rw [upd_ne (ne_of e eb5 (fun z=>by cases z))];exact e
  ·rcases List.mem_append.mp k with k | k
   ·obtain ⟨a1,a2,a3⟩:=gy y k
    exact ⟨(((oD.sh hob2 (a1.same s67)).same s89)).upd eb5 a3,a2,a3⟩
   ·rw [List.mem_singleton.mp k]
    refine ⟨ShG.upd ⟨e9,k5.same s89,s9 _ _ e8,fun z zm=>?_⟩ eb5 klb,klH,klb⟩
    rcases List.mem_or_eq_of_mem_set zm with zm | rfl
    ·exact (gx3.k z zm).same s89
    ·exact k4.same s89
  ·rw [List.map_append,List.nodup_append]
   refine ⟨nd,List.nodup_cons.mpr ⟨(fun m=>nomatch m),List.nodup_nil⟩,fun y m z k e=>?_⟩
   obtain ⟨y',ym,rfl⟩:=List.mem_map.mp m
   rw [List.mem_singleton.mp k] at e
   have:=(oD.sh hob2 ((gy y' ym).1.same s67)).l
   rw [e] at this
   rw [hkl] at this
   cases this
  ·rw [List.take_add_one,tz,List.map_append,List.map_append,vy]
   show _++[_]=_++[_]
   congr 2
   show ((restD x.2.1.2 (givenD f.2 part)),(x.2.2.2.set hd (g,givenD f.2 part)).map (·.2))=(restD x.2.1.2 (givenD f.2 part),(x.2.2.2.map (·.2)).set hd (givenD f.2 part))
   rw [List.map_set]
 rintro σ' J ⟨v9,v10,v11,v12,kvs,ys,rfl,sJ,nt,kl,ri,eb,yl,gy,nd,vy⟩
 rw [xl,List.take_of_length_le (by rw [List.length_zip,zl,le,Nat.min_self];exact Nat.le_refl _)] at vy
 subst_eqs
 rw [<- hpt] at vy
 exact q bh ys fs v J bH (s03.trans sJ) eb gy nd v1 wi vy
theorem ok_state_behind (T:Tx K mg ad):FnOk P w K mg base CX0 6 ad.f_state_behind ad.d_state_behind ["sheet","state","standing","deed","quota"] spBehind22:=by
 refine T.F_state_behind.ok sc_state_behind (fun vs H Q E h=>?_) (fun cdv A outer s H vs Q E hr h=>?_)
 ·obtain ⟨l,st,dt,h,ls,xs,rs,s,qu,M,d,rfl,_⟩:=h
  rfl
 obtain ⟨l,st,dt,h,ls,xs,rs,s,qu,M,d,rfl,hd,hm,hl,gl,hs,gx,xv,si,M0,le,l60,h12,q1,szq,li,q⟩:=h
 refine ⟨_,(@pss_cons _ _ _ _ _ (@ps_if _ _ _ _ _ _ _ _ (@pt_cmpR _ _ _ _ _ _ _ _ op_eq (@pe_ix _ _ _ _ _ _ _ ix_tup (pv 3) pe_int (fun _ _=>rfl)) pe_str (nomark _)) (@pss_one _ _ _ (@ps_ret _ _ _ _ (@pe_call _ _ _ _ _ _ _ _ _ _ _ _ _ _ _ _ (ok_kept_by T) (hr.mono (by decide)) rfl T.m_kept_by T.F_kept_by.kp T.b_kept_by .nil pass0 (@pa_cons _ _ _ _ _ (pv 0) (@pa_cons _ _ _ _ _ (pv 1) (@pa_cons _ _ _ _ _ (pv 2) (@pa_cons _ _ _ _ _ (@pe_ix _ _ _ _ _ _ _ ix_tup (pv 3) pe_int (fun _ _=>rfl)) (@pa_cons _ _ _ _ _ (pv 4) pa_nil (by rfl)) (by rfl)) (by rfl)) (by rfl)) (by rfl)) (by decide) (by rfl) (by rfl)))) pss_nil) (@pss_one _ _ _ (@ps_ret _ _ _ _ (pv 1)))),?_⟩
 have hn:∀p∈dsOf ls,0<=p.2:=fun p m=>by obtain ⟨x,xm,rfl⟩:=List.mem_map.mp m;exact (li x xm).2.1
 have h0:∀x∈rs,0<=x.1:=fun x m=>(si.free x m).1
 have xin:∀x∈xs,FqM M x.2.1.2/\gcdI x.2.1.2.1 x.2.1.2.2=1/\x.2.2.2.length=h:=fun x m=>by
  have:shV x∈rs.map encS:=by rw [<- xv];exact List.mem_map.mpr ⟨x,m,rfl⟩
  obtain ⟨r,rm,e⟩:=List.mem_map.mp this
  obtain ⟨f0,f1,f2⟩:=si.free r rm
  have e1:pr r.1=x.2.1.2:=congrArg Prod.fst e
  have e2:r.2.map pr=x.2.2.2.map (·.2):=congrArg Prod.snd e
  refine ⟨by rw [<- e1];exact fqm_pr f0 f1 f2,by rw [<- e1];exact pr_gcd _,?_⟩
  have:=congrArg List.length e2
  rw [List.length_map,List.length_map,si.len r rm] at this
  exact this.symm
 cases d with
 | seat hd' =>
   obtain ⟨hh,Mz⟩:=hm hd' rfl
   have hd1:H dt=some (.tup [.str "seat",.int (hd':Int)]):=hd
   and_intros
   refine ⟨l,st,h,hd',ls,xs,s,qu,M,rfl,hl,gl,hs,(fun x m=>⟨gx x m,xin x m⟩),M0,Mz,le,l60,h12,hh,q1,szq,li,fun a ys fs v H' ha s' e' g' nd fv wm vy=>?_⟩
   refine q a ys H' s' e' (fun y m=>⟨(g' y m).1,.inl (g' y m).2.1⟩) (.inl ha) ?_
   rw [shares_is (by omega) xv h0] at fv
   have sn:∀r∈sharesR (dsOf ls) rs s hd',0<=r:=fun r m=>by
    obtain ⟨p,pm,rfl⟩:=List.mem_map.mp m
    exact (share_nn (h0 _ (List.of_mem_zip pm).2) (by omega)).1
   rw [vy,wm_is wm fv hn sn]
   exact next_is (by omega) q1 xv h0 hn
 | out hd' =>
   have hd1:H dt=some (.tup [.str "out",.int (hd':Int)]):=hd
   and_intros
   exact q st xs H (fun _ _ e=>e) hs (fun x m=>⟨gx x m,.inr ⟨x,m,rfl⟩⟩) (.inr rfl) xv
 | rest =>
   have hd1:H dt=some (.tup [.str "rest",.non]):=hd
   and_intros
   exact q st xs H (fun _ _ e=>e) hs (fun x m=>⟨gx x m,.inr ⟨x,m,rfl⟩⟩) (.inr rfl) xv
 | fin =>
   have hd1:H dt=some (.tup [.str "end",.non]):=hd
   and_intros
   exact q st xs H (fun _ _ e=>e) hs (fun x m=>⟨gx x m,.inr ⟨x,m,rfl⟩⟩) (.inr rfl) xv
theorem ok_along (T:Tx K mg ad):FnOk P w K mg base CX0 7 ad.f_along ad.d_along ["sheet","hands","quota","deeds"] spAlong44:=by
 refine T.F_along.ok sc_along (fun vs H Q E h=>?_) (fun cdv A outer s H vs Q E hr h=>?_)
 ·obtain ⟨l,dl,h,qu,ls,ds,rfl,_⟩:=h
  rfl
 obtain ⟨l,dl,h,qu,ls,ds,rfl,hl,gl,okl,l60,nN,q1,qz,hdl,gd,od,se,h12,q⟩:=h
 refine ⟨_,(@pss_cons _ _ _ _ _ (@ps_set _ _ (4) _ _ _ _ sc_along.nd rfl (Or.inl rfl) (@pe_call _ _ _ _ _ _ _ _ _ _ _ _ _ _ _ _ (ok_begin T) (hr.mono (by decide)) rfl T.m_begin T.F_begin.kp T.b_begin .nil pass0 (@pa_cons _ _ _ _ _ (pv 0) (@pa_cons _ _ _ _ _ (pv 1) pa_nil (by rfl)) (by rfl)) (by decide) (by rfl) (by rfl)) (by rfl) (by first | exact .inl rfl | exact .inr rfl | assumption)) (@pss_cons _ _ _ _ _ (@ps_set _ _ (5) _ _ _ _ sc_along.nd rfl (Or.inl rfl) (@pe_call _ _ _ _ _ _ _ _ _ _ _ _ _ _ _ _ (ok_all_of T) (hr.mono (by decide)) rfl T.m_all_of T.F_all_of.kp T.b_all_of .nil pass0 (@pa_cons _ _ _ _ _ (pv 1) pa_nil (by rfl)) (by decide) (by rfl) (by rfl)) (by rfl) (by first | exact .inl rfl | exact .inr rfl | assumption)) (@pss_cons _ _ _ _ _ (ps_for PassesOwn.never rfl (pi_list (pv 3)) (pg_name (i:=6) sc_along.nd rfl (Or.inl rfl)) (@pss_cons _ _ _ _ _ (@ps_set _ _ (4) _ _ _ _ sc_along.nd rfl (Or.inl rfl) (@pe_call _ _ _ _ _ _ _ _ _ _ _ _ _ _ _ _ (ok_state_behind T) (hr.mono (by decide)) rfl T.m_state_behind T.F_state_behind.kp T.b_state_behind .nil pass0 (@pa_cons _ _ _ _ _ (pv 0) (@pa_cons _ _ _ _ _ (pv 4) (@pa_cons _ _ _ _ _ (pv 5) (@pa_cons _ _ _ _ _ (pv 6) (@pa_cons _ _ _ _ _ (pv 2) pa_nil (by rfl)) (by rfl)) (by rfl)) (by rfl)) (by rfl)) (by decide) (by rfl) (by rfl)) (by rfl) (by first | exact .inl rfl | exact .inr rfl | assumption)) (@pss_one _ _ _ (@ps_set _ _ (5) _ _ _ _ sc_along.nd rfl (Or.inl rfl) (@pe_call _ _ _ _ _ _ _ _ _ _ _ _ _ _ _ _ (ok_without T) (hr.mono (by decide)) rfl T.m_without T.F_without.kp T.b_without .nil pass0 (@pa_cons _ _ _ _ _ (pv 5) (@pa_cons _ _ _ _ _ (@pe_ix _ _ _ _ _ _ _ ix_tup (pv 6) pe_int (fun _ _=>rfl)) pa_nil (by rfl)) (by rfl)) (by decide) (by rfl) (by rfl)) (by rfl) (by first | exact .inl rfl | exact .inr rfl | assumption))))) (@pss_one _ _ _ (@ps_ret _ _ _ _ (@pe_call _ _ _ _ _ _ _ _ _ _ _ _ _ _ _ _ (ok_tallies T) (hr.mono (by decide)) rfl T.m_tallies T.F_tallies.kp T.b_tallies .nil pass0 (@pa_cons _ _ _ _ _ (pv 0) (@pa_cons _ _ _ _ _ (@pe_call _ _ _ _ _ _ _ _ _ _ _ _ _ _ _ _ (ok_table T) (hr.mono (by decide)) rfl T.m_table T.F_table.kp T.b_table .nil pass0 (@pa_cons _ _ _ _ _ (pv 0) (@pa_cons _ _ _ _ _ (pv 4) (@pa_cons _ _ _ _ _ (pv 5) pa_nil (by rfl)) (by rfl)) (by rfl)) (by decide) (by rfl) (by rfl)) (@pa_cons _ _ _ _ _ (pv 1) pa_nil (by rfl)) (by rfl)) (by rfl)) (by decide) (by rfl) (by rfl))))))),?_⟩
 have hn:∀p∈dsOf ls,0<=p.2:=fun p m=>by obtain ⟨x,xm,rfl⟩:=List.mem_map.mp m;exact (okl x xm).2.1
 have okk:∀p∈dsOf ls,Okk h p.1:=fun p m=>by obtain ⟨x,xm,rfl⟩:=List.mem_map.mp m;exact (okl x xm).1.1
 have dl':(dsOf ls).length=ls.length:=by unfold dsOf;rw [List.length_map]
 have p20:(0:Int) < 2 ^ h:=Int.pow_pos (by decide)
 have p2h:(2:Int) ^ h<=4096:=by
  have:=Nat.pow_le_pow_right (show 0 < 2 by decide) h12
  exact_mod_cast this
 subst_eqs
 refine ⟨l,h,ls,rfl,hl,l60,h12,fun sa xh H2 hsa t2 e2 g2 nd2 xl2=>?_⟩
 subst_eqs
 refine ⟨by omega,by omega,?_⟩
 have xv2:xh.map shV=(startR ls.length h).map encS:=by
  unfold startR
  rw [List.map_replicate]
  refine List.ext_getElem? fun i=>?_
  rw [List.getElem?_map,List.getElem?_replicate]
  by_cases c:i < ls.length
  ·obtain ⟨x,hx'⟩:∃x,xh[i]?=some x:=⟨_,List.getElem?_eq_getElem (by omega)⟩
   obtain ⟨_,a1,a2,_⟩:=g2 x (List.mem_of_getElem? hx')
   rw [hx',if_pos c]
   show some (shV x)=some (encS (1,List.replicate h 0))
   unfold shV encS
   rw [a1,a2,List.map_replicate]
   rfl
  ·rw [List.getElem?_eq_none (by omega),if_neg c]
   rfl
 have start1:(1:Int)*2 ^ (h:Int).toNat - 1=2 ^ h - 1:=by rw [Int.one_mul,Int.toNat_natCast]
 have hdl2:=t2 _ _ hdl
 subst_eqs
 refine ⟨⟨_,SqL.of hdl2⟩,for_list (xs:=dev ds) (fun i σ' J=>∃(sa:Addr) (m:Int) (v6:Option V) (xh:List Sh) (φ:List Int->Sr) (fd:List Rat) (M:Int) (k:Nat),σ'=[some (.ref l),some (.int (h:Int)),some (.int qu),some (.ref dl),some (.ref sa),some (.int m),v6]/\Same H J/\J sa=some (.lst (shv xh))/\(∀x∈xh,ShG J x)/\xh.map shV=(stF (dsOf ls) φ).map encS/\StI M h (stF (dsOf ls) φ)/\0 < M/\Sz (mB k) M/\k+((ds.map (·.2)).drop i).countP isSeat<=6/\0<=m/\m < 2 ^ h/\OkD h ((ds.map (·.2)).drop i) m/\RunA (dsOf ls) h φ m fd/\goA (dsOf ls) h qu ((ds.map (·.2)).drop i) φ m fd=alongR (dsOf ls) h qu (ds.map (·.2))) ⟨sa,2 ^ h - 1,none,xh,(fun _=>(1,List.replicate h 0)),List.replicate h 0,1,0,(by rw [start1];rfl),t2,e2,(fun x k=>(g2 x k).1),(by rw [xv2,<- dl',start_f]),(by rw [<- start_f];exact start_ok _ _),by decide,(sz_of (by decide) (by decide):Sz 1 (1:Int)),by rw [List.drop_zero];omega,by omega,by omega,od,RunA.start _ _,rfl⟩ (fun i σ' J _ hq=>by
  obtain ⟨_,_,_,_,_,_,_,_,_,e,_⟩:=hq
  exact SqL.of (e _ _ hdl)) ?_ ?_⟩
 ·rintro i w σ' J hw ⟨sa,m,v6,xh,φ,fd,M,k,rfl,sJ,esa,gxh,xv,si,M0,Mz,kk,m0,m1,oi,R,eqF⟩
  obtain ⟨x,hx,rfl⟩:∃x,ds[i]?=some x/\w=.ref x.1:=by
   unfold dev at hw
   rw [List.getElem?_map] at hw
   obtain ⟨x,h1,h2⟩:=Option.map_eq_some_iff.mp hw
   exact ⟨x,h1,h2.symm⟩
  have gx:=(gd x (List.mem_of_getElem? hx)).same sJ
  have dr:(ds.map (·.2)).drop i=x.2 :: (ds.map (·.2)).drop (i+1):=by
   rw [List.drop_eq_getElem_cons (by rw [List.length_map];exact (List.getElem?_eq_some_iff.mp hx).1)]
   congr 1
   rw [List.getElem_map,(List.getElem?_eq_some_iff.mp hx).2]
  rw [dr] at kk oi eqF
  obtain ⟨⟨hd,ch,hh,bh⟩,oi2⟩:=oi
  have hd12:hd < 12:=by omega
  obtain ⟨lm0,lb,ll⟩:=less_len m0 bh hd12
  obtain ⟨R2,_⟩:=R.step hn q1 h12 m0 ⟨hd,ch,hh,bh⟩
  have stl:(stF (dsOf ls) φ).length=ls.length:=by rw [stF_len,dl']
  have lesz:ls.length=xh.length:=by
   have:=congrArg List.length xv
   rw [List.length_map,List.length_map] at this
   omega
  have p0:(0:Int) < 2 ^ hd:=Int.pow_pos (by decide)
  unfold DeG at gx
  subst_eqs
  refine ⟨l,sa,x.1,h,ls,xh,stF (dsOf ls) φ,m,qu,M,x.2,rfl,gx,(fun hd2 e=>?_),sJ _ _ hl,gl.same sJ,esa,gxh,xv,si,M0,lesz,l60,h12,q1,qz,(fun q k=>⟨lies_of (okl q k).1,(okl q k).2⟩),fun a2 ys J6 u6 e6 g6 n6 v6'=>?_⟩
  ·rcases ch with c | c
   ·rw [c] at e kk
    injection e with e
    rw [<- e]
    rw [List.countP_cons_of_pos (by rfl)] at kk
    exact ⟨hh,Mz.mono (mB_le (by omega))⟩
   ·rw [c] at e
    cases e
  have gx6:=u6 _ _ gx
  have wh:x.2.who=.int (hd:Int)/\x.2.num=hd:=by rcases ch with c | c <;> rw [c] <;> exact ⟨rfl,rfl⟩
  rw [wh.1] at gx6
  rw [wh.2] at oi2 R2
  subst_eqs
  refine ⟨m,(hd:Int),rfl,by omega,by omega,?_⟩
  rw [Int.toNat_natCast,less_is,if_pos bh,Int.mul_one]
  subst_eqs
  have nx:behindR (dsOf ls) (stF (dsOf ls) φ) m qu x.2=stF (dsOf ls) (nextA (dsOf ls) qu φ m x.2):=by
   rcases ch with c | c
   ·rw [c];exact next_f _ _ _ _ _
   ·rw [c];rfl
  rw [nx] at v6'
  obtain ⟨M2,k2,M20,Mz2,si2,kk2⟩:∃(M2:Int) (k2:Nat),0 < M2/\Sz (mB k2) M2/\StI M2 h (stF (dsOf ls) (nextA (dsOf ls) qu φ m x.2))/\k2+((ds.map (·.2)).drop (i+1)).countP isSeat<=6:=by
   rcases ch with c | c
   ·obtain ⟨M2,M20,Mz2,si2⟩:=si.step (k:=k) (ds:=dsOf ls) (s:=m) (q:=qu) M0 Mz hd12 q1 hn nN
    rw [c] at kk ⊢
    rw [List.countP_cons_of_pos (by rfl)] at kk
    refine ⟨M2,k+1,M20,Mz2,?_,by omega⟩
    rw [next_f] at si2
    exact si2
   ·rw [c] at kk ⊢
    rw [List.countP_cons_of_neg (show ¬ (false=true) by decide)] at kk
    exact ⟨M,k,M0,Mz,si,kk⟩
  refine ⟨a2,m - 2 ^ hd,some (.ref x.1),ys,_,_,M2,k2,rfl,sJ.trans u6,e6,(fun y k=>(g6 y k).1),v6',si2,M20,Mz2,kk2,lm0,by omega,oi2,R2,?_⟩
  rw [<- eqF]
  show _=goA _ _ _ _ _ (m - 2 ^ x.2.num) _
  rw [wh.2]
 rintro σ' J ⟨sa,m,v6,xh,φ,fd,M,k,rfl,sJ,esa,gxh,xv,si,M0,Mz,kk,m0,m1,oi,R,eqF⟩
 rw [show (dev ds).length=(ds.map (·.2)).length from by unfold dev;rw [List.length_map,List.length_map],List.drop_length] at kk oi eqF
 have stl:(stF (dsOf ls) φ).length=ls.length:=by rw [stF_len,dl']
 have hlJ:=sJ _ _ hl
 have glJ:GoodL J ls:=gl.same sJ
 obtain ⟨st,hst⟩:∃st,st=stF (dsOf ls) φ:=⟨_,rfl⟩
 rw [<- hst] at xv si stl
 have Mz4:Sz 4480 M:=Mz.mono (mB_le6 (by omega))
 have xin:∀x∈xh,FqM M x.2.1.2/\gcdI x.2.1.2.1 x.2.1.2.2=1/\x.2.2.2.length=h:=fun x k=>by
  have:shV x∈st.map encS:=by rw [<- xv];exact List.mem_map.mpr ⟨x,k,rfl⟩
  obtain ⟨r,rm,e⟩:=List.mem_map.mp this
  obtain ⟨f0,f1,f2⟩:=si.free r rm
  have e1:pr r.1=x.2.1.2:=congrArg Prod.fst e
  have e2:r.2.map pr=x.2.2.2.map (·.2):=congrArg Prod.snd e
  refine ⟨by rw [<- e1];exact fqm_pr f0 f1 f2,by rw [<- e1];exact pr_gcd _,?_⟩
  have:=congrArg List.length e2
  rw [List.length_map,List.length_map,si.len r rm] at this
  exact this.symm
 have h0st:∀x∈st,0<=x.1:=fun x k=>(si.free x k).1
 have lesz:ls.length=xh.length:=by
  have:=congrArg List.length xv
  rw [List.length_map,List.length_map] at this
  omega
 subst_eqs
 refine ⟨l,sa,h,ls,xh,m,rfl,hlJ,glJ,esa,(fun x k=>⟨gxh x k,(xin x k).1.fq M0 (Mz4.mono (by decide)),(xin x k).2.2⟩),lesz,l60,h12,(fun q k=>lies_of (okl q k).1),fun r rs J1 hr1 u1 f1 gr vr=>?_⟩
 rw [tab_is xv h0st] at vr
 have M1:0 < M*27720:=by omega
 have Mz5:Sz 4500 (M*27720):=(Mz4.mul (sz_of (by decide) (by decide):Sz 15 (27720:Int))).mono (by decide)
 have rin:∀x∈rs,x.2.length=h+1/\∀f∈x.2,FqM (M*27720) f.2:=fun x k=>by
  have:x.2.map (·.2)∈(rowsR (dsOf ls) st m).map (fun r=>r.map pr):=by rw [<- vr];exact List.mem_map.mpr ⟨x,k,rfl⟩
  obtain ⟨y,ym,e⟩:=List.mem_map.mp this
  obtain ⟨yl,yz⟩:=rows_ok (ds:=dsOf ls) (s:=m) si y ym
  refine ⟨?_,fun f fm=>?_⟩
  ·have:=congrArg List.length e
   rw [List.length_map,List.length_map,yl] at this
   exact this.symm
  ·have:f.2∈y.map pr:=by rw [e];exact List.mem_map.mpr ⟨f,fm,rfl⟩
   obtain ⟨z,zm,ez⟩:=List.mem_map.mp this
   rw [<- ez]
   exact fqm_pr (yz z zm).1 (yz z zm).2.1 (yz z zm).2.2
 have rsl:ls.length=rs.length:=by
  have:=congrArg List.length vr
  rw [List.length_map,List.length_map] at this
  rw [this]
  unfold rowsR
  rw [List.length_map,List.length_zip,dl']
  have l2:st.length=ls.length:=stl
  omega
 subst_eqs
 have hn2:∀q∈ls,0<=q.2.2.2/\Sz 64 q.2.2.2:=fun q k=>(okl q k).2
 refine ⟨l,r,h,ls,rs,M*27720,rfl,u1 _ _ hlJ,glJ.same u1,f1,(fun x k=>⟨(gr x k).1,rin x k⟩),M1,Mz5,rsl,l60,h12,hn2,fun su fs J2 hsu' u2 f2 gf fl wm=>?_⟩
 have u12:=u1.trans u2
 have colv:∀j,(colOf rs j).map (·.2)=((rowsR (dsOf ls) st m).map fun r=>r.getD j 0).map pr:=fun j=>by
  have e1:(colOf rs j).map (·.2)=(rs.map fun x=>x.2.map (·.2)).map fun vs=>vs.getD j (0,1):=by
   unfold colOf
   rw [List.map_map,List.map_map]
   refine List.map_congr_left fun r _=>?_
   show (r.2.getD j (0,0,1)).2=(r.2.map (·.2)).getD j (0,1)
   rw [List.getD_eq_getElem?_getD,List.getD_eq_getElem?_getD,List.getElem?_map]
   cases r.2[j]? <;> rfl
  rw [e1,vr,List.map_map,List.map_map]
  refine List.map_congr_left fun r _=>?_
  show (r.map pr).getD j (0,1)=pr (r.getD j 0)
  rw [List.getD_eq_getElem?_getD,List.getD_eq_getElem?_getD,List.getElem?_map]
  cases r[j]? <;> rfl
 have coln:∀j,∀r∈(rowsR (dsOf ls) st m).map fun r=>r.getD j 0,0<=r:=fun j r k=>by
  obtain ⟨y,ym,rfl⟩:=List.mem_map.mp k
  obtain ⟨yl,yz⟩:=rows_ok (ds:=dsOf ls) (s:=m) si y ym
  rw [List.getD_eq_getElem?_getD]
  cases e:y[j]? with
  | none=>exact Rat.le_refl
  | some z=>exact (yz z (List.mem_of_getElem? e)).1
 have fv:fs.map (·.2)=(sumsR (dsOf ls) (rowsR (dsOf ls) st m) h).map pr:=by
  refine List.ext_getElem? fun j=>?_
  unfold sumsR
  rw [List.getElem?_map,List.getElem?_map,List.getElem?_map]
  by_cases c:j < h+1
  ·obtain ⟨f,hf⟩:∃f,fs[j]?=some f:=⟨_,List.getElem?_eq_getElem (by omega)⟩
   rw [hf,List.getElem?_range c]
   show some f.2=some (pr _)
   rw [wm_is (wm j f hf) (colv j) hn (coln j)]
  ·rw [List.getElem?_eq_none (by omega),List.getElem?_eq_none (by rw [List.length_range];omega)]
   rfl
 have colm:∀j,j < h+1->∀f∈colOf rs j,FqM (M*27720) f.2:=fun j hj f k=>by
  obtain ⟨x,xm,rfl⟩:=List.mem_map.mp k
  exact (rin x xm).2 _ (List.mem_of_getElem? (fq_at (by have:=(rin x xm).1;omega)))
 have sg:SuG J2 su fs (sumsR (dsOf ls) (rowsR (dsOf ls) st m) h):=⟨f2,gf,fv,fun r k=>by
  have:pr r∈fs.map (·.2):=by rw [fv];exact List.mem_map.mpr ⟨r,k,rfl⟩
  obtain ⟨f,fm,e⟩:=List.mem_map.mp this
  obtain ⟨j,hj⟩:=List.mem_iff_getElem?.mp fm
  have jl:=(List.getElem?_eq_some_iff.mp hj).1
  obtain ⟨_,_,_,z1,_,z2⟩:=wm_sz (wm j f hj) M1 Mz5 hn2 (colm j (by omega)) l60
  rw [<- e]
  exact ⟨z2.mono (by decide),z1.mono (by decide)⟩⟩
 have sl:(sumsR (dsOf ls) (rowsR (dsOf ls) st m) h).length=h+1:=by unfold sumsR;rw [List.length_map,List.length_range]
 rw [hst,sums_end h12 okk R] at sg
 have eA:(List.range (h+1)).map (endR (dsOf ls) h φ m fd)=(List.range (h+1)).map (alongR (dsOf ls) h qu (ds.map (·.2))):=by rw [<- eqF];rfl
 rw [eA] at sg
 have sok:=sums_ok (m:=m) si M0 Mz4 hn nN
 rw [hst,sums_end h12 okk R,eA] at sok
 refine q su fs J2 (none_of (sJ.trans u1) hsu') (sJ.trans u12) f2 gf sg.3 fun j hj=>sok _ (List.mem_map.mpr ⟨j,List.mem_range.mpr hj,rfl⟩)
theorem ok_law (T:Tx K mg ad):FnOk P w K mg base CX0 8 ad.f_law ad.d_law ["_law_script"] (spLaw K):=by
 refine T.F_law.ok sc_law (fun vs H Q E h=>?_) (fun cdv A outer s H vs Q E hr h=>?_)
 ·obtain ⟨p,ns,rfl,_⟩:=h
  rfl
 obtain ⟨p,ns,rfl,hS,h63,q⟩:=h
 refine ⟨_,(@pss_cons _ _ _ _ _ (@ps_set _ _ (1) _ _ _ _ sc_law.nd rfl (Or.inl rfl) (@pe_op _ _ _ _ _ _ _ _ op_add pe_int (@pe_op _ _ _ _ _ _ _ _ op_modN (@pe_call _ _ _ _ _ _ _ _ _ _ _ _ _ _ _ _ (ok_law_cell T) (hr.mono (by decide)) rfl T.m_law_cell T.F_law_cell.kp T.b_law_cell .nil pass0 (@pa_cons _ _ _ _ _ (pv 0) (@pa_cons _ _ _ _ _ pe_int pa_nil (by rfl)) (by rfl)) (by decide) (by rfl) (by rfl)) pe_int)) (by rfl) (by first | exact .inl rfl | exact .inr rfl | assumption)) (@pss_cons _ _ _ _ _ (@ps_set _ _ (2) _ _ _ _ sc_law.nd rfl (Or.inl rfl) (@pe_ix _ _ _ _ _ _ _ ix_list (@pe_lst _ _ _ _ (@pa_cons _ _ _ _ _ pe_int (@pa_cons _ _ _ _ _ (@pe_op _ _ _ _ _ _ _ _ op_pow pe_int pe_int) pa_nil (by rfl)) (by rfl))) (@pe_op _ _ _ _ _ _ _ _ op_modN (@pe_op _ _ _ _ _ _ _ _ op_fdivB (@pe_call _ _ _ _ _ _ _ _ _ _ _ _ _ _ _ _ (ok_law_cell T) (hr.mono (by decide)) rfl T.m_law_cell T.F_law_cell.kp T.b_law_cell .nil pass0 (@pa_cons _ _ _ _ _ (pv 0) (@pa_cons _ _ _ _ _ pe_int pa_nil (by rfl)) (by rfl)) (by decide) (by rfl) (by rfl)) pe_int) pe_int) (fun _ _=>rfl)) (by rfl) (by first | exact .inl rfl | exact .inr rfl | assumption)) (@pss_cons _ _ _ _ _ (@ps_set _ _ (3) _ _ _ _ sc_law.nd rfl (Or.inl rfl) (@pe_op _ _ _ _ _ _ _ _ op_add pe_int (@pe_op _ _ _ _ _ _ _ _ op_modN (@pe_op _ _ _ _ _ _ _ _ op_fdivB (@pe_call _ _ _ _ _ _ _ _ _ _ _ _ _ _ _ _ (ok_law_cell T) (hr.mono (by decide)) rfl T.m_law_cell T.F_law_cell.kp T.b_law_cell .nil pass0 (@pa_cons _ _ _ _ _ (pv 0) (@pa_cons _ _ _ _ _ pe_int pa_nil (by rfl)) (by rfl)) (by decide) (by rfl) (by rfl)) pe_int) pe_int)) (by rfl) (by first | exact .inl rfl | exact .inr rfl | assumption)) (@pss_cons _ _ _ _ _ (@ps_ifJ _ _ _ _ _ _ _ _ (@pt_cmpR _ _ _ _ _ _ _ _ op_eq (@pe_op _ _ _ _ _ _ _ _ op_modN (@pe_op _ _ _ _ _ _ _ _ op_fdivB (@pe_call _ _ _ _ _ _ _ _ _ _ _ _ _ _ _ _ (ok_law_cell T) (hr.mono (by decide)) rfl T.m_law_cell T.F_law_cell.kp T.b_law_cell .nil pass0 (@pa_cons _ _ _ _ _ (pv 0) (@pa_cons _ _ _ _ _ pe_int pa_nil (by rfl)) (by rfl)) (by decide) (by rfl) (by rfl)) pe_int) pe_int) pe_int (nomark _)) (@pss_cons _ _ _ _ _ (@ps_set _ _ (1) _ _ _ _ sc_law.nd rfl (Or.inl rfl) (@pe_op _ _ _ _ _ _ _ _ op_add pe_int (@pe_op _ _ _ _ _ _ _ _ op_modN (@pe_call _ _ _ _ _ _ _ _ _ _ _ _ _ _ _ _ (ok_law_cell T) (hr.mono (by decide)) rfl T.m_law_cell T.F_law_cell.kp T.b_law_cell .nil pass0 (@pa_cons _ _ _ _ _ (pv 0) (@pa_cons _ _ _ _ _ pe_int pa_nil (by rfl)) (by rfl)) (by decide) (by rfl) (by rfl)) pe_int)) (by rfl) (by first | exact .inl rfl | exact .inr rfl | assumption)) (@pss_one _ _ _ (@ps_set _ _ (3) _ _ _ _ sc_law.nd rfl (Or.inl rfl) (@pe_op _ _ _ _ _ _ _ _ op_add pe_int (@pe_op _ _ _ _ _ _ _ _ op_modN (pv 3) pe_int)) (by rfl) (by first | exact .inl rfl | exact .inr rfl | assumption)))) pss_nil) (@pss_cons _ _ _ _ _ (@ps_set _ _ (4) _ _ _ _ sc_law.nd rfl (Or.inl rfl) (@pe_call _ _ _ _ _ _ _ _ _ _ _ _ _ _ _ _ (ok_law_sheet T) (hr.mono (by decide)) rfl T.m_law_sheet T.F_law_sheet.kp T.b_law_sheet .nil pass0 (@pa_cons _ _ _ _ _ (pv 0) (@pa_cons _ _ _ _ _ pe_int (@pa_cons _ _ _ _ _ (pv 1) (@pa_cons _ _ _ _ _ (pv 3) (@pa_cons _ _ _ _ _ (pv 2) pa_nil (by rfl)) (by rfl)) (by rfl)) (by rfl)) (by rfl)) (by decide) (by rfl) (by rfl)) (by rfl) (by first | exact .inl rfl | exact .inr rfl | assumption)) (@pss_cons _ _ _ _ _ (@ps_ifJ _ _ _ _ _ _ _ _ (@pt_cmpR _ _ _ _ _ _ _ _ op_eq (@pe_op _ _ _ _ _ _ _ _ op_modN (@pe_op _ _ _ _ _ _ _ _ op_fdivB (@pe_call _ _ _ _ _ _ _ _ _ _ _ _ _ _ _ _ (ok_law_cell T) (hr.mono (by decide)) rfl T.m_law_cell T.F_law_cell.kp T.b_law_cell .nil pass0 (@pa_cons _ _ _ _ _ (pv 0) (@pa_cons _ _ _ _ _ pe_int pa_nil (by rfl)) (by rfl)) (by decide) (by rfl) (by rfl)) pe_int) pe_int) pe_int (nomark _)) (@pss_one _ _ _ (@ps_set _ _ (4) _ _ _ _ sc_law.nd rfl (Or.inl rfl) (@pe_lst _ _ _ _ pa_nil) (by rfl) (by first | exact .inl rfl | exact .inr rfl | assumption))) pss_nil) (@pss_cons _ _ _ _ _ (@ps_set _ _ (5) _ _ _ _ sc_law.nd rfl (Or.inl rfl) (@pe_call _ _ _ _ _ _ _ _ _ _ _ _ _ _ _ _ (ok_law_other T) (hr.mono (by decide)) rfl T.m_law_other T.F_law_other.kp T.b_law_other .nil pass0 (@pa_cons _ _ _ _ _ (pv 0) (@pa_cons _ _ _ _ _ (pv 4) (@pa_cons _ _ _ _ _ (pv 1) pa_nil (by rfl)) (by rfl)) (by rfl)) (by decide) (by rfl) (by rfl)) (by rfl) (by first | exact .inl rfl | exact .inr rfl | assumption)) (@pss_cons _ _ _ _ _ (@ps_set _ _ (6) _ _ _ _ sc_law.nd rfl (Or.inl rfl) (@pe_call _ _ _ _ _ _ _ _ _ _ _ _ _ _ _ _ (ok_law_ballots T) (hr.mono (by decide)) rfl T.m_law_ballots T.F_law_ballots.kp T.b_law_ballots .nil pass0 (@pa_cons _ _ _ _ _ (pv 4) pa_nil (by rfl)) (by decide) (by rfl) (by rfl)) (by rfl) (by first | exact .inl rfl | exact .inr rfl | assumption)) (@pss_cons _ _ _ _ _ (@ps_set _ _ (7) _ _ _ _ sc_law.nd rfl (Or.inl rfl) (@pe_call _ _ _ _ _ _ _ _ _ _ _ _ _ _ _ _ (ok_law_deeds T) (hr.mono (by decide)) rfl T.m_law_deeds T.F_law_deeds.kp T.b_law_deeds .nil pass0 (@pa_cons _ _ _ _ _ (@pe_call _ _ _ _ _ _ _ _ _ _ _ _ _ _ _ _ (ok_law_cell T) (hr.mono (by decide)) rfl T.m_law_cell T.F_law_cell.kp T.b_law_cell .nil pass0 (@pa_cons _ _ _ _ _ (pv 0) (@pa_cons _ _ _ _ _ pe_int pa_nil (by rfl)) (by rfl)) (by decide) (by rfl) (by rfl)) (@pa_cons _ _ _ _ _ (pv 1) pa_nil (by rfl)) (by rfl)) (by decide) (by rfl) (by rfl)) (by rfl) (by first | exact .inl rfl | exact .inr rfl | assumption)) (@pss_cons _ _ _ _ _ (@ps_ifJ _ _ _ _ _ _ _ _ (@pt_cmpR _ _ _ _ _ _ _ _ op_gt (pv 1) pe_int (nomark _)) (@pss_one _ _ _ (ps_setC (j:=7) (fsc:=defScope s_law) (N:=["_law_script","_law_hands","_law_most","_law_lines","_law_sheet_here","_law_other_here","_law_ballots_here","_law_deeds_here","_law_cell_here","_law_quota","_law_handed","_law_left","_law_right","_law_found","_law_kept","_law_again"]) (Nc:=["_law_script","_law_hands","_law_most","_law_lines","_law_sheet_here","_law_other_here","_law_ballots_here","_law_deeds_here","_law_cell_here","_law_quota","_law_handed","_law_left","_law_right","_law_found","_law_kept","_law_again","_law_hand"]) rfl rfl ⟨rfl,by decide +kernel,by decide +kernel,rfl,by decide +kernel,rfl,by decide +kernel,rfl,by decide +kernel⟩ rfl sc_law.nd rfl rfl (pi_list (pe_slice sl_list (@pe_call _ _ _ _ _ _ _ _ _ _ _ _ _ _ _ _ (ok_law_lots T) (hr.mono (by decide)) rfl T.m_law_lots T.F_law_lots.kp T.b_law_lots .nil pass0 (@pa_cons _ _ _ _ _ (@pe_call _ _ _ _ _ _ _ _ _ _ _ _ _ _ _ _ (ok_law_cell T) (hr.mono (by decide)) rfl T.m_law_cell T.F_law_cell.kp T.b_law_cell .nil pass0 (@pa_cons _ _ _ _ _ (pv 0) (@pa_cons _ _ _ _ _ pe_int pa_nil (by rfl)) (by rfl)) (by decide) (by rfl) (by rfl)) (@pa_cons _ _ _ _ _ (pv 1) pa_nil (by rfl)) (by rfl)) (by decide) (by rfl) (by rfl)) po_none (po_some pe_int))) (fun _ _ _ _=>pif_nil) (fun _ _ _ _=>(@pe_tup _ _ _ _ _ (@pa_cons _ _ _ _ _ pe_str (@pa_cons _ _ _ _ _ (pv 16) pa_nil (by rfl)) (by rfl)))) rfl)) pss_nil) (@pss_cons _ _ _ _ _ (@ps_set _ _ (8) _ _ _ _ sc_law.nd rfl (Or.inl rfl) (@pe_call _ _ _ _ _ _ _ _ _ _ _ _ _ _ _ _ (ok_law_cell T) (hr.mono (by decide)) rfl T.m_law_cell T.F_law_cell.kp T.b_law_cell .nil pass0 (@pa_cons _ _ _ _ _ (pv 0) (@pa_cons _ _ _ _ _ pe_int pa_nil (by rfl)) (by rfl)) (by decide) (by rfl) (by rfl)) (by rfl) (by first | exact .inl rfl | exact .inr rfl | assumption)) (@pss_cons _ _ _ _ _ (@ps_set _ _ (9) _ _ _ _ sc_law.nd rfl (Or.inl rfl) (@pe_ix _ _ _ _ _ _ _ ix_list (@pe_lst _ _ _ _ (@pa_cons _ _ _ _ _ (@pe_op _ _ _ _ _ _ _ _ op_add (@pe_op _ _ _ _ _ _ _ _ op_fdivB (pv 6) (@pe_op _ _ _ _ _ _ _ _ op_add (@pe_op _ _ _ _ _ _ _ _ op_add pe_int (@pe_op _ _ _ _ _ _ _ _ op_modN (@pe_op _ _ _ _ _ _ _ _ op_fdivB (pv 8) pe_int) pe_int)) pe_int)) pe_int) (@pa_cons _ _ _ _ _ (@pe_op _ _ _ _ _ _ _ _ op_add pe_int (@pe_op _ _ _ _ _ _ _ _ op_modN (@pe_op _ _ _ _ _ _ _ _ op_fdivB (pv 8) pe_int) pe_int)) (@pa_cons _ _ _ _ _ (@pe_op _ _ _ _ _ _ _ _ op_add pe_int (@pe_op _ _ _ _ _ _ _ _ op_modN (@pe_op _ _ _ _ _ _ _ _ op_fdivB (pv 8) pe_int) (@pe_op _ _ _ _ _ _ _ _ op_pow pe_int pe_int))) pa_nil (by rfl)) (by rfl)) (by rfl))) (@pe_op _ _ _ _ _ _ _ _ op_modN (pv 8) pe_int) (fun _ _=>rfl)) (by rfl) (by first | exact .inl rfl | exact .inr rfl | assumption)) (@pss_cons _ _ _ _ _ (@ps_set _ _ (10) _ _ _ _ sc_law.nd rfl (Or.inl rfl) (@pe_lst _ _ _ _ (@pa_cons _ _ _ _ _ (@pe_callTy _ _ _ _ _ _ _ _ _ call_list_of (by rfl) T.z_list PyProof.Rows.boot_list (@pa_cons _ _ _ _ _ (pv 4) pa_nil (by rfl)) (by decide) (by decide) (by rfl) (by rfl)) (@pa_cons _ _ _ _ _ (@pe_callTy _ _ _ _ _ _ _ _ _ call_list_of (by rfl) T.z_list PyProof.Rows.boot_list (@pa_cons _ _ _ _ _ (pv 5) pa_nil (by rfl)) (by decide) (by decide) (by rfl) (by rfl)) (@pa_cons _ _ _ _ _ (@pe_callTy _ _ _ _ _ _ _ _ _ call_list_of (by rfl) T.z_list PyProof.Rows.boot_list (@pa_cons _ _ _ _ _ (pv 7) pa_nil (by rfl)) (by decide) (by decide) (by rfl) (by rfl)) pa_nil (by rfl)) (by rfl)) (by rfl))) (by rfl) (by first | exact .inl rfl | exact .inr rfl | assumption)) (@pss_cons _ _ _ _ _ (@ps_set _ _ (11) _ _ _ _ sc_law.nd rfl (Or.inl rfl) (@pe_call _ _ _ _ _ _ _ _ _ _ _ _ _ _ _ _ (ok_along T) (hr.mono (by decide)) rfl T.m_along T.F_along.kp T.b_along .nil pass0 (@pa_cons _ _ _ _ _ (@pe_ix _ _ _ _ _ _ _ ix_list (pv 10) pe_int (fun _ _=>rfl)) (@pa_cons _ _ _ _ _ (pv 1) (@pa_cons _ _ _ _ _ (pv 9) (@pa_cons _ _ _ _ _ (@pe_ix _ _ _ _ _ _ _ ix_list (pv 10) pe_int (fun _ _=>rfl)) pa_nil (by rfl)) (by rfl)) (by rfl)) (by rfl)) (by decide) (by rfl) (by rfl)) (by rfl) (by first | exact .inl rfl | exact .inr rfl | assumption)) (@pss_cons _ _ _ _ _ (@ps_set _ _ (12) _ _ _ _ sc_law.nd rfl (Or.inl rfl) (@pe_call _ _ _ _ _ _ _ _ _ _ _ _ _ _ _ _ (ok_along T) (hr.mono (by decide)) rfl T.m_along T.F_along.kp T.b_along .nil pass0 (@pa_cons _ _ _ _ _ (@pe_ix _ _ _ _ _ _ _ ix_list (pv 10) pe_int (fun _ _=>rfl)) (@pa_cons _ _ _ _ _ (pv 1) (@pa_cons _ _ _ _ _ (pv 9) (@pa_cons _ _ _ _ _ (@pe_ix _ _ _ _ _ _ _ ix_list (pv 10) pe_int (fun _ _=>rfl)) pa_nil (by rfl)) (by rfl)) (by rfl)) (by rfl)) (by decide) (by rfl) (by rfl)) (by rfl) (by first | exact .inl rfl | exact .inr rfl | assumption)) (@pss_cons _ _ _ _ _ (@ps_if _ _ _ _ _ _ _ _ (@pt_cmpR _ _ _ _ _ _ _ _ (op_neD (K:=K) hr.units) (pv 10) (@pe_lst _ _ _ _ (@pa_cons _ _ _ _ _ (pv 4) (@pa_cons _ _ _ _ _ (pv 5) (@pa_cons _ _ _ _ _ (pv 7) pa_nil (by rfl)) (by rfl)) (by rfl))) (nomark _)) (@pss_one _ _ _ (@ps_ret _ _ _ _ pe_bl)) pss_nil) (@pss_cons _ _ _ _ _ (ps_for PassesOwn.never rfl (pi_list (@pe_lst _ _ _ _ (@pa_cons _ _ _ _ _ (pv 11) (@pa_cons _ _ _ _ _ (pv 12) pa_nil (by rfl)) (by rfl)))) (pg_name (i:=13) sc_law.nd rfl (Or.inl rfl)) (@pss_one _ _ _ (@ps_if _ _ _ _ _ _ _ _ (@pt_not _ _ _ _ (@pt_val _ _ _ (@pe_call _ _ _ _ _ _ _ _ _ _ _ _ _ _ _ _ (ok_law_good T) (hr.mono (by decide)) rfl T.m_law_good T.F_law_good.kp T.b_law_good .nil pass0 (@pa_cons _ _ _ _ _ (pv 13) (@pa_cons _ _ _ _ _ (pv 1) (@pa_cons _ _ _ _ _ (pv 6) (@pa_cons _ _ _ _ _ (pv 7) (@pa_cons _ _ _ _ _ (pv 9) pa_nil (by rfl)) (by rfl)) (by rfl)) (by rfl)) (by rfl)) (by decide) (by rfl) (by rfl)) (by intro _;rfl))) (@pss_one _ _ _ (@ps_ret _ _ _ _ pe_bl)) pss_nil))) (@pss_cons _ _ _ _ _ (@ps_if _ _ _ _ _ _ _ _ (@pt_not _ _ _ _ (@pt_val _ _ _ (@pe_call _ _ _ _ _ _ _ _ _ _ _ _ _ _ _ _ (ok_law_near T) (hr.mono (by decide)) rfl T.m_law_near T.F_law_near.kp T.b_law_near .nil pass0 (@pa_cons _ _ _ _ _ (pv 11) (@pa_cons _ _ _ _ _ (pv 12) (@pa_cons _ _ _ _ _ (pv 1) (@pa_cons _ _ _ _ _ (@pe_call _ _ _ _ _ _ _ _ _ _ _ _ _ _ _ _ (ok_law_apart T) (hr.mono (by decide)) rfl T.m_law_apart T.F_law_apart.kp T.b_law_apart .nil pass0 (@pa_cons _ _ _ _ _ (pv 4) (@pa_cons _ _ _ _ _ (pv 5) pa_nil (by rfl)) (by rfl)) (by decide) (by rfl) (by rfl)) pa_nil (by rfl)) (by rfl)) (by rfl)) (by rfl)) (by decide) (by rfl) (by rfl)) (by intro _;rfl))) (@pss_one _ _ _ (@ps_ret _ _ _ _ pe_bl)) pss_nil) (@pss_cons _ _ _ _ _ (@ps_ifJ _ _ _ _ _ _ _ _ (PW.pt (@pw_and _ _ _ _ _ _ _ (@pt_cmpR _ _ _ _ _ _ _ _ op_lt (pv 1) pe_int (nomark _)) (@pw_and1 _ _ _ _ (@pt_cmpR _ _ _ _ _ _ _ _ (op_neD (K:=K) hr.units) (pe_slice sl_list (pv 11) po_none (po_some (pv 1))) (@pe_call _ _ _ _ _ _ _ _ _ _ _ _ _ _ _ _ (ok_law_walked T) (hr.mono (by decide)) rfl T.m_law_walked T.F_law_walked.kp T.b_law_walked .nil pass0 (@pa_cons _ _ _ _ _ (pv 4) (@pa_cons _ _ _ _ _ (pv 1) (@pa_cons _ _ _ _ _ (pv 9) (@pa_cons _ _ _ _ _ (pv 7) pa_nil (by rfl)) (by rfl)) (by rfl)) (by rfl)) (by decide) (by rfl) (by rfl)) (nomark _))))) (@pss_one _ _ _ (@ps_ret _ _ _ _ pe_bl)) pss_nil) (@pss_cons _ _ _ _ _ (@ps_set _ _ (14) _ _ _ _ sc_law.nd rfl (Or.inl rfl) (@pe_lst _ _ _ _ (@pa_cons _ _ _ _ _ (@pe_callTy _ _ _ _ _ _ _ _ _ call_list_of (by rfl) T.z_list PyProof.Rows.boot_list (@pa_cons _ _ _ _ _ (pv 11) pa_nil (by rfl)) (by decide) (by decide) (by rfl) (by rfl)) (@pa_cons _ _ _ _ _ (@pe_callTy _ _ _ _ _ _ _ _ _ call_list_of (by rfl) T.z_list PyProof.Rows.boot_list (@pa_cons _ _ _ _ _ (pv 12) pa_nil (by rfl)) (by decide) (by decide) (by rfl) (by rfl)) pa_nil (by rfl)) (by rfl))) (by rfl) (by first | exact .inl rfl | exact .inr rfl | assumption)) (@pss_cons _ _ _ _ _ (@ps_set _ _ (15) _ _ _ _ sc_law.nd rfl (Or.inl rfl) (@pe_call _ _ _ _ _ _ _ _ _ _ _ _ _ _ _ _ (ok_along T) (hr.mono (by decide)) rfl T.m_along T.F_along.kp T.b_along .nil pass0 (@pa_cons _ _ _ _ _ (@pe_ix _ _ _ _ _ _ _ ix_list (pv 10) pe_int (fun _ _=>rfl)) (@pa_cons _ _ _ _ _ (pv 1) (@pa_cons _ _ _ _ _ (pv 9) (@pa_cons _ _ _ _ _ (@pe_ix _ _ _ _ _ _ _ ix_list (pv 10) pe_int (fun _ _=>rfl)) pa_nil (by rfl)) (by rfl)) (by rfl)) (by rfl)) (by decide) (by rfl) (by rfl)) (by rfl) (by first | exact .inl rfl | exact .inr rfl | assumption)) (@pss_one _ _ _ (@ps_ret _ _ _ _ (@pe_and _ _ _ _ _ _ _ (@pe_cmpR _ _ _ _ _ _ _ _ (op_eqD (K:=K) hr.units) (pv 15) (@pe_ix _ _ _ _ _ _ _ ix_list (pv 14) pe_int (fun _ _=>rfl)) (nomark _)) (@pe_one _ _ _ _ _ (@pe_cmpR _ _ _ _ _ _ _ _ (op_eqD (K:=K) hr.units) (@pe_lst _ _ _ _ (@pa_cons _ _ _ _ _ (pv 11) (@pa_cons _ _ _ _ _ (pv 12) pa_nil (by rfl)) (by rfl))) (pv 14) (nomark _))))))))))))))))))))))))))),?_⟩
 subst_eqs
 refine ⟨p,ns,0,rfl,hS,h63,by decide,by decide,fun c0 c00 c01=>?_⟩
 subst_eqs
 dsimp only
 have m0:=fmod_in c0 (show (0:Int) < 4 by decide)
 have hh0:2<=2+c0.fmod 4/\2+c0.fmod 4<=5:=by omega
 generalize 2+c0.fmod 4=h' at hh0 ⊢
 obtain ⟨h0,rfl⟩:∃h:Nat,h'=(h:Int):=⟨h'.toNat,by omega⟩
 subst_eqs
 refine ⟨(by show 2<=sizeLine;decide),fun b hb=>?_⟩
 have s1:=same_new hb (.lst [V.int 12,V.int (10 ^ (9:Int).toNat)])
 have e1:(upd H b (.lst [V.int 12,V.int (10 ^ (9:Int).toNat)])) b=some (.lst [V.int 12,V.int (10 ^ (9:Int).toNat)]):=upd_same
 generalize upd H b (.lst [V.int 12,V.int (10 ^ (9:Int).toNat)])=H1 at s1 e1 ⊢
 subst_eqs
 refine ⟨p,ns,0,rfl,s1.seq hS,h63,by decide,by decide,fun c1 c10 c11=>?_⟩
 subst_eqs
 have m1:=fmod_in (c1.fdiv 4) (show (0:Int) < 2 by decide)
 obtain ⟨most,hmo,mo1,mo2⟩:=pick2 (x0:=12) (x1:=10 ^ (9:Int).toNat) (fun v=>1<=v/\v<=10 ^ 9) _ m1.1 m1.2 (by decide) (by decide)
 refine ⟨b,_,_,_,rfl,rfl,SqL.of e1,hmo,?_⟩
 subst_eqs
 refine ⟨p,ns,0,rfl,s1.seq hS,h63,by decide,by decide,fun c2 c20 c21=>?_⟩
 subst_eqs
 dsimp only
 have m2:=fmod_in (c2.fdiv 8) (show (0:Int) < 4 by decide)
 have mm0:1<=1+(c2.fdiv 8).fmod 4/\1+(c2.fdiv 8).fmod 4<=4:=by omega
 generalize 1+(c2.fdiv 8).fmod 4=m' at mm0 ⊢
 obtain ⟨m0',rfl⟩:∃h:Nat,m'=(h:Int):=⟨m'.toNat,by omega⟩
 subst_eqs
 refine ⟨fun σ' J=>∃(h m:Nat),σ'=[some (.ref p),some (.int (h:Int)),some (.int most),some (.int (m:Int)),none,none,none,none,none,none,none,none,none,none,none,none]/\H1=J/\2<=h/\h<=7/\1<=m/\m<=4,?_,?_⟩
 ·subst_eqs
  refine ⟨p,ns,0,rfl,s1.seq hS,h63,by decide,by decide,fun c3 c30 c31=>?_⟩
  subst_eqs
  refine ite2 (fun _=>?_) (fun _=>?_)
  ·subst_eqs
   refine ⟨p,ns,0,rfl,s1.seq hS,h63,by decide,by decide,fun c4 c40 c41=>?_⟩
   subst_eqs
   have m4:=fmod_in c4 (show (0:Int) < 2 by decide)
   have m5:=fmod_in (m0':Int) (show (0:Int) < 2 by decide)
   refine ⟨(6+c4.fmod 2).toNat,(1+(m0':Int).fmod 2).toNat,?_,rfl,by omega,by omega,by omega,by omega⟩
   rw [Int.toNat_of_nonneg (by omega),Int.toNat_of_nonneg (by omega)]
   rfl
  ·exact ⟨h0,m0',rfl,rfl,by omega,by omega,by omega,by omega⟩
 rintro σ' J ⟨h,m,rfl,rfl,h2,h7,mm1,mm4⟩
 subst_eqs
 refine ⟨p,ns,4,h,m,most,rfl,s1.seq hS,h63,by decide,by decide,by omega,by omega,by omega,by omega,mo1,mo2,fun sh0 ls0 H2 hsh0 s2 e2 g2 dr=>?_⟩
 have s02:=s1.trans s2
 subst_eqs
 refine ⟨fun σ' J=>∃(sh:Addr) (ls:Ls),σ'=[some (.ref p),some (.int (h:Int)),some (.int most),some (.int (m:Int)),some (.ref sh),none,none,none,none,none,none,none,none,none,none,none]/\Same H2 J/\J sh=some (.lst (vls ls))/\GoodL J ls/\(ls=ls0\/ls=[]),?_,?_⟩
 ·subst_eqs
  refine ⟨p,ns,0,rfl,s02.seq hS,h63,by decide,by decide,fun c6 c60 c61=>?_⟩
  subst_eqs
  refine ite2 (fun _=>?_) (fun _=>?_)
  ·subst_eqs
   refine ⟨(by show 0<=sizeLine;decide),fun z hz=>?_⟩
   exact ⟨z,[],rfl,same_new hz _,upd_same,(fun _ k=>nomatch k),.inr rfl⟩
  ·exact ⟨sh0,ls0,rfl,fun _ _ e=>e,e2,g2,.inl rfl⟩
 rintro σ' H3 ⟨sh,ls,rfl,s3,e3,g3,lc⟩
 have s03:=s02.trans s3
 have dsl:(dsOf ls).length=ls.length:=by unfold dsOf;rw [List.length_map]
 have dl0:(dsOf ls0).length=ls0.length:=by unfold dsOf;rw [List.length_map]
 have nd:((dsOf ls).map (·.1)).Nodup:=by
  rcases lc with rfl | rfl
  ·exact srt_nd dr.srt
  ·exact List.nodup_nil
 have ok:∀q∈dsOf ls,OkT h q.1/\1<=q.2:=fun q k=>by
  rcases lc with rfl | rfl
  ·exact ⟨(dr.ok q k).1,(dr.ok q k).2.1⟩
  ·exact nomatch k
 have l13:ls.length<=13:=by
  rcases lc with rfl | rfl
  ·have:=dr.len;omega
  ·exact Nat.zero_le _
 have nN:0<=nsumQ (dsOf ls)/\nsumQ (dsOf ls) < 2 ^ 40:=by
  rcases lc with rfl | rfl
  ·have nb:=nsum_lt (ds:=dsOf ls) (fun q k=>(dr.ok q k).2) mo2
   have:((dsOf ls).length:Int)<=13:=by omega
   have e:(2:Int) ^ 40=1099511627776:=rfl
   have:=nb.2
   exact ⟨by have:=nb.1;omega,by omega⟩
  ·exact ⟨Int.le_refl _,by decide⟩
 clear dr lc g2 e2 dl0
 subst_eqs
 refine ⟨p,sh,ns,ls,h,rfl,s03.seq hS,h63,e3,g3,nd,ok,l13,by omega,by omega,fun oh os H4 hoh s4 e4 g4 nd4 ok4 ns4 ol4=>?_⟩
 have s04:=s03.trans s4
 have okl:∀q∈ls,OkT h q.2.2.1/\0<=q.2.2.2/\Sz 64 q.2.2.2:=fun q k=>by
  have k':(q.2.2.1,q.2.2.2)∈dsOf ls:=List.mem_map.mpr ⟨q,k,rfl⟩
  have a:=ok _ k'
  have b:=num_nsum (fun q k=>by have:=(ok q k).2;omega) _ k'
  dsimp only at a b
  exact ⟨a.1,by omega,sz_of (by omega) (by omega)⟩
 have oko:∀q∈os,OkT h q.2.2.1/\0<=q.2.2.2/\Sz 64 q.2.2.2:=fun q k=>by
  have k':(q.2.2.1,q.2.2.2)∈dsOf os:=List.mem_map.mpr ⟨q,k,rfl⟩
  have a:=ok4 _ k'
  have b:=num_nsum (fun q k=>by have:=(ok4 q k).2;omega) _ k'
  dsimp only at a b
  exact ⟨a.1,by omega,sz_of (by omega) (by omega)⟩
 subst_eqs
 refine ⟨sh,ls,rfl,s4 _ _ e3,g3.same s4,by omega,fun H5 s5=>?_⟩
 have s05:=s04.trans s5
 subst_eqs
 refine ⟨p,ns,1,rfl,s05.seq hS,h63,by decide,by decide,fun c7 c70 c71=>?_⟩
 subst_eqs
 refine ⟨c7,h,rfl,sz40 c70 c71,by omega,by omega,fun dl0 ds0 H6 hdl0 s6 e6 g6 od6 se6 dle6=>?_⟩
 have s06:=s05.trans s6
 have p20:(0:Int) < 2 ^ h:=Int.pow_pos (by decide)
 subst_eqs
 refine ⟨fun σ' J=>∃(dl:Addr) (ds:List De),σ'=[some (.ref p),some (.int (h:Int)),some (.int most),some (.int (m:Int)),some (.ref sh),some (.ref oh),some (.int (nsumQ (dsOf ls))),some (.ref dl),none,none,none,none,none,none,none,none]/\Same H6 J/\J dl=some (.lst (dev ds))/\(∀x∈ds,DeG J x)/\OkD h (ds.map (·.2)) (2 ^ h - 1)/\(ds.map (·.2)).countP isSeat<=6/\(h<=5->(ds.map (·.2)).countP isSeat<=3)/\ds.length<=12,?_,?_⟩
 ·subst_eqs
  by_cases c:5 < (h:Int)
  ·refine ifT (decide_eq_true c) ?_
   subst_eqs
   refine ⟨p,ns,1,rfl,s06.seq hS,h63,by decide,by decide,fun c8 c80 c81=>?_⟩
   subst_eqs
   refine ⟨c8,(h:Int),rfl,sz40 c80 c81,by omega,by omega,fun lo xs G g1 eg px=>?_⟩
   rw [Int.toNat_natCast] at px
   have hx:∀x∈xs,0<=x/\x < h:=fun x m=>ups_mem.mp (px.mem_iff.mp m)
   have xn:xs.Nodup:=px.nodup_iff.mpr (ups_nd h)
   subst_eqs
   refine ⟨lo,_,rfl,SqL.of eg,fun l6 hl6=>?_⟩
   rw [show cutV (xs.map V.int) none (some 6)=(xs.take 6).map V.int from by rw [show cutV (xs.map V.int) none (some 6)=(xs.map V.int).take 6 from cut_take (j:=6),List.map_take]]
   generalize hys:xs.take 6=ys
   have yl:ys.length<=6:=by rw [<- hys];exact List.length_take_le _ _
   have g2':=same_new hl6 (.lst (ys.map V.int))
   have el6:(upd G l6 (.lst (ys.map V.int))) l6=some (.lst (ys.map V.int)):=upd_same
   generalize upd G l6 (.lst (ys.map V.int))=G1 at g2' el6 ⊢
   have s6G:=g1.trans g2'
   refine ⟨_,rfl,⟨_,SqL.of el6⟩,?_⟩
   refine comp_list (xs:=ys.map V.int) (by rw [List.length_map];exact small63 (by omega)) (fun D i zs J=>∃ds:List De,zs=dev ds/\J D=some (.lst zs)/\Same G1 J/\(∀x∈ds,DeG J x)/\ds.map (·.2)=(ys.take i).map fun x=>Dd.seat x.toNat) (fun D hD=>⟨[],rfl,upd_same,same_new hD _,(fun _ m=>absurd m List.not_mem_nil),rfl⟩) (fun D i zs J hq=>by
    obtain ⟨ds,f1,f2,_,_,f5⟩:=hq
    refine ⟨f2,?_⟩
    have a:=congrArg List.length f5
    rw [List.length_map,List.length_map,List.length_take] at a
    rw [f1]
    unfold dev
    rw [List.length_map]
    omega) (fun D i zs J hD hq=>by
    obtain ⟨_,_,_,f3,_⟩:=hq
    exact SqL.of (f3 _ _ el6)) ?_ ?_
   ·rintro D i x zs J K1 K2 hD hx0 ⟨ds,rfl,f2,f3,f4,f5⟩ kk1 kk2
    obtain ⟨y,hy,rfl⟩:=int_at hx0
    have ym:=List.mem_of_getElem? hy
    have yb:=hx y (by rw [<- hys] at ym;exact List.mem_of_mem_take ym)
    refine yes (ifT rfl ?_)
    subst_eqs
    refine ⟨(by show 2<=sizeLine;decide),fun t ht=>?_⟩
    have j1:=same_new ht (.tup [V.str "seat",V.int y])
    have et:(upd J t (.tup [V.str "seat",V.int y])) t=some (.tup [V.str "seat",V.int y]):=upd_same
    generalize upd J t (.tup [V.str "seat",V.int y])=J1 at j1 et ⊢
    have eD:=j1 _ _ f2
    have tu:∀{c:Addr} {us:List V},J1 c=some (.tup us)->(upd J1 D (.lst (dev ds++[V.ref t]))) c=some (.tup us):=fun ec=>by rw [upd_ne (ne_of ec eD (fun z=>by cases z))];exact ec
    refine kk1 _ _ eD ⟨ds++[(t,.seat y.toNat)],by unfold dev;rw [List.map_append];rfl,upd_same,same_upd (f3.trans j1) hD,fun z m=>?_,?_⟩
    ·rcases List.mem_append.mp m with m | m
     ·exact tu (j1 _ _ (f4 z m))
     ·rw [List.mem_singleton.mp m]
      show _=some (HO.tup [V.str "seat",V.int ((y.toNat:Nat):Int)])
      rw [Int.toNat_of_nonneg yb.1]
      exact tu et
    ·rw [List.map_append,f5,List.take_succ,hy,List.map_append]
     rfl
   rintro D zs J hD ⟨ds,rfl,f2,f3,f4,f5⟩
   rw [List.length_map,List.take_length] at f5
   have dn:(ds.map (·.2)).map Dd.num=ys.map Int.toNat:=by rw [f5,List.map_map];rfl
   have dle:ds.length<=6:=by
    have a:=congrArg List.length f5
    rw [List.length_map,List.length_map] at a
    omega
   have yn:(ys.map Int.toNat).Nodup:=by
    have yn0:ys.Nodup:=by rw [<- hys];exact xn.sublist (List.take_sublist _ _)
    refine List.pairwise_map.mpr (yn0.imp_of_mem fun {a b} ma mb ne e=>ne ?_)
    have a0:=(hx a (by rw [<- hys] at ma;exact List.mem_of_mem_take ma)).1
    have b0:=(hx b (by rw [<- hys] at mb;exact List.mem_of_mem_take mb)).1
    omega
   have cs:(ds.map (·.2)).countP isSeat<=6:=Nat.le_trans List.countP_le_length (by rw [List.length_map];exact dle)
   refine ⟨D,ds,rfl,s6G.trans f3,f2,f4,okd_of (by omega) (by omega) (by rw [dn];exact yn) (fun d m=>?_),cs,fun z=>by omega,by omega⟩
   rw [f5] at m
   obtain ⟨y,ym,rfl⟩:=List.mem_map.mp m
   have yb:=hx y (by rw [<- hys] at ym;exact List.mem_of_mem_take ym)
   exact ⟨.inl rfl,(by show y.toNat < h;omega),full_bit (by show y.toNat < h;omega)⟩
  ·refine ifF (decide_eq_false c) ?_
   exact ⟨dl0,ds0,rfl,fun _ _ e=>e,e6,g6,od6,by omega,fun _=>se6,by omega⟩
 clear e6 g6 od6 se6 dle6 hdl0
 rintro σ' H7 ⟨dl,ds,rfl,s7,e7,g7,od,se,se3,dle⟩
 have s07:=s06.trans s7
 have s37:=((s4.trans s5).trans s6).trans s7
 have s47:=(s5.trans s6).trans s7
 subst_eqs
 refine ⟨p,ns,2,rfl,s07.seq hS,h63,by decide,by decide,fun c9 c90 c91=>?_⟩
 have m6:=fmod_in (c9.fdiv 3) (show (0:Int) < 6 by decide)
 have m12:=fmod_in (c9.fdiv 3) (show (0:Int) < 12 by decide)
 have m9:=fmod_in (c9.fdiv 3) (show (0:Int) < 10 ^ (9:Int).toNat by decide)
 have m3:=fmod_in c9 (show (0:Int) < 3 by decide)
 have fd:0<=(nsumQ (dsOf ls)).fdiv (1+(c9.fdiv 3).fmod 6+1)/\(nsumQ (dsOf ls)).fdiv (1+(c9.fdiv 3).fmod 6+1)<=nsumQ (dsOf ls):=by
  rw [Int.fdiv_eq_ediv_of_nonneg _ (by omega)]
  exact ⟨Int.ediv_nonneg nN.1 (by omega),Int.ediv_le_self _ nN.1⟩
 subst_eqs
 refine ⟨⟨(by show (_:Int)≠0;omega),sz_of (by omega) (by omega)⟩,?_⟩
 subst_eqs
 refine ⟨(by show 3<=sizeLine;decide),fun ql hql=>?_⟩
 dsimp only
 have s8:=same_new hql (.lst [V.int ((nsumQ (dsOf ls)).fdiv (1+(c9.fdiv 3).fmod 6+1)+1),V.int (1+(c9.fdiv 3).fmod 12),V.int (1+(c9.fdiv 3).fmod (10 ^ (9:Int).toNat))])
 have e8:(upd H7 ql (.lst [V.int ((nsumQ (dsOf ls)).fdiv (1+(c9.fdiv 3).fmod 6+1)+1),V.int (1+(c9.fdiv 3).fmod 12),V.int (1+(c9.fdiv 3).fmod (10 ^ (9:Int).toNat))])) ql=some (.lst [V.int ((nsumQ (dsOf ls)).fdiv (1+(c9.fdiv 3).fmod 6+1)+1),V.int (1+(c9.fdiv 3).fmod 12),V.int (1+(c9.fdiv 3).fmod (10 ^ (9:Int).toNat))]):=upd_same
 generalize upd H7 ql (.lst [V.int ((nsumQ (dsOf ls)).fdiv (1+(c9.fdiv 3).fmod 6+1)+1),V.int (1+(c9.fdiv 3).fmod 12),V.int (1+(c9.fdiv 3).fmod (10 ^ (9:Int).toNat))])=H8 at s8 e8 ⊢
 have e940:(2:Int) ^ 40=1099511627776:=rfl
 have e9:(10:Int) ^ (9:Int).toNat=1000000000:=rfl
 subst_eqs
 obtain ⟨qu,hqu,q1,q2⟩:=pick3 (fun v=>1<=v/\v<=1099511627776) _ m3.1 m3.2 (show 1<=(nsumQ (dsOf ls)).fdiv (1+(c9.fdiv 3).fmod 6+1)+1/\(nsumQ (dsOf ls)).fdiv (1+(c9.fdiv 3).fmod 6+1)+1<=1099511627776 by omega) (show 1<=1+(c9.fdiv 3).fmod 12/\1+(c9.fdiv 3).fmod 12<=1099511627776 by omega) (show 1<=1+(c9.fdiv 3).fmod (10 ^ (9:Int).toNat)/\1+(c9.fdiv 3).fmod (10 ^ (9:Int).toNat)<=1099511627776 by omega)
 refine ⟨ql,_,_,_,rfl,rfl,SqL.of e8,hqu,?_⟩
 have qz:Sz 64 qu:=sz_of (by omega) (by omega)
 clear hqu e8 m3 m9 m12 m6 fd
 have sh8:=(s37.trans s8) _ _ e3
 have oh8:=(s47.trans s8) _ _ e4
 have dl8:=s8 _ _ e7
 subst_eqs
 intro la hla
 have s9:=same_new hla (.lst (vls ls))
 have ela:(upd H8 la (.lst (vls ls))) la=some (.lst (vls ls)):=upd_same
 generalize upd H8 la (.lst (vls ls))=H9 at s9 ela ⊢
 have oh9:=s9 _ _ oh8
 subst_eqs
 intro lb hlb
 have sa:=same_new hlb (.lst (vls os))
 have elb:(upd H9 lb (.lst (vls os))) lb=some (.lst (vls os)):=upd_same
 generalize upd H9 lb (.lst (vls os))=Ha at sa elb ⊢
 have dla:=(s9.trans sa) _ _ dl8
 subst_eqs
 intro lc hlc
 have sb:=same_new hlc (.lst (dev ds))
 have elc:(upd Ha lc (.lst (dev ds))) lc=some (.lst (dev ds)):=upd_same
 generalize upd Ha lc (.lst (dev ds))=Hb at sb elc ⊢
 subst_eqs
 refine ⟨(by show 3<=sizeLine;decide),fun hl3 hhl3=>?_⟩
 have sc:=same_new hhl3 (.lst [V.ref la,V.ref lb,V.ref lc])
 have eh:(upd Hb hl3 (.lst [V.ref la,V.ref lb,V.ref lc])) hl3=some (.lst [V.ref la,V.ref lb,V.ref lc]):=upd_same
 generalize upd Hb hl3 (.lst [V.ref la,V.ref lb,V.ref lc])=Hc at sc eh ⊢
 have s8c:=((s9.trans sa).trans sb).trans sc
 have s7c:=s8.trans s8c
 have s3c:=s37.trans s7c
 have s4c:=s47.trans s7c
 have ela':=((sa.trans sb).trans sc) _ _ ela
 have elb':=(sb.trans sc) _ _ elb
 have elc':=sc _ _ elc
 subst_eqs
 refine ⟨la,lc,h,qu,ls,ds,rfl,ela',g3.same s3c,okl,by omega,nN.2,q1,qz,elc',(fun x m=>(g7 x m).same s7c),od,se,by omega,fun lf fs Hd hlf sd ef gf tf zf=>?_⟩
 have eh':=sd _ _ eh
 subst_eqs
 refine ⟨lb,lc,h,qu,os,ds,rfl,sd _ _ elb',g4.same (s4c.trans sd),oko,by omega,by rw [ns4];exact nN.2,q1,qz,sd _ _ elc',(fun x m=>(g7 x m).same (s7c.trans sd)),od,se,by omega,fun rt gs He hrt se' eg gg tg zg=>?_⟩
 have sce:=sd.trans se'
 have s7e:=s7c.trans sce
 have s3e:=s3c.trans sce
 have s4e:=s4c.trans sce
 have ef':=se' _ _ ef
 have gf':∀f∈fs,FqG He f:=fun f m=>(gf f m).same se'
 subst_eqs
 refine ⟨(by show 3<=sizeLine;decide),fun l3 hl3'=>?_⟩
 have sf:=same_new hl3' (.lst [V.ref sh,V.ref oh,V.ref dl])
 have el3:(upd He l3 (.lst [V.ref sh,V.ref oh,V.ref dl])) l3=some (.lst [V.ref sh,V.ref oh,V.ref dl]):=upd_same
 generalize upd He l3 (.lst [V.ref sh,V.ref oh,V.ref dl])=Hf at sf el3 ⊢
 have s3f:=s3e.trans sf
 have s4f:=s4e.trans sf
 have s7f:=s7e.trans sf
 have scf:=sce.trans sf
 refine ⟨.list [.list (ls.map lnD),.list (os.map lnD),.list (ds.map deD)],.list [.list (ls.map lnD),.list (os.map lnD),.list (ds.map deD)],.lst (SqL.of (scf _ _ eh)) (.cons (.lst (SqL.of (scf _ _ ela')) (reps_ln (g3.same s3f))) (.cons (.lst (SqL.of (scf _ _ elb')) (reps_ln (g4.same s4f))) (.cons (.lst (SqL.of (scf _ _ elc')) (reps_de fun x m=>(g7 x m).same s7f)) .nil))),.lst (SqL.of el3) (.cons (.lst (SqL.of (s3f _ _ e3)) (reps_ln (g3.same s3f))) (.cons (.lst (SqL.of (s4f _ _ e4)) (reps_ln (g4.same s4f))) (.cons (.lst (SqL.of (s7f _ _ e7)) (reps_de fun x m=>(g7 x m).same s7f)) .nil))),(lay_three ((lay_lns ls).mono (by decide)) ((lay_lns os).mono (by decide)) (lay_des ds)).shaped (by decide),(lay_three ((lay_lns ls).mono (by decide)) ((lay_lns os).mono (by decide)) (lay_des ds)).shaped (by decide),?_⟩
 rw [(lay_three ((lay_lns ls).mono (by decide)) ((lay_lns os).mono (by decide)) (lay_des ds)).eqv]
 have m00:(0:Int)<=2 ^ h - 1:=by omega
 have hnl:∀p∈dsOf ls,0<=p.2:=fun p k=>by have:=(ok p k).2;omega
 have hno:∀p∈dsOf os,0<=p.2:=fun p k=>by have:=(ok4 p k).2;omega
 have okkl:∀p∈dsOf ls,Okk h p.1:=fun p k=>(ok p k).1.1
 have okko:∀p∈dsOf os,Okk h p.1:=fun p k=>(ok4 p k).1.1
 have sul:(sumB (alongR (dsOf ls) h qu (ds.map (·.2))) (h+1) fun _=>true)=((nsumQ (dsOf ls):Int):Rat):=by
  unfold alongR
  exact go_sum hnl okkl q1 (by omega) _ _ _ _ m00 od (RunA.start _ h)
 have suo:(sumB (alongR (dsOf os) h qu (ds.map (·.2))) (h+1) fun _=>true)=((nsumQ (dsOf ls):Int):Rat):=by
  rw [<- ns4]
  exact go_sum hno okko q1 (by omega) (ds.map (·.2)) _ _ _ m00 od (RunA.start _ h)
 have ddl:=go_dd hnl q1 (show h<=12 by omega) (ds.map (·.2)) _ _ _ m00 od (RunA.start (dsOf ls) h)
 have ddo:=go_dd hno q1 (show h<=12 by omega) (ds.map (·.2)) _ _ _ m00 od (RunA.start (dsOf os) h)
 have Nz:Sz 64 (nsumQ (dsOf ls)):=sz_of (by omega) (by omega)
 subst_eqs
 refine ⟨(by show 2<=sizeLine;decide),fun l2 hl2=>?_⟩
 have sg:=same_new hl2 (.lst [V.ref lf,V.ref rt])
 have el2:(upd Hf l2 (.lst [V.ref lf,V.ref rt])) l2=some (.lst [V.ref lf,V.ref rt]):=upd_same
 generalize upd Hf l2 (.lst [V.ref lf,V.ref rt])=Hg at sg el2 ⊢
 refine ⟨_,rfl,⟨_,SqL.of el2⟩,for_list (xs:=[V.ref lf,V.ref rt]) (fun i σ' J=>∃v13:Option V,σ'=[some (.ref p),some (.int (h:Int)),some (.int most),some (.int (m:Int)),some (.ref sh),some (.ref oh),some (.int (nsumQ (dsOf ls))),some (.ref dl),some (.int c9),some (.int qu),some (.ref hl3),some (.ref lf),some (.ref rt),v13,none,none]/\Same Hg J) ⟨none,rfl,fun _ _ e=>e⟩ (fun i σ' J _ hq=>by
  obtain ⟨_,_,e⟩:=hq
  exact SqL.of (e _ _ el2)) ?_ ?_⟩
 ·rintro i w σ' J hw ⟨v13,rfl,sJ⟩
  have seJ:=(sf.trans sg).trans sJ
  have s7J:=s7e.trans seJ
  have alt:w=.ref lf\/w=.ref rt:=by
   rcases List.mem_cons.mp (List.mem_of_getElem? hw) with k | k
   ·exact .inl k
   ·exact .inr (List.mem_singleton.mp k)
  rcases alt with rfl | rfl
  ·subst_eqs
   refine ⟨lf,dl,h,nsumQ (dsOf ls),qu,fs,_,ds,rfl,seJ _ _ ef',(fun x m=>(gf' x m).same seJ),tf,zf,sul,s7J _ _ e7,(fun x m=>(g7 x m).same s7J),(fun x m=>ddl x.2 (List.mem_map.mpr ⟨x,m,rfl⟩)),by omega,qz,Nz,fun J1 j1=>?_⟩
   subst_eqs
   exact sJ.trans j1
  ·subst_eqs
   refine ⟨rt,dl,h,nsumQ (dsOf ls),qu,gs,_,ds,rfl,seJ _ _ eg,(fun x m=>(gg x m).same seJ),tg,zg,suo,s7J _ _ e7,(fun x m=>(g7 x m).same s7J),(fun x m=>ddo x.2 (List.mem_map.mpr ⟨x,m,rfl⟩)),by omega,qz,Nz,fun J1 j1=>?_⟩
   subst_eqs
   exact sJ.trans j1
 rintro σ' Hh ⟨v13,rfl,sh'⟩
 have seh:=(sf.trans sg).trans sh'
 have s3h:=s3e.trans seh
 have s4h:=s4e.trans seh
 have ap:=apart_in (dsOf os) hnl (numQ_nn hno)
 subst_eqs
 refine ⟨sh,oh,ls,os,rfl,s3h _ _ e3,g3.same s3h,by omega,s4h _ _ e4,g4.same s4h,by omega,nd4,fun Hi si=>?_⟩
 have sei:=seh.trans si
 subst_eqs
 refine ⟨lf,rt,h,apartQ (dsOf ls) (dsOf os),fs,gs,_,_,rfl,sei _ _ ef',(fun x m=>(gf' x m).same sei),tf,sei _ _ eg,(fun x m=>(gg x m).same sei),tg,(fun j hj=>⟨zf j hj,zg j hj,lips hnl hno okkl okko nd ns4.symm q1 (by omega) od hj⟩),by omega,sz_of (by omega) (by omega),fun Hj sj=>?_⟩
 have sej:=sei.trans sj
 subst_eqs
 refine ⟨fun σ' J=>σ'=[some (.ref p),some (.int (h:Int)),some (.int most),some (.int (m:Int)),some (.ref sh),some (.ref oh),some (.int (nsumQ (dsOf ls))),some (.ref dl),some (.int c9),some (.int qu),some (.ref hl3),some (.ref lf),some (.ref rt),v13,none,none]/\Same Hj J,?_,?_⟩
 ·subst_eqs
  by_cases c:(h:Int) < 6
  ·refine ifT (decide_eq_true c) ?_
   have s3j:=s3e.trans sej
   have s7j:=s7e.trans sej
   subst_eqs
   refine ⟨lf,_,rfl,SqL.of (sej _ _ ef'),fun l4 hl4=>?_⟩
   rw [show cutV (fqv fs) none (some (h:Int))=fqv (fs.take h) from by rw [cut_take];unfold fqv;rw [List.map_take]]
   have g1:=same_new hl4 (.lst (fqv (fs.take h)))
   have el4:(upd Hj l4 (.lst (fqv (fs.take h)))) l4=some (.lst (fqv (fs.take h))):=upd_same
   generalize upd Hj l4 (.lst (fqv (fs.take h)))=G1 at g1 el4 ⊢
   subst_eqs
   refine ⟨sh,dl,h,qu,ls,ds,rfl,(s3j.trans g1) _ _ e3,g3.same (s3j.trans g1),okl,l13,nN.2,q1,qz,(s7j.trans g1) _ _ e7,(fun x m=>(g7 x m).same (s7j.trans g1)),od,se3 (by omega),by omega,fun wk ws G2 hwk g2 ew gw vw=>?_⟩
   have eqv:(fs.take h).map (·.2)=ws.map (·.2):=by
    rw [vw,List.map_take,tf,<- List.map_take,<- List.map_take,List.take_range,Nat.min_eq_left (Nat.le_succ h)]
   have r1:Rep K G2 (.ref l4) (.list (((fs.take h).map (·.2)).map fD)):=.lst (SqL.of (g2 _ _ el4)) (reps_f fun f m=>(gf' f (List.mem_of_mem_take m)).same ((sej.trans g1).trans g2))
   have r2:Rep K G2 (.ref wk) (.list ((ws.map (·.2)).map fD)):=.lst (SqL.of ew) (reps_f gw)
   rw [eqv] at r1
   refine ⟨_,_,r1,r2,(lay_fs _).shaped (by decide),(lay_fs _).shaped (by decide),?_⟩
   rw [(lay_fs _).eqv]
   subst_eqs
   exact g1.trans g2
  ·refine ifF (decide_eq_false c) ?_
   exact ⟨rfl,fun _ _ e=>e⟩
 rintro σ' Hk ⟨rfl,sk⟩
 have sek:=sej.trans sk
 have efk:=sek _ _ ef'
 have egk:=sek _ _ eg
 subst_eqs
 intro ka hka
 have sl:=same_new hka (.lst (fqv fs))
 have eka:(upd Hk ka (.lst (fqv fs))) ka=some (.lst (fqv fs)):=upd_same
 generalize upd Hk ka (.lst (fqv fs))=Hl at sl eka ⊢
 have egl:=sl _ _ egk
 subst_eqs
 intro kb hkb
 have sm:=same_new hkb (.lst (fqv gs))
 have ekb:(upd Hl kb (.lst (fqv gs))) kb=some (.lst (fqv gs)):=upd_same
 generalize upd Hl kb (.lst (fqv gs))=Hm at sm ekb ⊢
 subst_eqs
 refine ⟨(by show 2<=sizeLine;decide),fun kp hkp=>?_⟩
 have sn:=same_new hkp (.lst [V.ref ka,V.ref kb])
 have ekp:(upd Hm kp (.lst [V.ref ka,V.ref kb])) kp=some (.lst [V.ref ka,V.ref kb]):=upd_same
 generalize upd Hm kp (.lst [V.ref ka,V.ref kb])=Hn at sn ekp ⊢
 have sen:=sek.trans ((sl.trans sm).trans sn)
 have scn:=sce.trans sen
 have ehn:=scn _ _ eh
 subst_eqs
 refine ⟨la,lc,h,qu,ls,ds,rfl,scn _ _ ela',g3.same (s3e.trans sen),okl,by omega,nN.2,q1,qz,scn _ _ elc',(fun x m=>(g7 x m).same (s7e.trans sen)),od,se,by omega,fun ag as Ho hag so ea ga ta za=>?_⟩
 have seo:=sen.trans so
 have ekpo:=so _ _ ekp
 have eqa:as.map (·.2)=fs.map (·.2):=by rw [ta,tf]
 have r1:Rep K Ho (.ref ag) (.list ((as.map (·.2)).map fD)):=.lst (SqL.of ea) (reps_f ga)
 have r2:Rep K Ho (.ref ka) (.list ((fs.map (·.2)).map fD)):=.lst (SqL.of (((sm.trans sn).trans so) _ _ eka)) (reps_f fun f m=>(gf' f m).same seo)
 rw [eqa] at r1
 subst_eqs
 refine ⟨_,_,r1,r2,(lay_fs _).shaped (by decide),(lay_fs _).shaped (by decide),?_⟩
 rw [(lay_fs _).eqv]
 refine ⟨_,rfl,ifT rfl ?_⟩
 subst_eqs
 refine ⟨(by show 2<=sizeLine;decide),fun lz hlz=>?_⟩
 have sp:=same_new hlz (.lst [V.ref lf,V.ref rt])
 have elz:(upd Ho lz (.lst [V.ref lf,V.ref rt])) lz=some (.lst [V.ref lf,V.ref rt]):=upd_same
 generalize upd Ho lz (.lst [V.ref lf,V.ref rt])=Hp' at sp elz ⊢
 have sep:=seo.trans sp
 have s3:Rep K Hp' (.ref lf) (.list ((fs.map (·.2)).map fD)):=.lst (SqL.of (sep _ _ ef')) (reps_f fun f m=>(gf' f m).same sep)
 have s4:Rep K Hp' (.ref rt) (.list ((gs.map (·.2)).map fD)):=.lst (SqL.of (sep _ _ eg)) (reps_f fun f m=>(gg f m).same sep)
 have s5:Rep K Hp' (.ref kb) (.list ((gs.map (·.2)).map fD)):=.lst (SqL.of (((sn.trans so).trans sp) _ _ ekb)) (reps_f fun f m=>(gg f m).same sep)
 subst_eqs
 refine ⟨_,_,.lst (SqL.of elz) (.cons s3 (.cons s4 .nil)),.lst (SqL.of (sp _ _ ekpo)) (.cons (r2.same sp) (.cons s5 .nil)),(lay_duo (lay_fs _) (lay_fs _)).shaped (by decide),(lay_duo (lay_fs _) (lay_fs _)).shaped (by decide),?_⟩
 rw [(lay_duo (lay_fs _) (lay_fs _)).eqv]
 exact q _
end
theorem by_len1 {α:Type} {P:List α->Prop} (h:∀x0,P [x0]):∀us:List α,us.length=1->P us
 | [_],_=>h _
theorem by_len2 {α:Type} {P:List α->Prop} (h:∀x0 x1,P [x0,x1]):∀us:List α,us.length=2->P us
 | [_,_],_=>h _ _
theorem by_len3 {α:Type} {P:List α->Prop} (h:∀x0 x1 x2,P [x0,x1,x2]):∀us:List α,us.length=3->P us
 | [_,_,_],_=>h _ _ _
theorem by_len4 {α:Type} {P:List α->Prop} (h:∀x0 x1 x2 x3,P [x0,x1,x2,x3]):∀us:List α,us.length=4->P us
 | [_,_,_,_],_=>h _ _ _ _
theorem by_len5 {α:Type} {P:List α->Prop} (h:∀x0 x1 x2 x3 x4,P [x0,x1,x2,x3,x4]):∀us:List α,us.length=5->P us
 | [_,_,_,_,_],_=>h _ _ _ _ _
theorem by_len6 {α:Type} {P:List α->Prop} (h:∀x0 x1 x2 x3 x4 x5,P [x0,x1,x2,x3,x4,x5]):∀us:List α,us.length=6->P us
 | [_,_,_,_,_,_],_=>h _ _ _ _ _ _
theorem all_mk {l:PySem.W.OpenLaw} {w:World} {K:PySem.W.Frag} {h:Heap} {mg:Str->Option Value} {fa:Addr} {ad:Ads} (X:K.In h) (hfa:mg "law"=some (.ref fa)) (T:Tx K mg ad) (hb:∀(s:Shared) (v:Value),BindsTo s ad.d_law ⟨[v],[]⟩ [("_law_script",v)]) :
 ∃fd:FuncData,(∀(s:Shared) (v:Value),BindsTo s fd ⟨[v],[]⟩ [("_law_script",v)])/\∀base:Heap,K.In base->base.Ns mainGlobals mg->FnOk l.prog w K mg base CX0 8 fa fd ["_law_script"] (spLaw K):=by
 have e:=hfa.symm.trans T.m_law
 cases e
 exact ⟨_,hb,fun base _ _=>ok_law T⟩
theorem walk {l:PySem.W.OpenLaw} {q:Program} {loose:List Str} {XP:(Str->Option Value)->Heap->Prop} {YP:World->Heap->Prop} {d:DefRec} {K:Params->PySem.W.Frag} (hn:l.most=some 63) (hdf:d.params.defaults=[])
 (hY:∀(w:World) (h:Heap),YP w h->(K w.params).In h)
 (F:∀(w:World) (mg:Str->Option Value) (fa:Addr) (h:Heap),(K w.params).In h->h.Ns mainGlobals mg->mg d.name=some (.ref fa) ->
  ∃fd:FuncData,(∀(s:Shared) (u:Value),BindsTo s fd ⟨[u],[]⟩ [("_law_script",u)])/\∀base:Heap,(K w.params).In base->base.Ns mainGlobals mg->FnOk l.prog w (K w.params) mg base CX0 8 fa fd ["_law_script"] (spLaw (K w.params))) :
 PySem.W.WalkO q loose XP YP l.row.toRowW d [] (fun f vs=>PySem.call f vs) :=
 L2.walk_of (n:=63) (k:=8) (x:="_law_script") (CX:=fun _=>CX0) (sp:=fun w=>spLaw (K w.params)) hn (by decide) hdf ⟨rfl,by decide,by decide⟩ hY F (fun _ _ a ns hl _ hS=>⟨a,ns,rfl,hS,hl,fun _=>rfl⟩) fun _ _ _ _ _ z=>z
end Law
open PySem PySem.W PyProof.Rows
set_option maxRecDepth 100000 in
set_option maxHeartbeats 0 in
theorem PySem.Challenge.cw_pollproof_k44_tallies_of_two_sheets_holds : PySem.Challenge.rw_pollproof_k44_tallies_of_two_sheets.Holds := by
 refine Head.top ?_
 k_fill
 refine Law.walk (l:=PySem.Challenge.rw_pollproof_k44_tallies_of_two_sheets) rfl rfl (fun w h Y=>PySem.W.kIn_of Y) ?F
 case F =>
  intro w mg fa h KX G hmg
  refine' Law.all_mk (ad:=Law.Ads.mk ..) KX hmg ?T ?hb
  case T =>
   apply Law.Tx.mk
   all_goals try dsimp only
   all_goals first
    | (refine mg_of KX G ?_;k_is)
    | (refine mg_none_of KX G ?_;k_is)
    | k_is
    | (show _=_;first | k_is | k_exc)
    | (apply L2.fun_mk <;> k_is)
    | exact .all (Law.by_len1 fun _=>rfl)
    | exact .all (Law.by_len2 fun _ _=>rfl)
    | exact .all (Law.by_len3 fun _ _ _=>rfl)
    | exact .all (Law.by_len4 fun _ _ _ _=>rfl)
    | exact .all (Law.by_len5 fun _ _ _ _ _=>rfl)
    | exact .all (Law.by_len6 fun _ _ _ _ _ _=>rfl)
    | (constructor <;> k_is)
  case hb=>exact fun s v=>.of_eq rfl
#print axioms PySem.Challenge.cw_pollproof_k44_tallies_of_two_sheets_holds
